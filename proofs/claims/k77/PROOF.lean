import PyProof.Rows.All
import Wide.All
import OpenK.AllK
import Wide.FinOn
import KE.KStateDown
import HandS.ForMost
import HandS.Conv
import HandS.Flow
import HandS.Style
import HandS.TupAny
import HandS.TupMul
import HandS.IsInst
import HandS.Wide
import HandS.Defaults
import HandS.Zip
import HandS.Evl
import HandS.More
import HandS.WordsExc
import HandS.Head2
import HandS.HeadEnd
import HandS.HeadHook2
import HandS.Walk
import HandS.ExcInit
import HandS.HeadHook4
import KE.KExcIs
import KE.KTryMore
import KE.KExcInit
import PyProof.ReprRoads
import PyProof.ReprText
import PyProof.ReprLen
import HandS.RevRange
import HandS.SortInts
import KE.GoesMore
import HandS.DictComp
import HandS.Dict
import HandS.SortRule
import HandS.Deep
import HandS.Strs
import KE.GoesZip
import KE.GoesEnum
import HandS.DictTup
import KE.KDictZip
import HandS.SetFor
import HandS.Small
import KE.KSortTupAny
import HandS.CallLocal
import KE.DataMinMax
import PyProof.SumAnyB
import HandS.TupLe
import HandS.TryOnly
import HandS.OwnEq
import HandS.MakeKw
import HandS.CallSlots
import HandS.SuiteRaise
import KE.KExcRaise
import HandS.HotCalls
import HandS.Iter
import PySem.Challenge.RW_hayherd_k77_whole_come_ahead_and_behind
set_option Elab.async false
set_option linter.all false
set_option maxRecDepth 100000
set_option maxHeartbeats 4000000
namespace HH
open PySem PySem.Spec PyProof.Rows L2
section
variable {X : Cx}
def CPowW (i j : Int) : Prop := 0 ≤ j ∧ (Builtin.Int.intBits i : Int) * j ≤ 2 ^ 27
theorem op_powW : OpR X (binaryOp .Pow) (rI CPowW fun i j => .int (i ^ j.toNat)) := opI fun _ _ _ _ _ _ _ hc q => pow_int hc.1 hc.2 q
def gSl (to ta tc : TE) : TG := fun v σ H Q => to σ H fun o H1 => ta σ H1 fun a H2 => tc σ H2 fun c H3 => ∃ (l b : Addr) (xs ys : List V) (i j : Int), o = .ref l ∧ v = .ref b ∧ a = .int i ∧ c = .int j ∧ H3 l = some (.lst xs) ∧ H3 b = some (.lst ys) ∧ l ≠ b ∧ 0 ≤ i ∧ i ≤ j ∧ j ≤ xs.length ∧ xs.length + ys.length ≤ sizeLine ∧ Q σ (upd H3 l (.lst (xs.take i.toNat ++ ys ++ xs.drop j.toNat)))
theorem pg_sl {o a c : Expr} {to ta tc : TE} {p2 pos : Pos} (ho : PE X o to) (hl : PE X a ta) (hu : PE X c tc) : PG X (.Subscript o (.Slice (some a) (some c) none p2) pos) (gSl to ta tc) := by
  refine ⟨fun pins s σ H v u Q I0 r0 h0 => ?_⟩
  rw [arm_assign_Subscript]
  refine wpAny_bind (wpAny_holding (thn (ho.run pins s σ H _ I0 h0) fun ov s1 ⟨x, H1, I1, r1, q1⟩ => ?_))
  refine wpAny_bind (wpAny_holding (wpAny_Slice (thn (hl.run pins s1 σ H1 _ I1 q1) fun lv s2 ⟨y, H2, I2, r2, q2⟩ => ?_)))
  refine thn (hu.run pins s2 σ H2 _ I2 q2) fun uv s3 ⟨z, H3, I3, r3, q3⟩ => ?_
  obtain ⟨l, b, xs, ys, i, j, rfl, rfl, rfl, rfl, hH, hB, hne, h0, hij, hj, hz, q⟩ := q3
  cases r1
  cases r0
  refine wpAny_of_eq (evalPart_none _) ?_
  have I5 : Inv X pins σ H3 { s3 with heap := s3.heap.push { cls := .type "slice", data := .fields #[lv, uv, .none] } } := I3.kept (t' := s3.toks) fun b ob q => Heap.get?_push_of_some _ q
  refine wpAny_bind (wpAny_standAt (wpAny_bind (wpAny_holding (set_slice I5 hH hB hne (Heap.IsSliceOf.new _ _ _ _) r2 r3 h0 hij hj hz fun s' I6 => ?_))))
  exact wpAny_release ⟨σ, _, I6, q⟩
theorem ix_tupK {K : PySem.W.Frag} (h : X.K = K := by rfl) : IxR X (rIxT K) := by
  subst h
  exact ix_tup
theorem ix_listK {K : PySem.W.Frag} (h : X.K = K := by rfl) : IxR X (rIxL K) := by
  subst h
  exact ix_list
end
end HH
set_option maxHeartbeats 4000000
namespace HH
open PySem PySem.Spec PyProof.Rows L2 Evl
abbrev FnP (K : PySem.W.Frag) (x : Str) (st : Stmt) (f : Addr) (fd : FuncData) : Prop := FunD K x x (defArgs st) (defBody st) (defScope st) [] [] f fd
structure Has (P : Program) (w : World) (K : PySem.W.Frag) (mg : Str → Option Value) (base : Heap) (k : Nat) (x : Str) (ps : List Str) (sp : Sp) (f : Addr) (fd : FuncData) : Prop where
  G : FnOk P w K mg base CX0 k f fd ps sp
  g : mg x = some (.ref f)
  kp : PySem.W.keepIn K (.ref f) = true
  b : Binds K fd ps []
def ExB (b : Addr) (H H' : Hp) : Prop := ∀ a o, a ≠ b → H a = some o → H' a = some o
theorem ExB.refl (b : Addr) (H : Hp) : ExB b H H := fun _ _ _ h => h
theorem ExB.trans {b : Addr} {H H1 H2 : Hp} (x : ExB b H H1) (y : ExB b H1 H2) : ExB b H H2 := fun a o n h => y a o n (x a o n h)
theorem ExB.of {b : Addr} {H H' : Hp} (e : Ex H H') : ExB b H H' := fun a o _ h => e a o h
theorem ExB.new {b p : Addr} {H H' : Hp} {o : HO} (e : ExB b H H') (h : H' p = none) : ExB b H (upd H' p o) := e.trans (.of (Ex.new h))
theorem ExB.upd {b : Addr} {H H' : Hp} {o : HO} (e : ExB b H H') : ExB b H (upd H' b o) := fun a u n h => by
  rw [upd_ne n]
  exact e a u n h
theorem ExB.mut {b p : Addr} {H H' : Hp} {o : HO} (e : ExB b H H') (h : H p = none) : ExB b H (L2.upd H' p o) := fun a u n ha => by
  rw [upd_ne (ne_of_none ha h)]
  exact e a u n ha
theorem ExB.rd {b a : Addr} {H H' : Hp} {u : HO} (e : ExB b H H') (n : a ≠ b) (h : Rd H a u) : Rd H' a u := by
  rcases h with h | ⟨o, h⟩
  · exact .inl (e a _ n h)
  · exact .inr ⟨o, e a _ n h⟩
theorem ExB.l {K : PySem.W.Frag} {b a : Addr} {H H' : Hp} {xs : List V} (e : ExB b H H') (n : a ≠ b) (h : SqL K H a xs) : SqL K H' a xs := by
  rcases h with h | h
  · exact .inl (e.rd n h)
  · exact .inr h
theorem ExB.t {K : PySem.W.Frag} {b a : Addr} {H H' : Hp} {xs ys : List V} (e : ExB b H H') (hb : H b = some (.lst ys)) (h : SqT K H a xs) : SqT K H' a xs := by
  rcases h with h | h
  · refine .inl (e.rd (fun z => ?_) h)
    subst z
    rcases h with h | ⟨o, h⟩
    · rw [hb] at h
      cases h
    · rw [hb] at h
      cases h
  · exact .inr h
def Lim : Nat := 2 ^ 4000
def Bx (H : Hp) (p : Addr) (n : Nat) : Prop := ∃ a b c : Int, H p = some (.lst [.int a, .int b, .int c]) ∧ 0 ≤ a ∧ 0 ≤ b ∧ b < 2 ^ 62 ∧ 0 ≤ c ∧ c ≤ n
theorem Bx.ex {H H' : Hp} {p : Addr} {n : Nat} (h : Bx H p n) (e : Ex H H') : Bx H' p n := by
  obtain ⟨a, b, c, h1, h2⟩ := h
  exact ⟨a, b, c, e _ _ h1, h2⟩
theorem Bx.mut {H : Hp} {p q : Addr} {n : Nat} {o : HO} (h : Bx H p n) (e : p ≠ q) : Bx (upd H q o) p n := by
  obtain ⟨a, b, c, h1, h2⟩ := h
  exact ⟨a, b, c, by rw [upd_ne e]; exact h1, h2⟩
theorem Bx.le {H : Hp} {p : Addr} {n m : Nat} (h : Bx H p n) (e : n ≤ m) : Bx H p m := by
  obtain ⟨a, b, c, h1, h2, h3, h4, h5, h6⟩ := h
  exact ⟨a, b, c, h1, h2, h3, h4, h5, by omega⟩
theorem Bx.lst {H : Hp} {p : Addr} {n : Nat} (h : Bx H p n) : ∃ xs, H p = some (.lst xs) := by
  obtain ⟨a, b, c, h1, _⟩ := h
  exact ⟨_, h1⟩
theorem Bx.ne {H : Hp} {p q : Addr} {n : Nat} (h : Bx H p n) (hq : H q = none) : p ≠ q := by
  obtain ⟨xs, h⟩ := h.lst
  exact ne_of_none h hq
abbrev Row := List (Int × Int)
def BeastAt (K : PySem.W.Frag) (H : Hp) (v : V) (b : Int × Int) : Prop := ∃ p, v = .ref p ∧ SqT K H p [.int b.1, .int b.2]
def Beasts (K : PySem.W.Frag) (H : Hp) (vs : List V) (rs : Row) : Prop := vs.length = rs.length ∧ ∀ (i : Nat) (b : Int × Int), rs[i]? = some b → ∃ u, vs[i]? = some u ∧ BeastAt K H u b
def RowAt (K : PySem.W.Frag) (H : Hp) (v : V) (rs : Row) : Prop := ∃ a vs, v = .ref a ∧ SqT K H a vs ∧ Beasts K H vs rs
theorem BeastAt.ex {K : PySem.W.Frag} {H H' : Hp} {v : V} {b : Int × Int} (e : Ex H H') (h : BeastAt K H v b) : BeastAt K H' v b := by
  obtain ⟨p, h1, h2⟩ := h
  exact ⟨p, h1, ex_t e h2⟩
theorem BeastAt.exB {K : PySem.W.Frag} {H H' : Hp} {v : V} {b : Int × Int} {q : Addr} {ys : List V} (e : ExB q H H') (hq : H q = some (.lst ys)) (h : BeastAt K H v b) : BeastAt K H' v b := by
  obtain ⟨p, h1, h2⟩ := h
  exact ⟨p, h1, e.t hq h2⟩
theorem Beasts.ex {K : PySem.W.Frag} {H H' : Hp} {vs : List V} {rs : Row} (e : Ex H H') (h : Beasts K H vs rs) : Beasts K H' vs rs := ⟨h.1, fun i b hi => by
  obtain ⟨u, h1, h2⟩ := h.2 i b hi
  exact ⟨u, h1, h2.ex e⟩⟩
theorem Beasts.exB {K : PySem.W.Frag} {H H' : Hp} {vs : List V} {rs : Row} {q : Addr} {ys : List V} (e : ExB q H H') (hq : H q = some (.lst ys)) (h : Beasts K H vs rs) : Beasts K H' vs rs := ⟨h.1, fun i b hi => by
  obtain ⟨u, h1, h2⟩ := h.2 i b hi
  exact ⟨u, h1, h2.exB e hq⟩⟩
theorem RowAt.ex {K : PySem.W.Frag} {H H' : Hp} {v : V} {rs : Row} (h : RowAt K H v rs) (e : Ex H H') : RowAt K H' v rs := by
  obtain ⟨a, vs, h1, h2, h3⟩ := h
  exact ⟨a, vs, h1, ex_t e h2, h3.ex e⟩
theorem RowAt.exB {K : PySem.W.Frag} {H H' : Hp} {v : V} {rs : Row} {q : Addr} {n : Nat} (h : RowAt K H v rs) (e : ExB q H H') (hb : Bx H q n) : RowAt K H' v rs := by
  obtain ⟨a, vs, h1, h2, h3⟩ := h
  obtain ⟨ys, hy⟩ := hb.lst
  exact ⟨a, vs, h1, e.t hy h2, h3.exB e hy⟩
theorem Beasts.nil {K : PySem.W.Frag} {H : Hp} : Beasts K H [] [] := ⟨rfl, fun i b h => by simp at h⟩
theorem Beasts.app {K : PySem.W.Frag} {H : Hp} {vs us : List V} {rs ss : Row} (h : Beasts K H vs rs) (g : Beasts K H us ss) : Beasts K H (vs ++ us) (rs ++ ss) := by
  refine ⟨by rw [List.length_append, List.length_append, h.1, g.1], fun i b hi => ?_⟩
  by_cases hl : i < rs.length
  · rw [List.getElem?_append_left hl] at hi
    rw [List.getElem?_append_left (by rw [h.1]; exact hl)]
    exact h.2 i b hi
  · rw [List.getElem?_append_right (by omega)] at hi
    rw [List.getElem?_append_right (by rw [h.1]; omega), h.1]
    exact g.2 _ b hi
theorem Beasts.one {K : PySem.W.Frag} {H : Hp} {v : V} {b : Int × Int} (h : BeastAt K H v b) : Beasts K H [v] [b] := by
  refine ⟨rfl, fun i c hi => ?_⟩
  cases i with
  | zero =>
    cases hi
    exact ⟨v, rfl, h⟩
  | succ i => simp at hi
theorem Beasts.take {K : PySem.W.Frag} {H : Hp} {vs : List V} {rs : Row} (n : Nat) (h : Beasts K H vs rs) : Beasts K H (vs.take n) (rs.take n) := by
  refine ⟨by rw [List.length_take, List.length_take, h.1], fun i b hi => ?_⟩
  rw [List.getElem?_take] at hi ⊢
  by_cases hl : i < n
  · rw [if_pos hl] at hi ⊢
    exact h.2 i b hi
  · rw [if_neg hl] at hi
    cases hi
theorem Beasts.drop {K : PySem.W.Frag} {H : Hp} {vs : List V} {rs : Row} (n : Nat) (h : Beasts K H vs rs) : Beasts K H (vs.drop n) (rs.drop n) := by
  refine ⟨by rw [List.length_drop, List.length_drop, h.1], fun i b hi => ?_⟩
  rw [List.getElem?_drop] at hi ⊢
  exact h.2 _ b hi
theorem cut_to (xs : List V) (j : Nat) : cutV xs none (some (j : Int)) = xs.take j := by
  unfold cutV
  rw [HT.sIx_none, HT.sIx_nat, Nat.sub_zero, List.drop_zero]
  by_cases h : j ≤ xs.length
  · rw [Nat.min_eq_left h]
  · rw [Nat.min_eq_right (by omega), List.take_of_length_le (Nat.le_refl _), List.take_of_length_le (by omega)]
theorem cut_from (xs : List V) (j : Nat) : cutV xs (some (j : Int)) none = xs.drop j := by
  unfold cutV
  rw [HT.sIx_none, HT.sIx_nat]
  by_cases h : j ≤ xs.length
  · rw [Nat.min_eq_left h]
    exact List.take_of_length_le (by rw [List.length_drop]; omega)
  · rw [Nat.min_eq_right (by omega), Nat.sub_self, List.take_zero, List.drop_of_length_le (by omega)]
theorem cut_all {xs : List V} {lo hi : Option Int} (h : HT.sIx xs.length 0 lo = 0 ∧ HT.sIx xs.length xs.length hi = xs.length) : cutV xs lo hi = xs := by
  unfold cutV
  rw [h.1, h.2, Nat.sub_zero, List.drop_zero]
  exact List.take_of_length_le (Nat.le_refl _)
end HH
set_option maxHeartbeats 4000000
namespace HH
open PySem PySem.Spec PyProof.Rows L2 Evl
section
variable {K : PySem.W.Frag} {σ : L2.St} {H H' : Hp} {ta tb te tx : TE} {x y z v : V}
def EvR (K : PySem.W.Frag) (te : TE) (σ : L2.St) (H : Hp) (rs : Row) : Prop := ∀ H1, Ex H H1 → ∀ Q : VK, (∀ v H2, Ex H1 H2 → RowAt K H2 v rs → Q v H2) → te σ H1 Q
def EvB (K : PySem.W.Frag) (te : TE) (σ : L2.St) (H : Hp) (b : Int × Int) : Prop := ∀ H1, Ex H H1 → ∀ Q : VK, (∀ v H2, Ex H1 H2 → BeastAt K H2 v b → Q v H2) → te σ H1 Q
theorem er_val {rs : Row} (h : Ev te σ H v) (hr : RowAt K H v rs) : EvR K te σ H rs := fun H1 e Q q => h H1 e Q fun H2 e2 => q v H2 e2 (hr.ex (e.trans e2))
theorem eb_val {b : Int × Int} (h : Ev te σ H v) (hr : BeastAt K H v b) : EvB K te σ H b := fun H1 e Q q => h H1 e Q fun H2 e2 => q v H2 e2 (hr.ex (e.trans e2))
theorem er_cat {rs ss : Row} (ha : EvR K ta σ H rs) (hb : EvR K tb σ H ss) (hl : rs.length + ss.length ≤ 100000) : EvR K (tOp (rCatA K) ta tb) σ H (rs ++ ss) := fun H1 e Q q =>
  ha H1 e _ fun v H2 e2 hv => hb H2 (e.trans e2) _ fun u H3 e3 hu => by
    obtain ⟨a, vs, rfl, h1, h2⟩ := hv.ex e3
    obtain ⟨b, us, rfl, g1, g2⟩ := hu
    refine ⟨a, b, vs, us, rfl, rfl, h1, g1, by rw [h2.1, g2.1]; exact sz_of hl, fun z => ?_, fun _ z => ?_, fun _ _ p hp => ?_⟩
    · subst z
      have e0 : rs = [] := List.length_eq_zero_iff.mp h2.1.symm
      subst e0
      exact q _ H3 (e2.trans e3) ⟨b, us, rfl, g1, g2⟩
    · subst z
      have e0 : ss = [] := List.length_eq_zero_iff.mp g2.1.symm
      subst e0
      rw [List.append_nil] at q
      exact q _ H3 (e2.trans e3) ⟨a, vs, rfl, h1, h2⟩
    · exact q _ _ ((e2.trans e3).trans (Ex.new hp)) ⟨p, _, rfl, st_of upd_same, (h2.app g2).ex (Ex.new hp)⟩
theorem er_to {rs : Row} {ti : TE} {j : Nat} {i : Int} (h : EvR K te σ H rs) (hi : Ev ti σ H (.int i)) (hj : i = (j : Int)) : EvR K (tSl (rSlA K) te tNoPart (tPart ti)) σ H (rs.take j) := fun H1 e Q q =>
  h H1 e _ fun v H2 e2 hv => hi H2 (e.trans e2) _ fun H3 e3 => by
    obtain ⟨a, vs, rfl, h1, h2⟩ := hv.ex e3
    subst hj
    refine ⟨(j : Int), rfl, a, vs, rfl, h1, fun z => ?_, fun _ p hp => ?_⟩
    · have e0 := cut_all z
      rw [cut_to] at e0
      refine q _ H3 (e2.trans e3) ⟨a, vs, rfl, h1, ?_⟩
      have h3 := h2.take j
      rw [e0] at h3
      exact h3
    · refine q _ _ ((e2.trans e3).trans (Ex.new hp)) ⟨p, _, rfl, st_of upd_same, ?_⟩
      rw [cut_to]
      exact (h2.take j).ex (Ex.new hp)
theorem er_from {rs : Row} {ti : TE} {j : Nat} {i : Int} (h : EvR K te σ H rs) (hi : Ev ti σ H (.int i)) (hj : i = (j : Int)) : EvR K (tSl (rSlA K) te (tPart ti) tNoPart) σ H (rs.drop j) := fun H1 e Q q =>
  h H1 e _ fun v H2 e2 hv => hi H2 (e.trans e2) _ fun H3 e3 => by
    obtain ⟨a, vs, rfl, h1, h2⟩ := hv.ex e3
    subst hj
    refine ⟨(j : Int), rfl, a, vs, rfl, h1, fun z => ?_, fun _ p hp => ?_⟩
    · have e0 := cut_all z
      rw [cut_from] at e0
      refine q _ H3 (e2.trans e3) ⟨a, vs, rfl, h1, ?_⟩
      have h3 := h2.drop j
      rw [e0] at h3
      exact h3
    · refine q _ _ ((e2.trans e3).trans (Ex.new hp)) ⟨p, _, rfl, st_of upd_same, ?_⟩
      rw [cut_from]
      exact (h2.drop j).ex (Ex.new hp)
theorem eb_tup {s t : Int} (h1 : Ev ta σ H (.int s)) (h2 : Ev tb σ H (.int t)) : EvB K (tTup (tCons ta (tCons tb tNil))) σ H (s, t) := fun H1 e Q q =>
  h1 H1 e _ fun H2 e2 => h2 H2 (e.trans e2) _ fun H3 e3 => ⟨by show 2 ≤ sizeLine; decide, fun p hp => q _ _ ((e2.trans e3).trans (Ex.new hp)) ⟨p, rfl, st_of upd_same⟩⟩
theorem er_two {b c : Int × Int} (h1 : EvB K ta σ H b) (h2 : EvB K tb σ H c) : EvR K (tTup (tCons ta (tCons tb tNil))) σ H [b, c] := fun H1 e Q q =>
  h1 H1 e _ fun v H2 e2 hv => h2 H2 (e.trans e2) _ fun u H3 e3 hu => ⟨by show 2 ≤ sizeLine; decide, fun p hp => q _ _ ((e2.trans e3).trans (Ex.new hp)) ⟨p, _, rfl, st_of upd_same, (Beasts.one (hv.ex (e3.trans (Ex.new hp)))).app (Beasts.one (hu.ex (Ex.new hp)))⟩⟩
theorem s_retR {D : Ends} {rs : Row} (h : EvR K te σ H rs) (k : ∀ v H1, Ex H H1 → RowAt K H1 v rs → D.rt v H1) : tRet te D σ H := h H (Ex.refl H) _ fun v H1 e hv => k v H1 e hv
theorem ev_rowAt {a : Addr} {vs : List V} {rs : Row} {ti : TE} {j : Nat} {i : Int} {b : Int × Int} (h : Ev te σ H (.ref a)) (hs : SqT K H a vs) (hb : Beasts K H vs rs) (hi : Ev ti σ H (.int i)) (hj : i = (j : Int)) (hg : rs[j]? = some b) :
    ∃ p, Ev (tOp (rIxT K) te ti) σ H (.ref p) ∧ SqT K H p [.int b.1, .int b.2] := by
  obtain ⟨u, h1, p, rfl, h2⟩ := hb.2 j b hg
  subst hj
  exact ⟨p, ev_op h hi (rv_ixT hs (atI_nat h1)), h2⟩
theorem ev_beast {rs : Row} {ti : TE} {j : Nat} {i : Int} {b : Int × Int} (h : Ev te σ H v) (hr : RowAt K H v rs) (hi : Ev ti σ H (.int i)) (hj : i = (j : Int)) (hg : rs[j]? = some b) : ∃ p, Ev (tOp (rIxT K) te ti) σ H (.ref p) ∧ SqT K H p [.int b.1, .int b.2] := by
  obtain ⟨a, vs, rfl, hs, hb⟩ := hr
  exact ev_rowAt h hs hb hi hj hg
theorem ev_str {rs : Row} {ti : TE} {j : Nat} {i : Int} {b : Int × Int} (h : Ev te σ H v) (hr : RowAt K H v rs) (hi : Ev ti σ H (.int i)) (hj : i = (j : Int)) (hg : rs[j]? = some b) : Ev (tOp (rIxT K) (tOp (rIxT K) te ti) (tC (.int 0))) σ H (.int b.1) := by
  obtain ⟨p, h1, h2⟩ := ev_beast h hr hi hj hg
  exact ev_op h1 ev_c (rv_ixT h2 rfl)
theorem ev_tol {rs : Row} {ti : TE} {j : Nat} {i : Int} {b : Int × Int} (h : Ev te σ H v) (hr : RowAt K H v rs) (hi : Ev ti σ H (.int i)) (hj : i = (j : Int)) (hg : rs[j]? = some b) : Ev (tOp (rIxT K) (tOp (rIxT K) te ti) (tC (.int 1))) σ H (.int b.2) := by
  obtain ⟨p, h1, h2⟩ := ev_beast h hr hi hj hg
  exact ev_op h1 ev_c (rv_ixT h2 rfl)
theorem ev_lenR {rs : Row} (h : Ev te σ H v) (hr : RowAt K H v rs) : Ev (tCB (rLenS K) (tCons te tNil)) σ H (.int (rs.length : Int)) := fun H1 e Q q => by
  obtain ⟨a, vs, rfl, hs, hb⟩ := hr
  refine h H1 e _ fun H2 e2 => ⟨a, vs, rfl, Or.inr (ex_t (e.trans e2) hs), ?_⟩
  rw [hb.1]
  exact q H2 e2
end
def sS (rs : Row) (i : Nat) : Int := (rs[i]?.getD (0, 0)).1
def tS (rs : Row) (i : Nat) : Int := (rs[i]?.getD (0, 0)).2
theorem row_get {rs : Row} {i : Nat} (h : i < rs.length) : rs[i]? = some (sS rs i, tS rs i) := by
  unfold sS tS
  rw [List.getElem?_eq_getElem h] <;> rfl
def letsN (rs : Row) (i : Nat) : Bool := decide (0 < i) && decide (sS rs i - tS rs (i - 1) > sS rs (i - 1))
def fallsN (rs : Row) (i : Nat) : Bool := decide (sS rs i > sS rs (i + 1))
def passR (rs : Row) (p : Nat) : Row := rs.take (p - 1) ++ [(sS rs p - tS rs (p - 1), tS rs p), (sS rs (p - 1), tS rs (p - 1))] ++ rs.drop (p + 1)
def fallR (rs : Row) (p : Nat) : Row := rs.take p ++ [(sS rs (p + 1), tS rs (p + 1)), (sS rs p + tS rs (p + 1), tS rs p)] ++ rs.drop (p + 2)
theorem passR_len {rs : Row} {p : Nat} (h0 : 0 < p) (h : p < rs.length) : (passR rs p).length = rs.length := by
  unfold passR
  rw [List.length_append, List.length_append, List.length_take, List.length_drop]
  show min (p - 1) rs.length + 2 + (rs.length - (p + 1)) = rs.length
  omega
theorem fallR_len {rs : Row} {p : Nat} (h : p + 1 < rs.length) : (fallR rs p).length = rs.length := by
  unfold fallR
  rw [List.length_append, List.length_append, List.length_take, List.length_drop]
  show min p rs.length + 2 + (rs.length - (p + 2)) = rs.length
  omega
def spCanPass (K : PySem.W.Frag) : Sp := fun vs H Q _ => ∃ (v : V) (rs : Row) (p : Nat), vs = [v, .int (p : Int)] ∧ RowAt K H v rs ∧ p < rs.length ∧ ∀ H', Ex H H' → Q (.bl (letsN rs p)) H'
def passL (rs : Row) : List V := given rs.length (letsN rs) (fun i => .int (i : Int))
def spRowOp (K : PySem.W.Frag) (C : Row → Nat → Prop) (g : Row → Nat → Row) : Sp := fun vs H Q _ => ∃ (v : V) (rs : Row) (p : Nat), vs = [v, .int (p : Int)] ∧ RowAt K H v rs ∧ rs.length ≤ 1000 ∧ C rs p ∧ ∀ v' H', Ex H H' → RowAt K H' v' (g rs p) → Q v' H'
def spPassed (K : PySem.W.Frag) : Sp := spRowOp K (fun rs p => 0 < p ∧ p < rs.length) passR
end HH
set_option maxHeartbeats 4000000
namespace HH
open PySem PySem.Spec PyProof.Rows L2 Evl
section
variable {K : PySem.W.Frag} {σ : L2.St} {H H' : Hp} {ta tb te tx : TE} {x y z v : V} {D : Ends} {tz : TS}
theorem q_asgT2 {i j : Nat} {p : Addr} (h : Ev te σ H (.ref p)) (hp : SqT K H p [x, y]) (k : ∀ H1, Ex H H1 → tz D ((σ.set i (some x)).set j (some y)) H1) : tSeq (tAsg te (gTup K 2 (gCons (gName i) (gCons (gName j) gNil)))) tz D σ H :=
  h H (Ex.refl H) _ fun H1 e => ⟨p, [x, y], rfl, ex_t e hp, rfl, x, [y], rfl, y, [], rfl, rfl, k H1 e⟩
theorem q_asg12 {i j l : Nat} {p : Addr} {u : V} (h : Ev ta σ H u) (h2 : Ev tb σ H (.ref p)) (hp : SqT K H p [x, y]) (k : ∀ H1, Ex H H1 → tz D (((σ.set i (some u)).set j (some x)).set l (some y)) H1) :
    tSeq (tAsg (tTup (tCons ta (tCons tb tNil))) (gTup K 2 (gCons (gName i) (gCons (gTup K 2 (gCons (gName j) (gCons (gName l) gNil))) gNil)))) tz D σ H :=
  h H (Ex.refl H) _ fun H1 e => h2 H1 e _ fun H2 e2 => ⟨by show 2 ≤ sizeLine; decide, fun q hq => ⟨q, _, rfl, st_of upd_same, rfl, u, _, rfl, .ref p, [], rfl, ⟨p, [x, y], rfl, ex_t ((e.trans e2).trans (Ex.new hq)) hp, rfl, x, [y], rfl, y, [], rfl, rfl, rfl, k _ ((e.trans e2).trans (Ex.new hq))⟩⟩⟩
theorem sv_can_pass {rs : Row} {p : Nat} (h : RowAt K H v rs) (hp : p < rs.length) : SpV (spCanPass K) [v, .int (p : Int)] H (.bl (letsN rs p)) := fun H1 e Q q E => ⟨v, rs, p, rfl, h.ex e, hp, q⟩
end
end HH
set_option maxHeartbeats 4000000
namespace HH
open PySem PySem.Spec PyProof.Rows L2 Evl
theorem bits_le {i : Int} {n : Nat} (h : i.natAbs < 2 ^ n) : Builtin.Int.intBits i ≤ n := by
  unfold Builtin.Int.intBits
  split
  · exact Nat.zero_le _
  · rename_i z
    have hz : i.natAbs ≠ 0 := by
      intro e
      apply z
      have : i = 0 := by omega
      rw [this]
      rfl
    have := (Nat.log2_lt hz).mpr h
    omega
theorem pow_ok {i : Int} (h : i.natAbs < 2 ^ 4100) : CPowW i 5 := by
  refine ⟨by decide, ?_⟩
  have h1 := bits_le h
  have h2 : (Builtin.Int.intBits i : Int) ≤ 4100 := by omega
  have h3 : (2 : Int) ^ 27 = 134217728 := by decide
  rw [h3]
  omega
theorem mulW_ok {i j : Int} (h : i.natAbs < 2 ^ 4100) (g : j.natAbs < 2 ^ 4100) : CMulW i j := wide_mul h g (by decide) (by decide) (by decide)
theorem two_split : (2 : Nat) ^ 4100 = 2 ^ 4000 * 2 ^ 100 := by rw [← Nat.pow_add]
theorem big_of {c : Int} (h0 : 0 ≤ c) (h : c ≤ (Lim : Int) + 1) (k b : Int) (hk : 0 ≤ k) (hk2 : k ≤ 40000) (hb : 0 ≤ b) (hb2 : b ≤ 2 ^ 63) : (b + k * c).natAbs < 2 ^ 4100 := by
  have hl : Lim = 2 ^ 4000 := rfl
  have hp : 0 < (2 : Nat) ^ 4000 := Nat.pow_pos (by decide)
  rw [two_split]
  generalize (2 : Nat) ^ 4000 = L at *
  have h2 : c.toNat ≤ L + 1 := by omega
  have h3 : k.toNat * c.toNat ≤ 40000 * (L + 1) := Nat.mul_le_mul (by omega) h2
  have h4 : (b + k * c) = ((b.toNat + k.toNat * c.toNat : Nat) : Int) := by
    rw [Int.natCast_add, Int.natCast_mul, Int.toNat_of_nonneg hb, Int.toNat_of_nonneg hk, Int.toNat_of_nonneg h0]
  rw [h4, Int.natAbs_natCast]
  have h5 : b.toNat ≤ 2 ^ 63 := by omega
  have h6 : (2 : Nat) ^ 100 = 1267650600228229401496703205376 := by decide
  have h7 : (2 : Nat) ^ 63 = 9223372036854775808 := by decide
  rw [h6]
  rw [h7] at h5
  have h8 : L * 1267650600228229401496703205376 ≥ L * 40000 + L * 9223372036854775808 + L * 50000 := by omega
  omega
def spTake : Sp := fun vs H Q _ => ∃ (p : Addr) (m : Int) (n : Nat), vs = [.ref p, .int m] ∧ 0 < m ∧ m < 1073741824 ∧ Bx H p n ∧ n < Lim ∧ ∀ (r : Int) H', 0 ≤ r → r < m → ExB p H H' → Bx H' p (n + 1) → Q (.int r) H'
theorem divW_ok {i m : Int} (h : 0 < m) (g : m < 1073741824) : CDivW i m := wide_div h (show m.natAbs < 2 ^ 30 by
  have : (2 : Nat) ^ 30 = 1073741824 := by decide
  omega) (by decide) (by decide)
theorem fmod_lo {a m : Int} (h : 0 < m) : 0 ≤ a.fmod m := Int.fmod_nonneg_of_pos a h
theorem fmod_hi {a m : Int} (h : 0 < m) : a.fmod m < m := Int.fmod_lt_of_pos a h
end HH
set_option maxHeartbeats 4000000
namespace HH
open PySem PySem.Spec PyProof.Rows L2 Evl RZ
inductive TyN (K : PySem.W.Frag) (H : Hp) : V → String → Prop where
  | non : TyN K H .non "NoneType"
  | bl (b : Bool) : TyN K H (.bl b) "bool"
  | int (i : Int) : TyN K H (.int i) "int"
  | str (s : Str) : TyN K H (.str s) "str"
  | lst {a : Addr} {xs : List V} (e : SqL K H a xs) : TyN K H (.ref a) "list"
  | tup {a : Addr} {xs : List V} (e : SqT K H a xs) : TyN K H (.ref a) "tuple"
theorem TyN.ex {K : PySem.W.Frag} {H H' : Hp} {x : V} {t : String} (h : TyN K H x t) (e : Ex H H') : TyN K H' x t := by
  cases h with
  | non => exact .non
  | bl b => exact .bl b
  | int i => exact .int i
  | str s => exact .str s
  | lst h => exact .lst (ex_l e h)
  | tup h => exact .tup (ex_t e h)
theorem TyN.x {K : PySem.W.Frag} {H : Hp} {x : V} {t : String} (h : TyN K H x t) : TyX K H x (.type t) := by
  cases h with
  | non => exact .base .non
  | bl b => exact .base (.bl b)
  | int i => exact .base (.int i)
  | str s => exact .base (.str s)
  | lst h =>
    rcases h with (h | ⟨o, h⟩) | h
    · exact .base (.lst h)
    · exact .base (.frz h)
    · obtain ⟨o, _, _, h1, h2, _⟩ := h
      exact .kList h1 h2
  | tup h =>
    rcases h with (h | ⟨o, h⟩) | h
    · exact .base (.tup h)
    · exact .fTuple h
    · obtain ⟨o, _, _, h1, h2, _⟩ := h
      exact .kTuple h1 h2
section
variable {K : PySem.W.Frag} {σ : L2.St} {H H' : Hp} {ta tb te tx : TE} {x y z v : V} {D : Ends} {tz : TS}
theorem ev_isi {T C : String} {b : Bool} (h : Ev te σ H x) (ht : TyN K H x T) (k : kitB T C = some b) : Ev (tCB (rIsi K) (tCons te (tCons (tC (.ty C)) tNil))) σ H (.bl b) := fun H1 e Q q =>
  h H1 e _ fun H2 e2 => ⟨x, .ty C, .type T, .type C, b, rfl, .ty C, (ht.ex (e.trans e2)).x, kit_ty k, q H2 e2⟩
theorem ev_isiT {T C C2 : String} {b : Bool} (h : Ev te σ H x) (ht : TyN K H x T) (k : PySem.W.kitAny K (.type T) [.type C, .type C2] = some b) : Ev (tCB (rIsiT K) (tCons te (tCons (tTup (tCons (tC (.ty C)) (tCons (tC (.ty C2)) tNil))) tNil))) σ H (.bl b) := fun H1 e Q q =>
  h H1 e _ fun H2 e2 => ⟨by show 2 ≤ sizeLine; decide, fun p hp => ⟨x, p, [.ty C, .ty C2], .type T, [.type C, .type C2], b, rfl, upd_same, .cons (.ty C) (.cons (.ty C2) .nil), (ht.ex ((e.trans e2).trans (Ex.new hp))).x, k, q _ (e2.trans (Ex.new hp))⟩⟩
theorem rv_isN2 {b : Bool} (h : decide (x = V.non) = b) : RV (fun x y H Q => y = .non ∧ Q (.bl (decide (x = .non))) H) x .non H (.bl b) := fun H1 _ _ q => ⟨rfl, by rw [h]; exact q H1 (Ex.refl H1)⟩
end
theorem walk_zipT {K : PySem.W.Frag} {a b : Addr} {xs ys : List V} {n : Nat} (hn : n = min xs.length ys.length) : Walk (ItzT K a b) n (fun H => SqT K H a xs ∧ SqT K H b ys) (YPair (fun i => xs[i]?) (fun i => ys[i]?)) := by
  subst hn
  refine ⟨fun i _ hi q => ?_, fun _ q => ⟨xs, ys, q.1, q.2, by omega⟩, fun i H v H' _ q y => ?_⟩
  · have g1 : i < xs.length := by omega
    have g2 : i < ys.length := by omega
    exact ⟨xs, ys, xs[i], ys[i], q.1, q.2, by simp [g1], by simp [g2]⟩
  · obtain ⟨T, x, z, h1, h2, h3, h4, h5⟩ := y
    exact ⟨T, x, z, h1, h2, h3, h4 xs q.1, h5 ys q.2⟩
def Flat : V → Prop
  | .int _ => True
  | .bl _ => True
  | .str _ => True
  | .non => True
  | _ => False
def Alike (K : PySem.W.Frag) (H : Hp) : Nat → V → V → Prop
  | 0, _, _ => False
  | d + 1, x, y => (x = y ∧ Flat x) ∨ ∃ (a b : Addr) (xs ys : List V), x = .ref a ∧ y = .ref b ∧ ((SqL K H a xs ∧ SqL K H b ys) ∨ (SqT K H a xs ∧ SqT K H b ys)) ∧ xs.length = ys.length ∧ xs.length ≤ 40000 ∧
    ∀ (i : Nat) (u v : V), xs[i]? = some u → ys[i]? = some v → Alike K H d u v
theorem Alike.ex {K : PySem.W.Frag} {H H' : Hp} (e : Ex H H') : ∀ {d : Nat} {x y : V}, Alike K H d x y → Alike K H' d x y
  | 0, _, _, h => h
  | d + 1, x, y, h => by
    rcases h with h | ⟨a, b, xs, ys, h1, h2, h3, h4, h5, h6⟩
    · exact .inl h
    · refine .inr ⟨a, b, xs, ys, h1, h2, ?_, h4, h5, fun i u v hu hv => Alike.ex e (h6 i u v hu hv)⟩
      rcases h3 with h3 | h3
      · exact .inl ⟨ex_l e h3.1, ex_l e h3.2⟩
      · exact .inr ⟨ex_t e h3.1, ex_t e h3.2⟩
def spSame (K : PySem.W.Frag) (d : Nat) : Sp := fun vs H Q _ => ∃ x y, vs = [x, y] ∧ Alike K H d x y ∧ RetV (.bl true) H Q
theorem has_none {P : Program} {w : World} {K : PySem.W.Frag} {mg : Str → Option Value} {base : Heap} {f : Addr} {fd : FuncData} {ps : List Str} : FnOk P w K mg base CX0 0 f fd ps (spSame K 0) :=
  ⟨fun _ _ _ _ h => by obtain ⟨_, _, _, h, _⟩ := h; exact h.elim, fun _ _ _ _ _ _ _ _ _ _ _ _ _ h => by obtain ⟨_, _, _, h, _⟩ := h; exact h.elim⟩
section
variable {K : PySem.W.Frag} {σ : L2.St} {H H' : Hp}
theorem el_same {d : Nat} {a b : Addr} {xs ys : List V} (hl : xs.length = ys.length) (hz : xs.length ≤ 40000) (h3 : (SqL K H a xs ∧ SqL K H b ys) ∨ (SqT K H a xs ∧ SqT K H b ys)) (h6 : ∀ (i : Nat) (u v : V), xs[i]? = some u → ys[i]? = some v → Alike K H d u v) :
    EvL (tLc (iZipA K (tCons (tVar 0) (tCons (tVar 1) tNil))) (gTup K 2 (gCons (gName 2) (gCons (gName 3) gNil))) tYes (tCall (spSame K d) [] E0 (tCons (tVar 2) (tCons (tVar 3) tNil))) [2, 3]) [some (.ref a), some (.ref b), none, none] H ((List.replicate xs.length true).map V.bl) := fun H0 e Q q => by
  have turn : ∀ (Dl : Addr) (i : Nat) (x : V) (H1 H2 : Hp), H0 Dl = none → i < xs.length → (Ex H0 H1 ∧ H1 Dl = some (.lst ((List.replicate i true).map V.bl))) → YPair (fun i => xs[i]?) (fun i => ys[i]?) i H1 x H2 →
      gTup K 2 (gCons (gName 2) (gCons (gName 3) gNil)) x (wipe [some (.ref a), some (.ref b), none, none] [2, 3]) H2 fun σ2 H3 => wipe σ2 [2, 3] = wipe [some (.ref a), some (.ref b), none, none] [2, 3] ∧ tYes σ2 H3 fun b H4 =>
      if b = true then tCall (spSame K d) [] E0 (tCons (tVar 2) (tCons (tVar 3) tNil)) σ2 H4 fun y H5 => ∃ acc, H5 Dl = some (.lst acc) ∧ acc.length < sizeLine ∧ (Ex H0 (upd H5 Dl (.lst (acc ++ [y]))) ∧ (upd H5 Dl (.lst (acc ++ [y]))) Dl = some (.lst ((List.replicate (i + 1) true).map V.bl))) else (Ex H0 H4 ∧ H4 Dl = some (.lst ((List.replicate (i + 1) true).map V.bl))) := by
    intro Dl i x H1 H2 hD hi p y
    obtain ⟨T, u, v, rfl, nT, rfl, hu, hv⟩ := y
    refine ⟨T, [u, v], rfl, st_of upd_same, rfl, u, [v], rfl, v, [], rfl, rfl, rfl, ?_⟩
    show tCall (spSame K d) [] E0 (tCons (tVar 2) (tCons (tVar 3) tNil)) _ _ _
    have e2 : Ex H0 (upd H1 T (.tup [u, v])) := p.1.trans (Ex.new nT)
    refine ⟨u, rfl, v, rfl, u, v, rfl, (h6 i u v hu hv).ex (e.trans e2), fun H5 e5 => ⟨_, e5 _ _ ((Ex.new nT) _ _ p.2), ?_, ?_, ?_⟩⟩
    · rw [List.length_map, List.length_replicate]
      exact sz_lt (by omega)
    · exact Ex.mut (e2.trans e5) hD
    · rw [upd_same, List.replicate_succ', List.map_append]
      rfl
  rcases h3 with ⟨ha, hb⟩ | ⟨ha, hb⟩
  · refine ⟨.ref a, rfl, .ref b, rfl, a, b, xs, ys, rfl, .inl ⟨ex_l e ha, ex_l e hb, fun Dl hD => ?_⟩⟩
    refine lc_it (walk_zip (n := xs.length) (xs := xs) (ys := ys) (by omega)) (fun i H1 => Ex H0 H1 ∧ H1 Dl = some (.lst ((List.replicate i true).map V.bl))) ⟨Ex.new hD, upd_same⟩ (fun i H1 _ p => ⟨ex_l (e.trans p.1) ha, ex_l (e.trans p.1) hb⟩) (fun i x H1 H2 hi p y => turn Dl i x H1 H2 hD hi p y) (fun H1 p => q Dl H1 hD p.1 p.2)
  · refine ⟨.ref a, rfl, .ref b, rfl, a, b, xs, ys, rfl, .inr ⟨ex_t e ha, ex_t e hb, fun Dl hD => ?_⟩⟩
    refine lc_it (walk_zipT (n := xs.length) (xs := xs) (ys := ys) (by omega)) (fun i H1 => Ex H0 H1 ∧ H1 Dl = some (.lst ((List.replicate i true).map V.bl))) ⟨Ex.new hD, upd_same⟩ (fun i H1 _ p => ⟨ex_t (e.trans p.1) ha, ex_t (e.trans p.1) hb⟩) (fun i x H1 H2 hi p y => turn Dl i x H1 H2 hD hi p y) (fun H1 p => q Dl H1 hD p.1 p.2)
theorem ev_allT {n : Nat} {te : TE} (h : EvL te σ H ((List.replicate n true).map V.bl)) : Ev (tCB (rAll K) (tCons te tNil)) σ H (.bl true) := fun H1 e Q q =>
  h H1 e _ fun p H2 hp e2 h2 => ⟨p, List.replicate n true, rfl, sq_of h2, by
    have e3 : (List.replicate n true).all id = true := by
      rw [List.all_eq_true]
      intro x hx
      rw [(List.mem_replicate.mp hx).2]
      rfl
    rw [e3]
    exact q H2 e2⟩
theorem ev_lenA {a : Addr} {xs : List V} {te : TE} (h : Ev te σ H (.ref a)) (h3 : SqL K H a xs ∨ SqT K H a xs) : Ev (tCB (rLenS K) (tCons te tNil)) σ H (.int (xs.length : Int)) := fun H1 e Q q =>
  h H1 e _ fun H2 e2 => ⟨a, xs, rfl, by
    rcases h3 with h3 | h3
    · exact .inl (ex_l (e.trans e2) h3)
    · exact .inr (ex_t (e.trans e2) h3), q H2 e2⟩
end
theorem kit_list {K : PySem.W.Frag} : PySem.W.kitAny K (.type "list") [.type "list", .type "tuple"] = some true := kitAny_cons (b := true) (kit_ty (by decide +kernel)) (fun h => by cases h) (fun _ => rfl)
theorem kit_tuple {K : PySem.W.Frag} : PySem.W.kitAny K (.type "tuple") [.type "list", .type "tuple"] = some true := kitAny_cons (b := false) (kit_ty (by decide +kernel)) (fun _ => kitAny_cons (b := true) (kit_ty (by decide +kernel)) (fun h => by cases h) (fun _ => rfl)) (fun h => by cases h)
theorem kit_int {K : PySem.W.Frag} : PySem.W.kitAny K (.type "int") [.type "list", .type "tuple"] = some false := kitAny_cons (b := false) (kit_ty (by decide +kernel)) (fun _ => kitAny_cons (b := false) (kit_ty (by decide +kernel)) (fun _ => kitAny_nil) (fun h => by cases h)) (fun h => by cases h)
theorem kit_bool {K : PySem.W.Frag} : PySem.W.kitAny K (.type "bool") [.type "list", .type "tuple"] = some false := kitAny_cons (b := false) (kit_ty (by decide +kernel)) (fun _ => kitAny_cons (b := false) (kit_ty (by decide +kernel)) (fun _ => kitAny_nil) (fun h => by cases h)) (fun h => by cases h)
theorem kit_str {K : PySem.W.Frag} : PySem.W.kitAny K (.type "str") [.type "list", .type "tuple"] = some false := kitAny_cons (b := false) (kit_ty (by decide +kernel)) (fun _ => kitAny_cons (b := false) (kit_ty (by decide +kernel)) (fun _ => kitAny_nil) (fun h => by cases h)) (fun h => by cases h)
theorem kit_non {K : PySem.W.Frag} : PySem.W.kitAny K (.type "NoneType") [.type "list", .type "tuple"] = some false := kitAny_cons (b := false) (kit_ty (by decide +kernel)) (fun _ => kitAny_cons (b := false) (kit_ty (by decide +kernel)) (fun _ => kitAny_nil) (fun h => by cases h)) (fun h => by cases h)
end HH
set_option maxHeartbeats 4000000
namespace HH
open PySem PySem.Spec PyProof.Rows L2 Evl RZ
def spOf (K : PySem.W.Frag) : Sp := fun vs H Q _ => ∃ (p l : Addr) (xs : List V) (n : Nat), vs = [.ref p, .ref l] ∧ SqL K H l xs ∧ 0 < xs.length ∧ xs.length < 100000 ∧ l ≠ p ∧ Bx H p n ∧ n < Lim ∧ ∀ (r : Nat) (x : V) H', xs[r]? = some x → ExB p H H' → Bx H' p (n + 1) → Q x H'
def spDip (K : PySem.W.Frag) : Sp := fun vs H Q _ => ∃ (a : Addr) (k : Nat) (ns : List Int), vs = [.ref a, .int (k : Int)] ∧ SqL K H a (ns.map V.int) ∧ k ≤ 100 ∧ ∀ p H', H p = none → Ex H H' → Bx H' p 0 → Q (.ref p) H'
def spFolded (K : PySem.W.Frag) : Sp := fun vs H Q _ => ∃ (a : Addr) (m : Nat) (ns : List Int), vs = [.ref a, .int (m : Int)] ∧ 0 < m ∧ m ≤ 10 ∧ SqL K H a (ns.map V.int) ∧ ns.length ≤ 63 ∧ ∀ p H' (ms : List Int), H p = none → Ex H H' → ms.length ≤ m → H' p = some (.lst (ms.map V.int)) → Q (.ref p) H'
def Tame (b : Int × Int) : Prop := -(10 ^ 12) < b.1 ∧ b.1 < 10 ^ 12 ∧ 0 ≤ b.2 ∧ b.2 < 10 ^ 12
def spRow (K : PySem.W.Frag) : Sp := fun vs H Q _ => ∃ (p : Addr) (m : Nat) (n : Nat), vs = [.ref p, .int (m : Int)] ∧ 0 < m ∧ m ≤ 30 ∧ Bx H p n ∧ n + 100 < Lim ∧ ∀ v H' (rs : Row), ExB p H H' → Bx H' p (n + 100) → RowAt K H' v rs → 0 < rs.length → rs.length ≤ m → (∀ b ∈ rs, Tame b) → Q v H'
section
variable {K : PySem.W.Frag} {σ : L2.St} {H H' : Hp} {ta tb te tx : TE} {x y z v : V} {D : Ends} {tz : TS}
theorem el_listN {xs : List V} (ha : EvL ta σ H xs) : EvL (tCB (rListS K) (tCons ta tNil)) σ H xs := fun H1 e Q q =>
  ha H1 e _ fun p H2 hp e2 h2 => ⟨p, xs, rfl, .inl (sq_of h2), fun l hl => q l _ (fresh_back e2 hl) (e2.trans (Ex.new hl)) upd_same⟩
theorem rc_abs {i : Int} : RC (fun xs H Q => ∃ i, xs = [.int i] ∧ Q (.int (if i < 0 then -i else i)) H) [.int i] H (.int (if i < 0 then -i else i)) := fun H1 _ _ q => ⟨i, rfl, q H1 (Ex.refl H1)⟩
theorem rc_intB {b : Bool} : RC (fun xs H Q => (∃ i, xs = [.int i] ∧ Q (.int i) H) ∨ ∃ k, xs = [.bl k] ∧ Q (.int (if k then 1 else 0)) H) [.bl b] H (.int (if b then 1 else 0)) := fun H1 _ _ q => .inr ⟨b, rfl, q H1 (Ex.refl H1)⟩
end
theorem at_ints {zs : List Int} {w : Int} (h0 : 0 ≤ w) (h1 : w < zs.length) : ∃ z, z ∈ zs ∧ atI (zs.map V.int) w = some (.int z) := by
  obtain ⟨k, rfl⟩ := Int.eq_ofNat_of_zero_le h0
  have hk : k < zs.length := by omega
  refine ⟨zs[k], List.getElem_mem hk, atI_nat ?_⟩
  rw [List.getElem?_map, List.getElem?_eq_getElem hk] <;> rfl
theorem b01 (b : Bool) : -(2 ^ 64) < (if b = true then (1 : Int) else 0) ∧ (if b = true then (1 : Int) else 0) < 2 ^ 64 := by
  cases b <;> decide
theorem b01n (b : Bool) : 0 ≤ (if b = true then (1 : Int) else 0) := by
  cases b <;> decide
theorem cut_ints (ns : List Int) (lo hi : Option Int) : ∃ ms : List Int, cutV (ns.map V.int) lo hi = ms.map V.int ∧ ms.length ≤ ns.length - HT.sIx ns.length 0 lo := by
  refine ⟨(ns.drop (HT.sIx ns.length 0 lo)).take (HT.sIx ns.length ns.length hi - HT.sIx ns.length 0 lo), ?_, ?_⟩
  · unfold cutV
    rw [List.length_map, List.map_take, List.map_drop]
  · rw [List.length_take, List.length_drop]
    omega
section
variable {K : PySem.W.Frag} {σ : L2.St} {H H' : Hp} {D : Ends} {tz tu : TS} {g : TG}
theorem q_forE {xs : List V} {tl : TE} (h : EvL tl σ H xs) (Pv : Addr → Nat → L2.St → Hp → Prop) (h0 : ∀ c H1, H c = none → Ex H H1 → H1 c = some (.lst xs) → Pv c 0 σ H1) (hl : ∀ c i σ' H', i ≤ xs.length → Pv c i σ' H' → SqL K H' c xs)
    (hs : ∀ c i x σ' H' T, xs[i]? = some x → Pv c i σ' H' → H' T = none → g (.ref T) σ' (upd H' T (.tup [.int (i : Nat), x])) fun σ2 H2 => tu { D with nx := Pv c (i + 1), ct := Pv c (i + 1), bk := tz D } σ2 H2) (hd : ∀ c σ' H', Pv c xs.length σ' H' → tz D σ' H') : tSeq (tFor (iEnum K (tCons tl tNil)) g tu) tz D σ H :=
  h H (Ex.refl H) _ fun c H1 hc e h1 => ⟨c, xs, rfl, sq_of h1, for_it (walk_enum (xs := xs)) (D := { D with nx := tz D }) (Pv c) (h0 c H1 hc e h1) (hl c) (fun i x σ' H' H2 hi p y => by
    obtain ⟨T, u, z, rfl, nT, rfl, hu, hz⟩ := y
    cases hu
    exact hs c i z σ' H' T hz p nT) (hd c)⟩
end
theorem fmod_nat (i m : Nat) : ((i : Nat) : Int).fmod ((m : Nat) : Int) = ((i % m : Nat) : Int) := by
  rw [Int.fmod_eq_emod_of_nonneg _ (Int.natCast_nonneg m)]
  rfl
theorem ExB.back {b p : Addr} {H H' : Hp} (e : ExB b H H') (h : H' p = none) (n : p ≠ b) : H p = none := by
  cases z : H p with
  | none => rfl
  | some o =>
    rw [e p o n z] at h
    cases h
theorem mul_bd {r i : Int} (h0 : 0 ≤ r) (h1 : r ≤ 3) (g0 : 0 ≤ i) (g1 : i ≤ 40) : 0 ≤ r * i ∧ r * i ≤ 120 :=
  ⟨Int.mul_nonneg h0 g0, Int.le_trans (Int.mul_le_mul h1 g1 g0 (by decide)) (by decide)⟩
end HH
set_option maxHeartbeats 4000000
namespace HH
open PySem PySem.Spec PyProof.Rows L2 Evl RZ
def Nice (k : Nat) (d : PyData) : Prop := d.canLay0 = true ∧ d.depth ≤ k
theorem nice_all {k : Nat} : ∀ {ds : List PyData}, (∀ d ∈ ds, Nice k d) → PyData.canLayAll0 ds = true ∧ PyData.depthAll ds ≤ k
  | [], _ => ⟨by simp [PyData.canLayAll0], by simp [PyData.depthAll]⟩
  | d :: ds, h => by
    have h1 := h d (List.mem_cons_self ..)
    have h2 := nice_all (fun e he => h e (List.mem_cons_of_mem _ he))
    refine ⟨by simp [PyData.canLayAll0, h1.1, h2.1], ?_⟩
    have e : PyData.depthAll (d :: ds) = max d.depth (PyData.depthAll ds) := by simp [PyData.depthAll]
    rw [e]
    have := h1.2
    have := h2.2
    omega
theorem nice_int (k : Nat) (i : Int) : Nice k (.int i) := ⟨by simp [PyData.canLay0], by simp [PyData.depth]⟩
theorem nice_list {k : Nat} {ds : List PyData} (h : ∀ d ∈ ds, Nice k d) : Nice (k + 1) (.list ds) := ⟨by simp [PyData.canLay0, (nice_all h).1], by
  have := (nice_all h).2
  simp [PyData.depth]
  omega⟩
theorem Nice.shaped {k : Nat} {d : PyData} (h : Nice k d) (hk : k ≤ 64) : SeqAt.shaped d = true := by
  unfold SeqAt.shaped
  rw [h.1, decide_eq_true (Nat.le_trans h.2 hk)]
  rfl
theorem dp_ints {K : PySem.W.Frag} {H : Hp} : ∀ ns : List Int, DpAll K H (ns.map V.int) (ns.map PyData.int)
  | [] => .nil
  | n :: ns => .cons (.int n) (dp_ints ns)
theorem nice_ints (ns : List Int) : ∀ d ∈ ns.map PyData.int, Nice 0 d := fun d hd => by
  obtain ⟨i, _, rfl⟩ := List.mem_map.mp hd
  exact nice_int 0 i
mutual
theorem dp_ex {K : PySem.W.Frag} {H H' : Hp} (e : Ex H H') : ∀ {v : V} {d : PyData}, Dp K H v d → Dp K H' v d
  | _, _, .non => .non
  | _, _, .bl b => .bl b
  | _, _, .int i => .int i
  | _, _, .str x => .str x
  | _, _, .lst h g => .lst (ex_l e h) (dps_ex e g)
  | _, _, .tup h g => .tup (ex_t e h) (dps_ex e g)
theorem dps_ex {K : PySem.W.Frag} {H H' : Hp} (e : Ex H H') : ∀ {v : List V} {d : List PyData}, DpAll K H v d → DpAll K H' v d
  | _, _, .nil => .nil
  | _, _, .cons h g => .cons (dp_ex e h) (dps_ex e g)
end
theorem dps_len {K : PySem.W.Frag} {H : Hp} : ∀ {v : List V} {d : List PyData}, DpAll K H v d → v.length = d.length
  | _, _, .nil => rfl
  | _, _, .cons h g => by
    rw [List.length_cons, List.length_cons, dps_len g]
section
variable {K : PySem.W.Frag} {σ : L2.St} {H H' : Hp} {te : TE}
theorem et_neNil {k : Nat} {a : Addr} {xs : List V} {ds : List PyData} (h : Ev te σ H (.ref a)) (ha : SqL K H a xs) (hd : DpAll K H xs ds) (hn : ∀ d ∈ ds, Nice k d) (hk : k < 64) : EvT (tTest (tOp (rNeD K) te (tLst tNil))) σ H (!xs.isEmpty) := fun H1 e Q q =>
  h H1 e _ fun H2 e2 => ⟨by show 0 ≤ sizeLine; decide, fun p hp => by
    have e3 := (e.trans e2).trans (Ex.new (o := .lst []) hp)
    refine ⟨.list ds, .list [], .lst (ex_l e3 ha) (dps_ex e3 hd), .lst (sq_of upd_same) .nil, (nice_list hn).shaped (by omega), (nice_list (k := 0) (fun d h => by cases h)).shaped (by omega), _, rfl, ?_⟩
    have e4 : PyData.eqv (.list ds) (.list []) = xs.isEmpty := by
      have hl := dps_len hd
      cases ds with
      | nil =>
        have : xs = [] := List.length_eq_zero_iff.mp hl
        subst this
        simp [PyData.eqv, PyData.eqvAll]
      | cons d ds =>
        cases xs with
        | nil => cases hl
        | cons x xs => simp [PyData.eqv, PyData.eqvAll]
    rw [e4]
    exact q _ (e2.trans (Ex.new hp))⟩
end
theorem sS_at {pre post : Row} {x y : Int × Int} : sS (pre ++ x :: y :: post) pre.length = x.1 ∧ tS (pre ++ x :: y :: post) pre.length = x.2 ∧ sS (pre ++ x :: y :: post) (pre.length + 1) = y.1 ∧ tS (pre ++ x :: y :: post) (pre.length + 1) = y.2 := by
  unfold sS tS
  have h1 : (pre ++ x :: y :: post)[pre.length]? = some x := by
    rw [List.getElem?_append_right (Nat.le_refl _), Nat.sub_self]
    rfl
  have h2 : (pre ++ x :: y :: post)[pre.length + 1]? = some y := by
    rw [List.getElem?_append_right (by omega), show pre.length + 1 - pre.length = 1 by omega]
    rfl
  rw [h1, h2]
  exact ⟨rfl, rfl, rfl, rfl⟩
theorem split_take {pre post : Row} {x y : Int × Int} : (pre ++ x :: y :: post).take pre.length = pre ∧ (pre ++ x :: y :: post).drop (pre.length + 2) = post := by
  constructor
  · rw [List.take_append_of_le_length (Nat.le_refl _), List.take_length]
  · rw [← List.drop_drop, List.drop_append_of_le_length (Nat.le_refl _), List.drop_length]
    rfl
theorem pass_split {pre post : Row} {x y : Int × Int} : passR (pre ++ x :: y :: post) (pre.length + 1) = pre ++ (y.1 - x.2, y.2) :: x :: post := by
  unfold passR
  obtain ⟨h1, h2, h3, h4⟩ := sS_at (pre := pre) (post := post) (x := x) (y := y)
  obtain ⟨g1, g2⟩ := split_take (pre := pre) (post := post) (x := x) (y := y)
  rw [Nat.add_sub_cancel, h1, h2, h3, h4, g1, show pre.length + 1 + 1 = pre.length + 2 from rfl, g2, List.append_assoc]
  rfl
theorem fall_split {pre post : Row} {x y : Int × Int} : fallR (pre ++ x :: y :: post) pre.length = pre ++ y :: (x.1 + y.2, x.2) :: post := by
  unfold fallR
  obtain ⟨h1, h2, h3, h4⟩ := sS_at (pre := pre) (post := post) (x := x) (y := y)
  obtain ⟨g1, g2⟩ := split_take (pre := pre) (post := post) (x := x) (y := y)
  rw [h1, h2, h3, h4, g1, g2, List.append_assoc]
  rfl
theorem lets_split {pre post : Row} {x y : Int × Int} : letsN (pre ++ x :: y :: post) (pre.length + 1) = decide (y.1 - x.2 > x.1) := by
  unfold letsN
  obtain ⟨h1, h2, h3, h4⟩ := sS_at (pre := pre) (post := post) (x := x) (y := y)
  rw [Nat.add_sub_cancel, h1, h2, h3, decide_eq_true (Nat.succ_pos _), Bool.true_and]
theorem falls_split {pre post : Row} {x y : Int × Int} : fallsN (pre ++ x :: y :: post) pre.length = decide (x.1 > y.1) := by
  unfold fallsN
  obtain ⟨h1, h2, h3, h4⟩ := sS_at (pre := pre) (post := post) (x := x) (y := y)
  rw [h1, h3]
def tsum : Row → Int
  | [] => 0
  | b :: r => b.2 + tsum r
end HH
set_option maxHeartbeats 4000000
namespace HH
abbrev Cow := Nat × (Int × Int)
def Chk (id : Nat) : Int → List Cow → Prop
  | _, [] => True
  | c, y :: r => (y.1 < id → y.2.1 < c) ∧ Chk id (if y.1 < id then c + y.2.2 else c) r
def PInv : List Cow → Prop
  | [] => True
  | x :: r => Chk x.1 (x.2.1 + x.2.2) r ∧ PInv r
def FChk (id : Nat) : Int → List Cow → Prop
  | _, [] => True
  | c, y :: r => (y.1 < id → c < y.2.1) ∧ FChk id (if id < y.1 then c + y.2.2 else c) r
def FInv : List Cow → Prop
  | [] => True
  | x :: r => FChk x.1 x.2.1 r ∧ FInv r
def tag : Nat → Row → List Cow
  | _, [] => []
  | k, b :: r => (k, b) :: tag (k + 1) r
theorem tag_snd : ∀ (k : Nat) (rs : Row), (tag k rs).map (·.2) = rs
  | _, [] => rfl
  | k, b :: r => by
    show b :: (tag (k + 1) r).map (·.2) = b :: r
    rw [tag_snd]
theorem tag_fst : ∀ (k : Nat) (rs : Row), (tag k rs).map (·.1) = (List.range rs.length).map (k + ·)
  | _, [] => rfl
  | k, b :: r => by
    show k :: (tag (k + 1) r).map (·.1) = (List.range (r.length + 1)).map (k + ·)
    rw [tag_fst, List.range_succ_eq_map, List.map_cons, List.map_map]
    have e : (List.range r.length).map (fun x => k + 1 + x) = (List.range r.length).map ((fun x => k + x) ∘ Nat.succ) := List.map_congr_left fun i _ => by
      show k + 1 + i = k + (i + 1)
      omega
    rw [e]
    rfl
theorem tag_len (k : Nat) (rs : Row) : (tag k rs).length = rs.length := by
  have := congrArg List.length (tag_snd k rs)
  rw [List.length_map] at this
  exact this
theorem chk_tag : ∀ (id k : Nat) (c : Int) (rs : Row), id ≤ k → Chk id c (tag k rs)
  | _, _, _, [], _ => True.intro
  | id, k, c, b :: r, h => by
    refine ⟨fun h1 => ?_, ?_⟩
    · have h2 : k < id := h1
      omega
    · rw [if_neg (show ¬ k < id by omega)]
      exact chk_tag id (k + 1) c r (by omega)
theorem fchk_tag : ∀ (id k : Nat) (c : Int) (rs : Row), id ≤ k → FChk id c (tag k rs)
  | _, _, _, [], _ => True.intro
  | id, k, c, b :: r, h => by
    refine ⟨fun h1 => ?_, fchk_tag id (k + 1) _ r (by omega)⟩
    have h2 : k < id := h1
    omega
theorem pinv_tag : ∀ (k : Nat) (rs : Row), PInv (tag k rs)
  | _, [] => True.intro
  | k, b :: r => ⟨chk_tag k (k + 1) _ r (by omega), pinv_tag (k + 1) r⟩
theorem finv_tag : ∀ (k : Nat) (rs : Row), FInv (tag k rs)
  | _, [] => True.intro
  | k, b :: r => ⟨fchk_tag k (k + 1) _ r (by omega), finv_tag (k + 1) r⟩
theorem pinv_tail : ∀ {pre post : List Cow}, PInv (pre ++ post) → PInv post
  | [], _, h => h
  | _ :: pre, _, h => pinv_tail (pre := pre) h.2
theorem finv_tail : ∀ {pre post : List Cow}, FInv (pre ++ post) → FInv post
  | [], _, h => h
  | _ :: pre, _, h => finv_tail (pre := pre) h.2
theorem pinv_lt {pre post : List Cow} {a b : Cow} (h : PInv (pre ++ a :: b :: post)) (hp : b.2.1 - a.2.2 > a.2.1) (hne : a.1 ≠ b.1) : a.1 < b.1 := by
  have h1 := (pinv_tail h).1.1
  rcases Nat.lt_or_ge a.1 b.1 with h2 | h2
  · exact h2
  · have := h1 (by omega)
    omega
theorem finv_lt {pre post : List Cow} {a b : Cow} (h : FInv (pre ++ a :: b :: post)) (hp : a.2.1 > b.2.1) (hne : a.1 ≠ b.1) : a.1 < b.1 := by
  have h1 := (finv_tail h).1.1
  rcases Nat.lt_or_ge a.1 b.1 with h2 | h2
  · exact h2
  · have := h1 (by omega)
    omega
theorem chk_pass {id : Nat} {a b : Cow} {post : List Cow} (hab : a.1 < b.1) (ht : 0 ≤ b.2.2) (hp : b.2.1 - a.2.2 > a.2.1) : ∀ {pre : List Cow} {c : Int}, Chk id c (pre ++ a :: b :: post) → Chk id c (pre ++ (b.1, (b.2.1 - a.2.2, b.2.2)) :: a :: post)
  | [], c, h => by
    obtain ⟨h1, h2, h3⟩ := h
    show (b.1 < id → b.2.1 - a.2.2 < c) ∧ (a.1 < id → a.2.1 < if b.1 < id then c + b.2.2 else c) ∧ Chk id _ post
    by_cases hb : b.1 < id
    · have ha : a.1 < id := by omega
      rw [if_pos ha] at h2 h3
      rw [if_pos hb] at h3 ⊢
      have g1 := h1 ha
      have g2 := h2 hb
      refine ⟨fun _ => by omega, fun _ => by omega, ?_⟩
      rw [if_pos ha]
      have e : c + b.2.2 + a.2.2 = c + a.2.2 + b.2.2 := by omega
      show Chk id (c + b.2.2 + a.2.2) post
      rw [e]
      exact h3
    · rw [if_neg hb] at h3 ⊢
      refine ⟨fun z => absurd z hb, h1, ?_⟩
      exact h3
  | x :: pre, c, h => ⟨h.1, chk_pass hab ht hp (pre := pre) h.2⟩
theorem fchk_fall {id : Nat} {a b : Cow} {post : List Cow} (hab : a.1 < b.1) (ht : 0 ≤ b.2.2) (hp : a.2.1 > b.2.1) : ∀ {pre : List Cow} {c : Int}, FChk id c (pre ++ a :: b :: post) → FChk id c (pre ++ b :: (a.1, (a.2.1 + b.2.2, a.2.2)) :: post)
  | [], c, h => by
    obtain ⟨h1, h2, h3⟩ := h
    show (b.1 < id → c < b.2.1) ∧ (a.1 < id → (if id < b.1 then c + b.2.2 else c) < a.2.1 + b.2.2) ∧ FChk id (if id < a.1 then (if id < b.1 then c + b.2.2 else c) + a.2.2 else (if id < b.1 then c + b.2.2 else c)) post
    by_cases ha : id < a.1
    · have hb : id < b.1 := by omega
      rw [if_pos ha] at h2 h3
      rw [if_pos hb] at h3
      rw [if_pos ha, if_pos hb]
      refine ⟨fun z => by omega, fun z => by omega, ?_⟩
      have e : c + b.2.2 + a.2.2 = c + a.2.2 + b.2.2 := by omega
      rw [e]
      exact h3
    · rw [if_neg ha] at h2 h3
      rw [if_neg ha]
      by_cases hb : id < b.1
      · rw [if_pos hb] at h3
        rw [if_pos hb]
        refine ⟨fun z => by omega, fun z => ?_, h3⟩
        have := h1 z
        omega
      · rw [if_neg hb] at h3
        rw [if_neg hb]
        refine ⟨h2, fun z => ?_, h3⟩
        have := h1 z
        omega
  | x :: pre, c, h => ⟨h.1, fchk_fall hab ht hp (pre := pre) h.2⟩
theorem pinv_pass {a b : Cow} {post : List Cow} (hab : a.1 < b.1) (ht : 0 ≤ b.2.2) (hp : b.2.1 - a.2.2 > a.2.1) : ∀ {pre : List Cow}, PInv (pre ++ a :: b :: post) → PInv (pre ++ (b.1, (b.2.1 - a.2.2, b.2.2)) :: a :: post)
  | [], h => by
    obtain ⟨⟨_, h1⟩, h2, h3⟩ := h
    rw [if_neg (show ¬ b.1 < a.1 by omega)] at h1
    refine ⟨⟨fun _ => ?_, ?_⟩, h1, h3⟩
    · show a.2.1 < b.2.1 - a.2.2 + b.2.2
      omega
    · show Chk b.1 (if a.1 < b.1 then b.2.1 - a.2.2 + b.2.2 + a.2.2 else _) post
      rw [if_pos hab]
      have e : b.2.1 - a.2.2 + b.2.2 + a.2.2 = b.2.1 + b.2.2 := by omega
      rw [e]
      exact h2
  | x :: pre, h => ⟨chk_pass hab ht hp h.1, pinv_pass hab ht hp (pre := pre) h.2⟩
theorem finv_fall {a b : Cow} {post : List Cow} (hab : a.1 < b.1) (ht : 0 ≤ b.2.2) (hp : a.2.1 > b.2.1) : ∀ {pre : List Cow}, FInv (pre ++ a :: b :: post) → FInv (pre ++ b :: (a.1, (a.2.1 + b.2.2, a.2.2)) :: post)
  | [], h => by
    obtain ⟨⟨_, h1⟩, h2, h3⟩ := h
    rw [if_pos hab] at h1
    refine ⟨⟨fun _ => ?_, ?_⟩, h1, h3⟩
    · show b.2.1 < a.2.1 + b.2.2
      omega
    · show FChk b.1 (if b.1 < a.1 then b.2.1 + a.2.2 else b.2.1) post
      rw [if_neg (by omega)]
      exact h2
  | x :: pre, h => ⟨fchk_fall hab ht hp h.1, finv_fall hab ht hp (pre := pre) h.2⟩
def cnt (a : Nat) : List Nat → Nat
  | [] => 0
  | y :: r => (if a < y then 1 else 0) + cnt a r
def asc : List Nat → Nat
  | [] => 0
  | a :: r => cnt a r + asc r
theorem cnt_swap {x a b : Nat} {post : List Nat} : ∀ pre : List Nat, cnt x (pre ++ a :: b :: post) = cnt x (pre ++ b :: a :: post)
  | [] => by
    show (if x < a then 1 else 0) + ((if x < b then 1 else 0) + cnt x post) = (if x < b then 1 else 0) + ((if x < a then 1 else 0) + cnt x post)
    omega
  | y :: pre => by
    show (if x < y then 1 else 0) + cnt x (pre ++ a :: b :: post) = (if x < y then 1 else 0) + cnt x (pre ++ b :: a :: post)
    rw [cnt_swap pre]
theorem asc_swap {a b : Nat} {post : List Nat} (h : a < b) : ∀ pre : List Nat, asc (pre ++ a :: b :: post) = asc (pre ++ b :: a :: post) + 1
  | [] => by
    show ((if a < b then 1 else 0) + cnt a post) + (cnt b post + asc post) = ((if b < a then 1 else 0) + cnt b post) + (cnt a post + asc post) + 1
    rw [if_pos h, if_neg (by omega)]
    omega
  | x :: pre => by
    show cnt x (pre ++ a :: b :: post) + asc (pre ++ a :: b :: post) = cnt x (pre ++ b :: a :: post) + asc (pre ++ b :: a :: post) + 1
    rw [cnt_swap pre, asc_swap h pre]
    omega
theorem cnt_le (a : Nat) : ∀ l : List Nat, cnt a l ≤ l.length
  | [] => Nat.le_refl _
  | y :: r => by
    show (if a < y then 1 else 0) + cnt a r ≤ r.length + 1
    have := cnt_le a r
    split <;> omega
theorem asc_le : ∀ l : List Nat, asc l ≤ l.length * l.length
  | [] => Nat.le_refl _
  | a :: r => by
    show cnt a r + asc r ≤ (r.length + 1) * (r.length + 1)
    have h1 := cnt_le a r
    have h2 := asc_le r
    have e : (r.length + 1) * (r.length + 1) = r.length * r.length + 2 * r.length + 1 := by
      rw [Nat.add_mul, Nat.mul_add]
      omega
    omega
inductive PRun (L0 : List Cow) : List Cow → List (Int × Int) → Prop
  | nil : PRun L0 L0 []
  | step {pre post : List Cow} {a b : Cow} {ps : List (Int × Int)} : PRun L0 (pre ++ a :: b :: post) ps → b.2.1 - a.2.2 > a.2.1 → PRun L0 (pre ++ (b.1, (b.2.1 - a.2.2, b.2.2)) :: a :: post) (ps ++ [((a.1 : Int), (b.1 : Int))])
inductive FRun (L0 : List Cow) : List Cow → List (Int × Int) → Prop
  | nil : FRun L0 L0 []
  | step {pre post : List Cow} {a b : Cow} {ps : List (Int × Int)} : FRun L0 (pre ++ a :: b :: post) ps → a.2.1 > b.2.1 → FRun L0 (pre ++ b :: (a.1, (a.2.1 + b.2.2, a.2.2)) :: post) (ps ++ [((a.1 : Int), (b.1 : Int))])
structure Facts (n : Nat) (L : List Cow) (ps : List (Int × Int)) : Prop where
  len : L.length = n
  tl : ∀ x ∈ L, 0 ≤ x.2.2
  nd : (L.map (·.1)).Nodup
  few : ps.length + asc (L.map (·.1)) ≤ n * n
theorem nd_ne {pre post : List Cow} {a b : Cow} (h : ((pre ++ a :: b :: post).map (·.1)).Nodup) : a.1 ≠ b.1 := by
  rw [List.map_append] at h
  have h1 := (List.nodup_append.mp h).2.1
  intro e
  have h2 := (List.nodup_cons.mp h1).1
  apply h2
  show a.1 ∈ b.1 :: post.map (·.1)
  rw [e]
  exact List.mem_cons_self ..
theorem nd_swap {pre post : List Cow} {a b : Cow} {u v : Int × Int} (h : ((pre ++ a :: b :: post).map (·.1)).Nodup) : ((pre ++ (b.1, u) :: (a.1, v) :: post).map (·.1)).Nodup := by
  rw [List.map_append] at h ⊢
  refine (List.Perm.nodup_iff ?_).mp h
  exact List.Perm.append_left _ (List.Perm.swap ..)
theorem asc_step {pre post : List Cow} {a b : Cow} {u v : Int × Int} (h : a.1 < b.1) : asc ((pre ++ a :: b :: post).map (·.1)) = asc ((pre ++ (b.1, u) :: (a.1, v) :: post).map (·.1)) + 1 := by
  rw [List.map_append, List.map_append]
  exact asc_swap h (pre.map (·.1))
theorem facts_tag {rs : Row} (h : ∀ b ∈ rs, 0 ≤ b.2) : Facts rs.length (tag 0 rs) [] := by
  refine ⟨tag_len 0 rs, fun x hx => ?_, ?_, ?_⟩
  · apply h
    rw [← tag_snd 0 rs]
    exact List.mem_map_of_mem (f := (·.2)) hx
  · rw [tag_fst]
    have e : (fun x => 0 + x) = (id : Nat → Nat) := by
      funext x
      exact Nat.zero_add x
    rw [e, List.map_id]
    exact List.nodup_range
  · have := asc_le ((tag 0 rs).map (·.1))
    rw [List.length_map, tag_len] at this
    show 0 + asc _ ≤ _
    omega
theorem facts_pass {n : Nat} {pre post : List Cow} {a b : Cow} {ps : List (Int × Int)} {q : Int × Int} (f : Facts n (pre ++ a :: b :: post) ps) (i : PInv (pre ++ a :: b :: post)) (hp : b.2.1 - a.2.2 > a.2.1) :
    Facts n (pre ++ (b.1, (b.2.1 - a.2.2, b.2.2)) :: a :: post) (ps ++ [q]) ∧ PInv (pre ++ (b.1, (b.2.1 - a.2.2, b.2.2)) :: a :: post) ∧ asc ((pre ++ (b.1, (b.2.1 - a.2.2, b.2.2)) :: a :: post).map (·.1)) < asc ((pre ++ a :: b :: post).map (·.1)) := by
  have hab := pinv_lt i hp (nd_ne f.nd)
  have hs := asc_step (pre := pre) (post := post) (a := a) (b := b) (u := (b.2.1 - a.2.2, b.2.2)) (v := a.2) hab
  have hb := f.tl b (by simp)
  have ha := f.tl a (by simp)
  refine ⟨⟨?_, fun x hx => ?_, nd_swap (v := a.2) f.nd, ?_⟩, pinv_pass hab hb hp i, ?_⟩
  · rw [← f.len, List.length_append, List.length_append]
    rfl
  · rcases List.mem_append.mp hx with h | h
    · exact f.tl x (List.mem_append_left _ h)
    · rcases List.mem_cons.mp h with rfl | h
      · exact hb
      · rcases List.mem_cons.mp h with rfl | h
        · exact ha
        · exact f.tl x (by simp [h])
  · have := f.few
    rw [List.length_append]
    show ps.length + 1 + asc ((pre ++ (b.1, (b.2.1 - a.2.2, b.2.2)) :: (a.1, a.2) :: post).map (·.1)) ≤ n * n
    omega
  · show asc ((pre ++ (b.1, (b.2.1 - a.2.2, b.2.2)) :: (a.1, a.2) :: post).map (·.1)) < _
    omega
theorem facts_fall {n : Nat} {pre post : List Cow} {a b : Cow} {ps : List (Int × Int)} {q : Int × Int} (f : Facts n (pre ++ a :: b :: post) ps) (i : FInv (pre ++ a :: b :: post)) (hp : a.2.1 > b.2.1) :
    Facts n (pre ++ b :: (a.1, (a.2.1 + b.2.2, a.2.2)) :: post) (ps ++ [q]) ∧ FInv (pre ++ b :: (a.1, (a.2.1 + b.2.2, a.2.2)) :: post) ∧ asc ((pre ++ b :: (a.1, (a.2.1 + b.2.2, a.2.2)) :: post).map (·.1)) < asc ((pre ++ a :: b :: post).map (·.1)) := by
  have hab := finv_lt i hp (nd_ne f.nd)
  have hs := asc_step (pre := pre) (post := post) (a := a) (b := b) (u := b.2) (v := (a.2.1 + b.2.2, a.2.2)) hab
  have hb := f.tl b (by simp)
  have ha := f.tl a (by simp)
  refine ⟨⟨?_, fun x hx => ?_, nd_swap (u := b.2) f.nd, ?_⟩, finv_fall hab hb hp i, ?_⟩
  · rw [← f.len, List.length_append, List.length_append]
    rfl
  · rcases List.mem_append.mp hx with h | h
    · exact f.tl x (List.mem_append_left _ h)
    · rcases List.mem_cons.mp h with rfl | h
      · exact hb
      · rcases List.mem_cons.mp h with rfl | h
        · exact ha
        · exact f.tl x (by simp [h])
  · have := f.few
    rw [List.length_append]
    show ps.length + 1 + asc ((pre ++ (b.1, b.2) :: (a.1, (a.2.1 + b.2.2, a.2.2)) :: post).map (·.1)) ≤ n * n
    omega
  · show asc ((pre ++ (b.1, b.2) :: (a.1, (a.2.1 + b.2.2, a.2.2)) :: post).map (·.1)) < _
    omega
end HH
set_option maxHeartbeats 4000000
namespace HH
open PySem PySem.Spec PyProof.Rows L2 Evl RZ
def rowsOf (L : List Cow) : HH.Row := L.map (·.2)
def ordL (L : List Cow) : List V := L.map fun x => V.int (x.1 : Int)
theorem RowAt.exL {K : PySem.W.Frag} {H H' : Hp} {v : V} {rs : HH.Row} {q : Addr} {ys : List V} (h : RowAt K H v rs) (e : ExB q H H') (hy : H q = some (.lst ys)) : RowAt K H' v rs := by
  obtain ⟨a, vs, h1, h2, h3⟩ := h
  exact ⟨a, vs, h1, e.t hy h2, h3.exB e hy⟩
theorem cow_len (L : List Cow) : (rowsOf L).length = L.length := List.length_map ..
theorem cow_split {L : List Cow} {p : Nat} (h : p + 1 < L.length) : ∃ (pre : List Cow) (x y : Cow) (post : List Cow), L = pre ++ x :: y :: post ∧ pre.length = p := by
  refine ⟨L.take p, L[p], L[p + 1], L.drop (p + 2), ?_, by rw [List.length_take]; omega⟩
  rw [← List.drop_eq_getElem_cons h, ← List.drop_eq_getElem_cons (by omega), List.take_append_drop]
theorem rows_mid (pre post : List Cow) (x y : Cow) : rowsOf (pre ++ x :: y :: post) = rowsOf pre ++ x.2 :: y.2 :: rowsOf post := by
  unfold rowsOf
  rw [List.map_append, List.map_cons, List.map_cons]
theorem ord_mid (pre post : List Cow) (x y : Cow) : ordL (pre ++ x :: y :: post) = ordL pre ++ V.int (x.1 : Int) :: V.int (y.1 : Int) :: ordL post := by
  unfold ordL
  rw [List.map_append, List.map_cons, List.map_cons]
theorem ord_len (L : List Cow) : (ordL L).length = L.length := List.length_map ..
theorem cow_pass {L : List Cow} {p : Nat} (hp : p < (rowsOf L).length) (hl : letsN (rowsOf L) p = true) : ∃ (pre post : List Cow) (a b : Cow), L = pre ++ a :: b :: post ∧ p = pre.length + 1 ∧ b.2.1 - a.2.2 > a.2.1 ∧ passR (rowsOf L) p = rowsOf (pre ++ (b.1, (b.2.1 - a.2.2, b.2.2)) :: a :: post) := by
  have h0 : 0 < p := of_decide_eq_true (Bool.and_eq_true_iff.mp hl).1
  rw [cow_len] at hp
  obtain ⟨k, rfl⟩ : ∃ k, p = k + 1 := ⟨p - 1, by omega⟩
  obtain ⟨pre, a, b, post, rfl, rfl⟩ := cow_split hp
  have e : pre.length = (rowsOf pre).length := (cow_len pre).symm
  rw [rows_mid, e, lets_split] at hl
  refine ⟨pre, post, a, b, rfl, rfl, of_decide_eq_true hl, ?_⟩
  rw [rows_mid, rows_mid, e, pass_split]
theorem cow_fall {L : List Cow} {p : Nat} (hp : p + 1 < (rowsOf L).length) (hl : fallsN (rowsOf L) p = true) : ∃ (pre post : List Cow) (a b : Cow), L = pre ++ a :: b :: post ∧ p = pre.length ∧ a.2.1 > b.2.1 ∧ fallR (rowsOf L) p = rowsOf (pre ++ b :: (a.1, (a.2.1 + b.2.2, a.2.2)) :: post) := by
  rw [cow_len] at hp
  obtain ⟨pre, a, b, post, rfl, rfl⟩ := cow_split hp
  have e : pre.length = (rowsOf pre).length := (cow_len pre).symm
  rw [rows_mid, e, falls_split] at hl
  refine ⟨pre, post, a, b, rfl, rfl, of_decide_eq_true hl, ?_⟩
  rw [rows_mid, rows_mid, e, fall_split]
theorem given_get {n : Nat} {f : Nat → Bool} {v : Nat → V} {r : Nat} {x : V} (h : (given n f v)[r]? = some x) : ∃ k, x = v k ∧ k < n ∧ f k = true := by
  unfold given at h
  have h1 := List.mem_of_getElem? h
  obtain ⟨k, hk, rfl⟩ := List.mem_map.mp h1
  obtain ⟨h2, h3⟩ := List.mem_filter.mp hk
  exact ⟨k, rfl, List.mem_range.mp h2, h3⟩
theorem ord_get {pre post : List Cow} {x y : Cow} : (ordL (pre ++ x :: y :: post))[pre.length]? = some (.int (x.1 : Int)) ∧ (ordL (pre ++ x :: y :: post))[pre.length + 1]? = some (.int (y.1 : Int)) := by
  rw [ord_mid]
  have e : pre.length = (ordL pre).length := (ord_len pre).symm
  rw [e]
  constructor
  · rw [List.getElem?_append_right (Nat.le_refl _), Nat.sub_self]
    rfl
  · rw [List.getElem?_append_right (by omega), show (ordL pre).length + 1 - (ordL pre).length = 1 by omega]
    rfl
theorem ord_swap {pre post : List Cow} {x y : Cow} {u v : Int × Int} : (ordL (pre ++ x :: y :: post)).take pre.length ++ [.int (y.1 : Int), .int (x.1 : Int)] ++ (ordL (pre ++ x :: y :: post)).drop (pre.length + 2) = ordL (pre ++ (y.1, u) :: (x.1, v) :: post) := by
  rw [ord_mid, ord_mid]
  have e : pre.length = (ordL pre).length := (ord_len pre).symm
  rw [e, List.take_append_of_le_length (Nat.le_refl _), List.take_length, ← List.drop_drop, List.drop_append_of_le_length (Nat.le_refl _), List.drop_length, List.append_assoc]
  rfl
theorem ord_tag (rs : HH.Row) : rgV 0 (rs.length : Int) = ordL (tag 0 rs) := by
  unfold rgV ordL
  have h := congrArg (List.map fun k : Nat => V.int (k : Int)) (tag_fst 0 rs)
  rw [List.map_map, List.map_map] at h
  refine Eq.trans ?_ h.symm
  rw [show ((rs.length : Int) - 0).toNat = rs.length by omega]
  refine List.map_congr_left fun i _ => ?_
  show V.int (0 + (i : Int)) = V.int ((0 + i : Nat) : Int)
  rw [Int.zero_add, Nat.zero_add]
section
variable {K : PySem.W.Frag} {σ : L2.St} {H H' : Hp} {te to ta tc : TE} {D : Ends} {tz : TS}
theorem q_sl {l : Addr} {xs ys : List V} {i j : Nat} {a c : Int} (h : EvL te σ H ys) (ho : Ev to σ H (.ref l)) (ha : Ev ta σ H (.int a)) (hc : Ev tc σ H (.int c)) (ea : a = (i : Int)) (ec : c = (j : Int)) (hl : H l = some (.lst xs)) (hij : i ≤ j) (hj : j ≤ xs.length) (hz : xs.length + ys.length ≤ 100000)
    (k : ∀ H1, Ex H H1 → tz D σ (upd H1 l (.lst (xs.take i ++ ys ++ xs.drop j)))) : tSeq (tAsg te (gSl to ta tc)) tz D σ H :=
  h H (Ex.refl H) _ fun b H1 hb e1 h1 => ho H1 e1 _ fun H2 e2 => ha H2 (e1.trans e2) _ fun H3 e3 => hc H3 ((e1.trans e2).trans e3) _ fun H4 e4 => by
    subst ea ec
    have e := (((e1.trans e2).trans e3).trans e4)
    exact ⟨l, b, xs, ys, (i : Int), (j : Int), rfl, rfl, rfl, rfl, e _ _ hl, ((e2.trans e3).trans e4) _ _ h1, ne_of_none hl hb, by omega, by omega, by omega, sz_of hz, k H4 e⟩
end
structure EndAt (K : PySem.W.Frag) (H H' : Hp) (p : Addr) (q : Addr) (v' : V) (ot lp : Addr) (pvs : List V) (L : List Cow) (ps : List (Int × Int)) (n : Nat) : Prop where
  ex : ExB p H H'
  bx : Bx H' p (n + 1000)
  q : H' q = some (.tup [v', .ref ot, .ref lp])
  row : RowAt K H' v' (rowsOf L)
  ord : H' ot = some (.tup (ordL L))
  lst : H' lp = some (.lst pvs)
  prs : Beasts K H' pvs ps
end HH
set_option maxHeartbeats 4000000
namespace HH
open PySem PySem.Spec PyProof.Rows L2 Evl RZ
inductive All2 {α : Type} (R : V → α → Prop) : List V → List α → Prop
  | nil : All2 R [] []
  | cons {v : V} {x : α} {vs : List V} {xs : List α} : R v x → All2 R vs xs → All2 R (v :: vs) (x :: xs)
theorem All2.mono {α : Type} {R S : V → α → Prop} (h : ∀ v x, R v x → S v x) : ∀ {vs : List V} {xs : List α}, All2 R vs xs → All2 S vs xs
  | _, _, .nil => .nil
  | _, _, .cons a b => .cons (h _ _ a) (All2.mono h b)
theorem All2.app {α : Type} {R : V → α → Prop} : ∀ {vs : List V} {xs : List α} {us : List V} {ys : List α}, All2 R vs xs → All2 R us ys → All2 R (vs ++ us) (xs ++ ys)
  | _, _, _, _, .nil, h => h
  | _, _, _, _, .cons a b, h => .cons a (All2.app b h)
theorem All2.len {α : Type} {R : V → α → Prop} : ∀ {vs : List V} {xs : List α}, All2 R vs xs → vs.length = xs.length
  | _, _, .nil => rfl
  | _, _, .cons a b => by rw [List.length_cons, List.length_cons, All2.len b]
theorem All2.get {α : Type} {R : V → α → Prop} : ∀ {vs : List V} {xs : List α} {i : Nat} {v : V}, All2 R vs xs → vs[i]? = some v → ∃ x, xs[i]? = some x ∧ R v x
  | _, _, _, _, .nil, h => by simp at h
  | _, _, 0, _, .cons a b, h => by
    cases h
    exact ⟨_, rfl, a⟩
  | _, _, i + 1, _, .cons a b, h => All2.get (i := i) b h
abbrev Deed := Bool × Nat
def wordOf (b : Bool) : Str := if b then "pass" else "fall"
def DeedAt (K : PySem.W.Frag) (H : Hp) (v : V) (d : Deed) : Prop := ∃ p, v = .ref p ∧ SqT K H p [.str (wordOf d.1), .int (d.2 : Int)]
section
variable {K : PySem.W.Frag} {σ : L2.St} {H H' : Hp} {t : TT}
end
inductive MRun (L0 : List Cow) : List Cow → List Deed → Prop
  | nil : MRun L0 L0 []
  | pass {pre post : List Cow} {a b : Cow} {ds : List Deed} : MRun L0 (pre ++ a :: b :: post) ds → b.2.1 - a.2.2 > a.2.1 → MRun L0 (pre ++ (b.1, (b.2.1 - a.2.2, b.2.2)) :: a :: post) (ds ++ [(true, pre.length + 1)])
  | fall {pre post : List Cow} {a b : Cow} {ds : List Deed} : MRun L0 (pre ++ a :: b :: post) ds → a.2.1 > b.2.1 → MRun L0 (pre ++ b :: (a.1, (a.2.1 + b.2.2, a.2.2)) :: post) (ds ++ [(false, pre.length)])
structure WanAt (K : PySem.W.Frag) (H H' : Hp) (p : Addr) (q : Addr) (v' : V) (ot lp : Addr) (us : List V) (L : List Cow) (ds : List Deed) (n m : Nat) : Prop where
  ex : ExB p H H'
  bx : Bx H' p (n + m)
  q : H' q = some (.tup [v', .ref ot, .ref lp])
  row : RowAt K H' v' (rowsOf L)
  ord : H' ot = some (.tup (ordL L))
  lst : H' lp = some (.lst us)
  prs : All2 (DeedAt K H') us ds
end HH
set_option maxHeartbeats 4000000
namespace HH
open PySem PySem.Spec PyProof.Rows L2 Evl RZ
section
variable {X : Cx}
end
section
variable {K : PySem.W.Frag} {σ : L2.St} {H H' : Hp} {te : TE} {D : Ends} {tz tu : TS} {g : TG}
end
def spLaw (K : PySem.W.Frag) : Sp := fun vs H Q _ => ∃ (a : Addr) (ns : List Int), vs = [.ref a] ∧ SqL K H a (ns.map V.int) ∧ ns.length ≤ 63 ∧ ∀ H', Q (.bl true) H'
theorem lim_ok {n : Nat} (h : n ≤ 100000000) : n < Lim := by
  have h1 : (2 : Nat) ^ 100 ≤ 2 ^ 4000 := Nat.pow_le_pow_right (by decide) (by decide)
  have h2 : (2 : Nat) ^ 100 = 1267650600228229401496703205376 := by decide
  have h3 : Lim = 2 ^ 4000 := rfl
  rw [h3]
  generalize (2 : Nat) ^ 4000 = L at *
  rw [h2] at h1
  omega
section
variable {K : PySem.W.Frag} {σ : L2.St} {H H' : Hp} {te t1 t2 : TE}
end
theorem q_call {sp : Sp} {dvs : List V} {E : XK} {ta : TA} {i : Nat} {D : Ends} {tz : TS} {σ : L2.St} {H : Hp} (h : ta σ H fun vs H1 => sp (vs ++ dvs) H1 (fun x H2 => tz D (σ.set i (some x)) H2) E) : tSeq (tAsg (tCall sp dvs E ta) (gName i)) tz D σ H := h
end HH
set_option maxHeartbeats 4000000
namespace HH
open PySem PySem.Spec PyProof.Rows L2 Evl RZ
inductive Bk where
  | val
  | run
  | look
  | over
namespace Bk
def nm : Bk → String
  | val => "ValueError"
  | run => "RuntimeError"
  | look => "LookupError"
  | over => "OverflowError"
def st : Bk → Str
  | val => "ValueError"
  | run => "RuntimeError"
  | look => "LookupError"
  | over => "OverflowError"
def nw : Bk → String
  | val => "ValueError.__new__"
  | run => "RuntimeError.__new__"
  | look => "LookupError.__new__"
  | over => "OverflowError.__new__"
def ini : Bk → String
  | val => "ValueError.__init__"
  | run => "RuntimeError.__init__"
  | look => "LookupError.__init__"
  | over => "OverflowError.__init__"
def mro : Bk → List Value
  | val => [.type "ValueError", .type "Exception", .type "BaseException", .type "object"]
  | run => [.type "RuntimeError", .type "Exception", .type "BaseException", .type "object"]
  | look => [.type "LookupError", .type "Exception", .type "BaseException", .type "object"]
  | over => [.type "OverflowError", .type "ArithmeticError", .type "Exception", .type "BaseException", .type "object"]
theorem base : (b : Bk) → ExcBaseFacts b.nm b.nw b.ini b.mro
  | val => F.excBase_ValueError
  | run => F.excBase_RuntimeError
  | look => F.excBase_LookupError
  | over => F.excBase_OverflowError
theorem store : (b : Bk) → StoreFacts b.nm b.mro "object.__setattr__" "object"
  | val => F.store_ValueError
  | run => F.store_RuntimeError
  | look => F.store_LookupError
  | over => F.store_OverflowError
theorem typ : (b : Bk) → typeOf (.type b.nm) = pure (.type "type")
  | val => by kernel_rfl
  | run => by kernel_rfl
  | look => by kernel_rfl
  | over => by kernel_rfl
theorem stub : (b : Bk) → Manifest.isStub b.nm = false
  | val => by decide +kernel
  | run => by decide +kernel
  | look => by decide +kernel
  | over => by decide +kernel
theorem boot : (b : Bk) → bootBuiltins b.st = some (.type b.nm)
  | val => PyProof.Rows.Boot.«ValueError»
  | run => PyProof.Rows.Boot.«RuntimeError»
  | look => PyProof.Rows.Boot.«LookupError»
  | over => PyProof.Rows.Boot.«OverflowError»
end Bk
structure ExcTy (K : PySem.W.Frag) (b : Bk) (f : Str) (C fI : Addr) : Prop where
  ok : PySem.W.excInitIn K C b.mro b.nw = true
  ov : PySem.W.excOver K C b.mro = true
  tk : PySem.W.takerIn K C f = some none
  hd : PySem.W.hasDictIn K C = true
  sa : PySem.W.findIn K (.ref C) "__setattr__" = some (some (.builtin "object.__setattr__"))
  ga : PySem.W.findIn K (.ref C) "__getattribute__" = some (some (.builtin "BaseException.__getattribute__"))
  gg : PySem.W.findIn K (.ref C) "__getattr__" = some none
  no : PySem.W.findIn K (.ref C) f = some none
  iC : PySem.W.findIn K (.ref C) "__init__" = some (some (.ref fI))
  ca : PySem.W.findIn K (.ref C) "__class__" = some (some (.builtin "object.__class__"))
  gs : PySem.W.specialIn K (.builtin "object.__class__") "__get__" = some (some (.builtin "getset_descriptor.__get__"))
  tI : PySem.W.typeIn K (.ref fI) = some (.type "function")
  kC : PySem.W.keepIn K (.ref C) = true
  ex : PySem.W.subIn K (.ref C) (.type "BaseException") = some true
  ty : PySem.W.typeIn K (.ref C) = some (.type "type")
  ts : PySem.W.takesIn K (.builtin "object.__class__") = some true
  mo : PySem.W.mroIn K C (.type "object") = some true
  bi : PySem.W.findCls K (.type b.nm) (.type "type") "__init__" = some (.val (.builtin b.ini))
def exTyB (K : PySem.W.Frag) (b : Bk) (f : Str) (C fI : Addr) : Bool :=
  PySem.W.excInitIn K C b.mro b.nw && (PySem.W.excOver K C b.mro && (He.eqO (PySem.W.takerIn K C f) (some none) && (PySem.W.hasDictIn K C &&
  (He.eqO (PySem.W.findIn K (.ref C) "__setattr__") (some (some (.builtin "object.__setattr__"))) && (He.eqO (PySem.W.findIn K (.ref C) "__getattribute__") (some (some (.builtin "BaseException.__getattribute__"))) &&
  (He.eqO (PySem.W.findIn K (.ref C) "__getattr__") (some none) && (He.eqO (PySem.W.findIn K (.ref C) f) (some none) && (He.eqO (PySem.W.findIn K (.ref C) "__init__") (some (some (.ref fI))) &&
  (He.eqO (PySem.W.findIn K (.ref C) "__class__") (some (some (.builtin "object.__class__"))) && (He.eqO (PySem.W.specialIn K (.builtin "object.__class__") "__get__") (some (some (.builtin "getset_descriptor.__get__"))) &&
  (decide (PySem.W.typeIn K (.ref fI) = some (.type "function")) && (PySem.W.keepIn K (.ref C) && (decide (PySem.W.subIn K (.ref C) (.type "BaseException") = some true) && (decide (PySem.W.typeIn K (.ref C) = some (.type "type")) &&
  (decide (PySem.W.takesIn K (.builtin "object.__class__") = some true) && decide (PySem.W.mroIn K C (.type "object") = some true))))))))))))))))
theorem band {a b : Bool} (h : (a && b) = true) : a = true ∧ b = true := Bool.and_eq_true_iff.mp h
theorem exTyB_ok {K : PySem.W.Frag} {b : Bk} {f : Str} {C fI : Addr} (h : exTyB K b f C fI = true) (bi : PySem.W.findCls K (.type b.nm) (.type "type") "__init__" = some (.val (.builtin b.ini))) : ExcTy K b f C fI := by
  unfold exTyB at h
  obtain ⟨h1, h⟩ := band h
  obtain ⟨h2, h⟩ := band h
  obtain ⟨h3, h⟩ := band h
  obtain ⟨h4, h⟩ := band h
  obtain ⟨h5, h⟩ := band h
  obtain ⟨h6, h⟩ := band h
  obtain ⟨h7, h⟩ := band h
  obtain ⟨h8, h⟩ := band h
  obtain ⟨h9, h⟩ := band h
  obtain ⟨h10, h⟩ := band h
  obtain ⟨h11, h⟩ := band h
  obtain ⟨h12, h⟩ := band h
  obtain ⟨h13, h⟩ := band h
  obtain ⟨h14, h⟩ := band h
  obtain ⟨h15, h⟩ := band h
  obtain ⟨h16, h17⟩ := band h
  exact ⟨h1, h2, He.eqO_ok h3, h4, He.eqO_ok h5, He.eqO_ok h6, He.eqO_ok h7, He.eqO_ok h8, He.eqO_ok h9, He.eqO_ok h10, He.eqO_ok h11, of_decide_eq_true h12, h13, of_decide_eq_true h14, of_decide_eq_true h15, of_decide_eq_true h16, of_decide_eq_true h17, bi⟩
section
variable {X : Cx} {pins : List (Addr × Obj)} {σ : L2.St} {H : Hp} {s : Shared} {a C fI : Addr} {f : Str} {b : Bk} {y : V} {u : Value} {A : Around} {E : Value → Shared → Prop}
theorem dict_new {hp h' : Heap} {g : Array GenState} {d : Drawn} {t tk' : Nat} {os : OsState} {t1 dx : Addr} (I : Inv X pins σ H ⟨hp, g, d, t, os⟩) (e : H a = some (exo a C none)) (k : ∀ c o, c ≠ a → hp.get? c = some o → h'.get? c = some o) (dn : hp.objs.size ≤ dx) (ne : dx ≠ a)
    (hx : h'.get? a = some { cls := .ref C, dict := some dx, data := .fields #[.ref t1, .none, .none, .none, .bool false, .none] }) {mA : Str → Option Value} (hn : h'.Ns1 dx mA) (rel : ∀ g, RelO ([(f, y)].lookup g) (mA g)) :
    H dx = none ∧ Inv X pins σ (upd (upd H dx (exd dx [(f, y)])) a (exo a C (some dx))) ⟨h', g, d, tk', os⟩ := by
  have nd : H dx = none := I.hok.fresh dn
  have old {c : Addr} {o : Obj} (q : hp.get? c = some o) : c ≠ dx := Nat.ne_of_lt (Nat.lt_of_lt_of_le (Heap.lt_size q) dn)
  have una {c : Addr} (n : H c = none) : c ≠ a := by
    rintro rfl
    rw [e] at n
    cases n
  have skip {c : Addr} (h1 : c ≠ a) (h2 : c ≠ dx) : upd (upd H dx (exd dx [(f, y)])) a (exo a C (some dx)) c = H c := by rw [upd_ne h1, upd_ne h2]
  refine ⟨nd, I.un (t' := tk') ⟨fun c o q n _ _ => k c o (una n) q, fun c o q n _ _ => ⟨o.slots, k c o (una n) q⟩, fun c o q n _ => (skip (una n) (old q)).trans n, fun c o q _ => ?_, fun c xs q => (skip (at_ne e q exo_tup) (ne_of_none q nd)).trans q, fun c o v q => (skip (at_ne e q exo_frz) (ne_of_none q nd)).trans q,
    fun c ps q => ⟨#[], by rw [skip (at_ne e q exo_tbl) (ne_of_none q nd), q, Array.append_empty]⟩⟩ fun c o q => ?_⟩
  · by_cases z : c = a
    · exact ⟨_, by rw [z]; exact hx⟩
    · exact ⟨o, k c o z q⟩
  · by_cases z : c = a
    · subst z
      rw [upd_same] at q
      cases q
      exact exo_ok hx
    by_cases z2 : c = dx
    · subst z2
      rw [upd_ne z, upd_same] at q
      cases q
      exact exd_ok hn rel
    rw [skip z z2] at q
    refine (I.hok c o q).stay (fun c2 v hc r => k c2 v ?_ r) (fun c2 hc => (skip (at_ne e hc exo_own) (ne_of_none hc nd)).trans hc) fun c2 xs hc => (skip (at_ne e hc exo_tup) (ne_of_none hc nd)).trans hc
    rcases hc with rfl | hc
    · exact z
    · exact at_ne e hc exo_own
theorem exc_first {Q : Unit → Shared → Prop} (T : ExcTy X.K b f C fI) (I : Inv X pins σ H s) (e : H a = some (exo a C none)) (ry : RelV y u)
    (k : ∀ dx s', H dx = none → dx ≠ a → Inv X pins σ (upd (upd H dx (exd dx [(f, y)])) a (exo a C (some dx))) s' → Q () s') : wpAny (model X.prog X.w) A (setAttr (.ref a) f u) Q E s := by
  obtain ⟨t1, ho⟩ := exo_at I.hok e
  obtain ⟨hp, g, d, t, os⟩ := s
  obtain ⟨cd, hcd, hdd⟩ := PySem.W.any_some T.hd
  have LC : PySem.W.Looks (model X.prog X.w) hp (classData C) cd := PySem.W.looks_clsIn I.kIn hcd
  have J : PySem.W.InstAt hp a { cls := .ref C, dict := none, data := .fields #[.ref t1, .none, .none, .none, .bool false, .none] } C none := ⟨ho, rfl, rfl, trivial⟩
  have aw : a ≠ hp.objs.size := Nat.ne_of_lt (Heap.lt_size ho)
  refine PySem.W.set_plain I.kIn J T.sa (PySem.W.osa_openX b.store I.kIn J T.ov T.tk fun bb => ?_)
  obtain ⟨nm, bs, mro, ns, qn, hd, sn, sb, ab, col, del⟩ := cd
  dsimp only at hdd
  subst hdd
  dsimp only
  unfold Builtin.ObjectAttr.storeInOwnDict Builtin.ObjectAttr.ownDictForStores
  repeat (first | with_reducible refine HandSPX.store_in_new ?_ ?_ | with_reducible refine wpAny_loadPart_at ho ?_ | with_reducible refine LC.at ?_ | wp_step)
  · exact ⟨_, #[], _, (Heap.get?_update_ne _ _ _ _ aw.symm).trans (Heap.get?_push_at rfl rfl), rfl, fun e he => absurd he (by simp), fun _ => rfl⟩
  · intro h' tk' hn' hs
    have ho1 : (hp.push { cls := .type "dict", data := .dict #[] }).get? a = _ := Heap.get?_push_of_some _ ho
    obtain ⟨n, J⟩ := dict_new (tk' := tk') (y := y) (f := f) (dx := hp.objs.size) I e (fun c o hc q => (hs.2 c (Nat.ne_of_lt (Heap.lt_size q))).trans ((Heap.get?_update_ne _ _ _ _ hc).trans (Heap.get?_push_of_some _ q))) (Nat.le_refl _) aw.symm ((hs.2 a aw).trans (Heap.get?_update_self _ ho1 rfl)) hn' (relO_put (fs := []) ry fun _ => True.intro)
    exact k _ _ n aw.symm J
def tBI (K : PySem.W.Frag) (b : Bk) (ta : TA) : TE := fun σ H Q => ta σ H fun vs H1 => ∃ (a C : Addr) (ws : List V), vs = .ref a :: ws ∧ ws.length ≤ 1000 ∧ PySem.W.excInitIn K C b.mro b.nw = true ∧ H1 a = some (exo a C none) ∧ Q .non H1
theorem pe_bini {e : Expr} {es : List Expr} {ta : TA} {p1 p2 pos : Pos} {pl : Sem Bool} (hg : Gl X b.st) (hm : X.mg b.st = none) (bi : PySem.W.findCls X.K (.type b.nm) (.type "type") "__init__" = some (.val (.builtin b.ini))) (ha : PA X (e :: es) ta)
    (hn : b.st ≠ ("__name__" : Str)) (hdb : (b.st == ("__debug__" : Str)) = false) (hh : PySem.W.handedIn (.builtin b.ini) = true)
    (hc : eval (.Call (.Attribute (.Name b.st p1) "__init__" p2) (e :: es) [] pos) X.env = (do
      let ov ← eval (.Name b.st p1) X.env
      standAt p2.atName
      let (f, first) ← holding [ov] (getMethod ov "__init__" pl)
      callWith pos f first (backTo pos (starEach (e :: es) X.env)) (backToKw pos (keywordEach [] X.env))) := by rfl)
    (he : starEach (e :: es) X.env = (false, eval e X.env) :: starEach es X.env := by rfl) (hpl : (backTo pos (starEach es X.env)).any (·.1) = false := by rfl) :
    PE X (.Call (.Attribute (.Name b.st p1) "__init__" p2) (e :: es) [] pos) (tBI X.K b ta) := by
  refine ⟨fun pins s σ H Q I h => PySem.W.methodCall_KW (ld_blt I hg hm b.boot ?_ hn hdb) hc⟩
  obtain ⟨m, fr⟩ := I.fr
  refine PySem.W.method_type fr I.ok.mod.kin b.typ b.stub bi hh ?_
  show wpAny _ _ (callWith pos (Value.builtin b.ini) [] (backTo pos (starEach (e :: es) X.env)) []) _ _ _
  refine PyProof.Rows.callWith_method1 (thn (ha.run pos pins _ σ H _ (I.tok _) h) fun us s1 ⟨vs, H1, J, r, a, C, ws, ev, hl, hC, ea, q⟩ => ?_) he hpl
  subst ev
  cases r with
  | @cons _ u0 _ ur ra rw' =>
    obtain rfl : u0 = Value.ref a := ra
    have few : ur.length ≤ sizeLine := by
      rw [← Paired.length rw', sizeLine_eq]
      omega
    obtain ⟨t1, ho⟩ := exo_at J.hok ea
    obtain ⟨nm, N, qn, bs, bm, hdct, sn, sub, ab, col, dd, k0, k1, k2, k3, k5, hC', hT⟩ := PySem.W.excInit_of J.kIn hC
    obtain ⟨hp, g, d, t, os⟩ := s1
    refine wpAny_call (PySem.HandSPX.init_base b.base hT hC' ho few fun h' t2 k hx => ⟨.non, H1, ?_, rfl, q⟩)
    have W := J.write (t' := t) (x := a) (e := a) (o := exo a C none) (by rw [ea]; exact True.intro) (.inl rfl) k ⟨_, hx⟩ (exo_ok hx)
    have eu : upd H1 a (exo a C none) = H1 := funext fun c => by
      by_cases z : c = a
      · rw [z, upd_same, ea]
      · exact upd_ne z
    rw [eu] at W
    exact W
def tXs (K : PySem.W.Frag) (f : Str) (to te : TE) : TS := fun D σ H => te σ H fun y H1 => to σ H1 fun x H2 => ∃ (a C fI : Addr) (b : Bk), x = .ref a ∧ ExcTy K b f C fI ∧ H2 a = some (exo a C none) ∧ ∀ dx, H2 dx = none → dx ≠ a → D.nx σ (upd (upd H2 dx (exd dx [(f, y)])) a (exo a C (some dx)))
theorem ps_xs {o e : Expr} {to te : TE} {p' pos : Pos} (ho : PE X o to) (he : PE X e te) (hs : swapsWith e (some (.Attribute o f p')) pos.line X.env = pure false := by rfl) : PS X (.Assign [.Attribute o f p'] e pos) (tXs X.K f to te) := by
  refine ⟨fun pins s σ H D I h => plainObj_wpAny_Assign_Attribute (thn (he.run pins s σ H _ I h) fun v s1 ⟨y, H1, I1, r1, q1⟩ => thn (ho.run pins s1 σ H1 _ I1 q1) fun u s2 ⟨x, H2, I2, r2, a, C, fI, b, ex, T, ea, q⟩ => ?_) hs⟩
  subst ex
  obtain rfl : u = Value.ref a := r2
  exact exc_first T I2 ea r1 fun dx s' n ne J => ⟨σ, _, J, q dx n ne⟩
end
def spIni (C : Addr) (f : Str) : Sp := fun vs H Q _ => ∃ (a : Addr) (v : V), vs = [.ref a, v] ∧ H a = some (exo a C none) ∧ ∀ dx, H dx = none → dx ≠ a → Q .non (upd (upd H dx (exd dx [(f, v)])) a (exo a C (some dx)))
def tMkX (C : Addr) (f : Str) (ta : TA) : L2.St → Hp → XK → Prop := fun σ H Q => ta σ H fun vs H1 => ∃ v, vs = [v] ∧ ∀ d, H1 d = none → Q (.ref C) (some d) (upd H1 d (.xd [(f, v)]))
section
variable {X : Cx} {C fI : Addr} {f : Str} {b : Bk}
theorem pmk_x {x : Str} {e : Expr} {ta : TA} {p pos : Pos} {k : Nat} {fd : FuncData} (T : ExcTy X.K b f C fI) (F1 : FnOk X.prog X.w X.K X.mg X.base CX0 k fI fd ["self", f] (spIni C f)) (hr : Room (k + 1) X.A) (hb : Binds X.K fd ["self", f] []) (hm : X.mg x = some (.ref C)) (hg : Gl X x) (ha : PA X [e] ta)
    (hdb : (x == ("__debug__" : Str)) = false := by decide) (he : starEach (e :: []) X.env = (false, eval e X.env) :: starEach [] X.env := by rfl) (hpl : (backTo pos (starEach [] X.env)).any (·.1) = false := by rfl) :
    PMk X (.Call (.Name x p) [e] [] pos) (tMkX C f ta) := by
  intro pins s σ H Q I h
  refine wpAny_Call_Name_kw (ld_glob I hg hm (PySem.W.callWith_K (h₀ := X.base) I.ok.mod.kin T.kC (thn (ha.run pos pins s σ H _ I h) fun us s1 ⟨vs, H1, J, r1, v, ev, q⟩ => ⟨J.kIn, ?_⟩) he hpl) hdb)
  subst ev
  show wpAny _ _ (call (.ref C) us) _ _ _
  obtain ⟨u, rfl, ru⟩ := vals1 r1
  obtain ⟨nm, N, qn, bs, bm, hdct, sn, sub, ab, col, dd, k0, k1, k2, k3, k5, hC, hT⟩ := PySem.W.excInit_of J.kIn T.ok
  obtain ⟨hp, g, dr, tk, os⟩ := s1
  have big : hp.objs.size ≤ hp.objs.size + 1 := Nat.le_succ _
  have nw : H1 (hp.objs.size + 1) = none := J.hok.fresh big
  have kk : ∀ c o, hp.get? c = some o → ((hp.push (PySem.W.kdv_tup [u])).push (PySem.HandSPX.excO C hp.objs.size)).get? c = some o := fun c o z => Heap.get?_push_of_some _ (Heap.get?_push_of_some _ z)
  have at1 : ((hp.push (PySem.W.kdv_tup [u])).push (PySem.HandSPX.excO C hp.objs.size)).get? (hp.objs.size + 1) = some (PySem.HandSPX.excO C hp.objs.size) := by heap_get
  have J2 : Inv X pins σ (upd H1 (hp.objs.size + 1) (exo (hp.objs.size + 1) C none)) ⟨(hp.push (PySem.W.kdv_tup [u])).push (PySem.HandSPX.excO C hp.objs.size), g, dr, tk, os⟩ := J.laid (t' := tk) (h' := (hp.push (PySem.W.kdv_tup [u])).push (PySem.HandSPX.excO C hp.objs.size)) kk big (exo_ok at1)
  have r2 : Vals [V.ref (hp.objs.size + 1), v] [Value.ref (hp.objs.size + 1), u] := .cons rfl (.cons ru .nil)
  have sp : spIni C f [V.ref (hp.objs.size + 1), v] (upd H1 (hp.objs.size + 1) (exo (hp.objs.size + 1) C none)) (fun v' H2 => v' = .non ∧ ∃ (d : Addr) (fs : List (Str × V)), H2 (hp.objs.size + 1) = some (exo (hp.objs.size + 1) C (some d)) ∧ H2 d = some (exd d fs) ∧ H1 d = none ∧ Q (.ref C) (some d) (upd (del H2 (hp.objs.size + 1)) d (.xd fs))) (fun _ _ _ => False) := by
    refine ⟨_, v, rfl, upd_same, fun dx n ne => ⟨rfl, dx, [(f, v)], upd_same, ?_, ?_, ?_⟩⟩
    · rw [upd_ne ne, upd_same]
    · rw [← n, upd_ne ne]
    · have n1 : H1 dx = none := by rw [← n, upd_ne ne]
      have e2 : upd (del (upd (upd (upd H1 (hp.objs.size + 1) (exo (hp.objs.size + 1) C none)) dx (exd dx [(f, v)])) (hp.objs.size + 1) (exo (hp.objs.size + 1) C (some dx))) (hp.objs.size + 1)) dx (.xd [(f, v)]) = upd H1 dx (.xd [(f, v)]) := funext fun c => by
        by_cases z : c = dx
        · rw [z, upd_same, upd_same]
        rw [upd_ne z, upd_ne z]
        by_cases z2 : c = hp.objs.size + 1
        · rw [z2, del_same, nw]
        · rw [del_ne z2, upd_ne z2, upd_ne z, upd_ne z2]
      rw [e2]
      exact q dx n1
  refine wpAny_call (PySem.HandSPX.call_own b.base hT hC (PySem.W.looks_findIn J.kIn T.iC) (fun self => PySem.W.bind_fn J.kIn self T.tI) (by rw [sizeLine_eq]; show 1 ≤ 16777216; decide)
    (codeAny_mono (F1.run _ X.stack _ _ ⟨[Value.ref (hp.objs.size + 1), u], []⟩ [Value.ref (hp.objs.size + 1), u] _ _ (fun _ _ _ => False) (hr.make C [u] []) (J2.env0.make C [u] []) (hb _ [Value.ref (hp.objs.size + 1), u] J2.kIn rfl) r2 sp) fun rs s' hq => ?_))
  match rs, hq with
  | .error _, hq => exact hq.elim
  | .ok .next, hq => exact hq.elim
  | .ok .brk, hq => exact hq.elim
  | .ok .cont, hq => exact hq.elim
  | .ok (.ret _), ⟨v', H2, os2, bare2, un2, hok2, rv, ev, d, fs, ea, ed, hd1, q2⟩ =>
    subst ev
    obtain ⟨h2, g2, d2, t2, os'⟩ := s'
    exact ⟨rv, mk_end (raises_own T.ex T.ty) J big kk un2 hok2 os2 bare2 ea ed hd1 q2⟩
end
end HH
set_option maxHeartbeats 4000000
namespace HH
open PySem PySem.Spec PyProof.Rows L2 Evl RZ
section
variable {X : Cx} {pins : List (Addr × Obj)} {σ : L2.St} {H : Hp} {s : Shared} {a : Addr} {oe : Obj} {cls : Value} {d : Option Addr} {vs : Array Value}
end
def Catches (X : Cx) (t : Expr) (m : Value → Prop) : Prop :=
  ∀ (e : Addr) (pn : List (Addr × Obj)) (cls : Value) (σ : L2.St) (H : Hp) (s : Shared) (E : Value → Shared → Prop) (Q : Bool → Shared → Prop), m cls → Inv (X.suite e pn) [] σ H s → PySem.W.Looks (model X.prog X.w) s.heap (typeOf (.ref e)) cls →
    (∀ h', (∀ q o, s.heap.get? q = some o → h'.get? q = some o) → Q true { s with heap := h' }) →
    wpAny (model X.prog X.w) (X.A.mark (some (.ref e))) (eval t X.env) (fun c s1 => wpAny (model X.prog X.w) (X.A.mark (some (.ref e))) (excMatches (.ref e) c) Q E s1) E s
section
variable {X : Cx} {x1 x2 x3 x4 : Str} {c1 c2 c3 c4 : Value} {p1 p2 p3 p4 tp : Pos} {kk : Nat}
theorem nm_look {e : Addr} {pn : List (Addr × Obj)} {σ : L2.St} {H : Hp} {s : Shared} {x : Str} {c : Value} {p : Pos} {Q : Value → Shared → Prop} {E : Value → Shared → Prop} (n : Names X x c) (I : Inv (X.suite e pn) [] σ H s) (q : Q c s) : wpAny (model X.prog X.w) (X.A.mark (some (.ref e))) (eval (.Name x p) X.env) Q E s := by
  obtain ⟨hg, hdb, hm | ⟨hm, hv, hn⟩⟩ := n
  · exact ld_glob (X := X.suite e pn) I hg hm q hdb
  · exact ld_blt (X := X.suite e pn) I hg hm hv q hn hdb
theorem catch4 (n1 : Names X x1 c1) (n2 : Names X x2 c2) (n3 : Names X x3 c3) (n4 : Names X x4 c4) : Catches X (.Tuple [.Name x1 p1, .Name x2 p2, .Name x3 p3, .Name x4 p4] kk tp) (fun cls => PySem.W.exmAny X.K cls [c1, c2, c3, c4] = some true) := fun e pn cls σ H s E Q m I LT q => by
  refine wpAny_Tuple (wpAny_items_cons (nm_look n1 I (wpAny_items_cons (nm_look n2 I (wpAny_items_cons (nm_look n3 I (wpAny_items_cons (nm_look n4 I (wpAny_items_nil ⟨by size_fits, ?_⟩)))))))))
  have kp : ∀ c o, s.heap.get? c = some o → (s.heap.push { cls := .type "tuple", data := .seq [c1, c2, c3, c4].toArray }).get? c = some o := fun c o z => Heap.get?_push_of_some _ z
  exact (PySem.W.exm_tup4 (I.kIn.keeps kp) (LT.keeps kp) (Heap.get?_push_size s.heap rfl) m).here (q _ kp)
end
theorem fly_keeps {B : Heap} {l : List Env} {e : Addr} {Z : Obj → Prop} {h h' : Heap} (R : HandSPX.FlyingZ B l e Z h) (k : ∀ c o, h.get? c = some o → h'.get? c = some o) : HandSPX.FlyingZ B l e Z h' := by
  obtain ⟨f1, f2, f3, oe, ws, T, oT, ts, he, hc, hd, h1, hn, hne, hT, hdT, h3⟩ := R
  exact ⟨fun c o q => k c o (f1 c o q), f2, f3.of_keeps fun c o q _ => ⟨o, k c o q, rfl⟩, oe, ws, T, oT, ts, k _ _ he, hc, hd, h1, hn, hne, k _ _ hT, hdT, h3⟩
section
variable {X : Cx} {t : Expr} {n : Str} {i : Nat} {m : Value → Prop} {body suite : List Stmt} {b0 : Stmt} {pos pos' : Pos} {tb : WX → TS} {ts : Addr → Value → Option Addr → TS}
end
section
variable {X : Cx} {C fI : Addr} {f : Str} {b : Bk}
end
end HH
set_option maxHeartbeats 4000000
namespace HH
open PySem PySem.Spec PyProof.Rows L2 Evl RZ
structure FnG (P : Program) (w : World) (K : PySem.W.Frag) (mg : Str → Option Value) (base : Heap) (k : Nat) (f : Addr) (fd : FuncData) (ps : List Str) (sp : Sp) : Prop where
  len : ∀ vs H Q E, sp vs H Q E → vs.length = ps.length
  run : ∀ (A : Around) (outer : List Env) (s : Shared) (H : Hp) (args : Args) (us : List Value) (vs : List V) (Q : VK) (E : XK), A.guards = some [] → Room k A → Env0 P w K mg base A outer s H → BindsTo s fd args (ps.zip us) → Vals vs us → sp vs H Q E →
    codeAny (model P w) A (.call (.ref f) args) (CR CX0 outer P w H s Q E) s
theorem FnG.of {P : Program} {w : World} {K : PySem.W.Frag} {mg : Str → Option Value} {base : Heap} {k : Nat} {f : Addr} {x qual : Str} {params : Arguments} {body : List Stmt} {scope : Scope} {kws : List (Str × V)} {fd : FuncData} {N ps : List Str} {sp : Sp}
    (F : FunD K x qual params body scope [] kws f fd) (S : FnScope N ps scope) (len : ∀ vs H Q E, sp vs H Q E → vs.length = ps.length)
    (hbody : ∀ (cdv : Value) (A : Around) (outer : List Env) (s : Shared) (H : Hp) (vs : List V) (Q : VK) (E : XK), (A.deeper (envOfC qual scope s.heap.objs.size f cdv)).guards = some [] → Room k (A.deeper (envOfC qual scope s.heap.objs.size f cdv)) → sp vs H Q E →
      ∃ t, PSs (cxOf CX0 P w K mg base N qual scope f cdv A outer s H E) body t ∧ t { nx := fun _ H' => Q .non H', rt := Q } (start N vs) H) : FnG P w K mg base (k + 1) f fd ps sp := by
  obtain ⟨oc, od, dV, kV, doc, pm, an, cdv, ct, osl, rfl, lk, hcd, _, _⟩ := F.ex
  refine ⟨len, fun A outer s H args us vs Q E hg hr e0 hb r hsp => ?_⟩
  have inK : K.In s.heap := e0.mod.kin.keeps fun c o z => (e0.bs c o z).1
  have noL : s.heap.NoLimit := e0.mod.nolimit.keeps fun c o z => (e0.bs c o z).1
  have kinds : ∀ y ∈ ps.zip us, scope.names.lookup y.1 = some .local ∨ (scope.names.lookup y.1 = some .cell ∧ ((cellsFrom (s.heap.objs.size + 1) scope.names []).lookup y.1).isSome = true) := fun ⟨nm, v⟩ hy =>
    (S.par nm (List.of_mem_zip hy).1).elim .inl fun z => .inr ⟨z, PySem.W.cellsFrom_some _ _ _ (.inl z)⟩
  refine codeAny_call_function hr.depth (inK _ _ lk) rfl S.co S.gen rfl (PySem.W.codeRec_of inK hcd) (hb _ _ _ _ (wpAny_newFunctionEnv_cells S.kind kinds fun env he s1 x => ?_))
  subst he
  refine ⟨noL.keeps x.toInCall.keep, codeAny_func ?_⟩
  obtain ⟨t, ht, hq⟩ := hbody cdv A outer s H vs Q E hg (hr.deeper _) hsp
  have I0 := inv_start (CX := CX0) (E := E) S hr.hd e0 (len _ _ _ _ hsp) r x
  refine wpAny_mono (ht.run [] s1 (start N vs) H _ I0 hq) (fun fl s' hs => ?_) fun e s' hs => hs
  cases fl with
  | ret u =>
    obtain ⟨v, σ', H', J, rv, q⟩ := hs
    exact ⟨v, H', J.os, J.bare, J.base, J.hok, rv, q⟩
  | next =>
    obtain ⟨σ', H', J, q⟩ := hs
    exact ⟨.non, H', J.os, J.bare, J.base, J.hok, rfl, q⟩
  | brk => exact hs.elim fun _ z => z.elim fun _ z => z.2.elim
  | cont => exact hs.elim fun _ z => z.elim fun _ z => z.2.elim
structure HasG (P : Program) (w : World) (K : PySem.W.Frag) (mg : Str → Option Value) (base : Heap) (k : Nat) (x : Str) (ps : List Str) (sp : Sp) (f : Addr) (fd : FuncData) : Prop where
  G : FnG P w K mg base k f fd ps sp
  g : mg x = some (.ref f)
  kp : PySem.W.keepIn K (.ref f) = true
  b : Binds K fd ps []
section
variable {X : Cx}
end
end HH
set_option maxHeartbeats 4000000
namespace HH
open PySem PySem.Spec PyProof.Rows L2 Evl RZ
end HH
set_option maxHeartbeats 4000000
namespace HH
open PySem PySem.Spec PyProof.Rows L2 Evl RZ
section
variable {X : Cx}
def rGetN : V → V → Hp → VK → Prop := fun x y H Q => ∃ (l : Addr) (xs : List V) (j : Nat) (v : V), x = .ref l ∧ y = .int (j : Int) ∧ H l = some (.lst xs) ∧ xs[j]? = some v ∧ Q v H
theorem get_listN : PGet X rGetN := by
  intro pins s σ H o i ov iv Q I0 ro ri h
  obtain ⟨l, xs, j, v, rfl, rfl, hl, hv, q⟩ := h
  cases ro
  obtain ⟨t, rfl⟩ := ri
  obtain ⟨its, r, pl, hz⟩ := I0.list (SqL.of hl)
  obtain ⟨w, ew, rw'⟩ := r.get hv
  have hj : j < xs.length := (List.getElem?_eq_some_iff.mp hv).1
  have hn := line63
  exact wpAny_getItem_list pl.isList (Int.natCast_nonneg j) (by omega) (by simpa using ew) ⟨v, H, I0, rw', q⟩
end
def Step (L M : List Cow) : Prop := ∃ (pre post : List Cow) (a b : Cow), L = pre ++ a :: b :: post ∧ b.2.1 - a.2.2 > a.2.1 ∧ M = pre ++ (b.1, (b.2.1 - a.2.2, b.2.2)) :: a :: post
inductive Steps : List Cow → List Cow → Prop
  | refl (L : List Cow) : Steps L L
  | head {L M N : List Cow} : Step L M → Steps M N → Steps L N
theorem Steps.trans {L M N : List Cow} (h : Steps L M) (g : Steps M N) : Steps L N := by
  induction h with
  | refl => exact g
  | head s _ ih => exact .head s (ih g)
theorem Steps.one {L M : List Cow} (h : Step L M) : Steps L M := .head h (.refl M)
def Nf (L : List Cow) : Prop := ∀ M, ¬ Step L M
theorem Step.under {L M : List Cow} (pre post : List Cow) (h : Step L M) : Step (pre ++ L ++ post) (pre ++ M ++ post) := by
  obtain ⟨p, q, a, b, rfl, hp, rfl⟩ := h
  exact ⟨pre ++ p, q ++ post, a, b, by simp, hp, by simp⟩
theorem Steps.under {L M : List Cow} (pre post : List Cow) (h : Steps L M) : Steps (pre ++ L ++ post) (pre ++ M ++ post) := by
  induction h with
  | refl => exact .refl _
  | head s _ ih => exact .head (s.under pre post) ih
theorem three {a b c : Cow} (ta : 0 ≤ a.2.2) (tb : 0 ≤ b.2.2) (h1 : b.2.1 - a.2.2 > a.2.1) (h2 : c.2.1 - b.2.2 > b.2.1) :
    Steps [(b.1, (b.2.1 - a.2.2, b.2.2)), a, c] [(c.1, (c.2.1 - a.2.2 - b.2.2, c.2.2)), (b.1, (b.2.1 - a.2.2, b.2.2)), a] ∧ Steps [a, (c.1, (c.2.1 - b.2.2, c.2.2)), b] [(c.1, (c.2.1 - a.2.2 - b.2.2, c.2.2)), (b.1, (b.2.1 - a.2.2, b.2.2)), a] := by
  constructor
  · refine .head (M := [(b.1, (b.2.1 - a.2.2, b.2.2)), (c.1, (c.2.1 - a.2.2, c.2.2)), a]) ⟨[(b.1, (b.2.1 - a.2.2, b.2.2))], [], a, c, rfl, by omega, rfl⟩ (.one ⟨[], [a], (b.1, (b.2.1 - a.2.2, b.2.2)), (c.1, (c.2.1 - a.2.2, c.2.2)), rfl, by dsimp only; omega, rfl⟩)
  · have e : c.2.1 - a.2.2 - b.2.2 = c.2.1 - b.2.2 - a.2.2 := by omega
    rw [e]
    exact .head (M := [(c.1, (c.2.1 - b.2.2 - a.2.2, c.2.2)), a, b]) ⟨[], [b], a, (c.1, (c.2.1 - b.2.2, c.2.2)), rfl, by dsimp only; omega, rfl⟩ (.one ⟨[(c.1, (c.2.1 - b.2.2 - a.2.2, c.2.2))], [], a, b, rfl, h1, rfl⟩)
theorem splits {α : Type} : ∀ {p p' : List α} {a b a' b' : α} {q q' : List α}, p ++ a :: b :: q = p' ++ a' :: b' :: q' →
    (p = p' ∧ a = a' ∧ b = b' ∧ q = q') ∨ (∃ c, p' = p ++ [a] ∧ a' = b ∧ b' = c ∧ q = c :: q') ∨ (∃ c, p = p' ++ [a'] ∧ a = b' ∧ b = c ∧ q' = c :: q) ∨ (∃ m, p' = p ++ a :: b :: m ∧ q = m ++ a' :: b' :: q') ∨ (∃ m, p = p' ++ a' :: b' :: m ∧ q' = m ++ a :: b :: q)
  | [], [], _, _, _, _, _, _, h => by
    simp only [List.nil_append, List.cons.injEq] at h
    exact .inl ⟨rfl, h.1, h.2.1, h.2.2⟩
  | [], [x], a, b, a', b', q, q', h => by
    simp only [List.nil_append, List.cons_append, List.cons.injEq] at h
    exact .inr (.inl ⟨b', by simp [h.1], h.2.1.symm, rfl, h.2.2⟩)
  | [], x :: y :: m, a, b, a', b', q, q', h => by
    simp only [List.nil_append, List.cons_append, List.cons.injEq] at h
    exact .inr (.inr (.inr (.inl ⟨m, by simp [h.1, h.2.1], h.2.2⟩)))
  | [x], [], a, b, a', b', q, q', h => by
    simp only [List.nil_append, List.cons_append, List.cons.injEq] at h
    exact .inr (.inr (.inl ⟨b, by simp [h.1], h.2.1, rfl, h.2.2.symm⟩))
  | x :: y :: m, [], a, b, a', b', q, q', h => by
    simp only [List.nil_append, List.cons_append, List.cons.injEq] at h
    exact .inr (.inr (.inr (.inr ⟨m, by simp [h.1, h.2.1], h.2.2.symm⟩)))
  | x :: p, y :: p', a, b, a', b', q, q', h => by
    simp only [List.cons_append, List.cons.injEq] at h
    obtain ⟨rfl, h⟩ := h
    rcases splits h with ⟨rfl, k⟩ | ⟨c, rfl, k⟩ | ⟨c, rfl, k⟩ | ⟨m, rfl, k⟩ | ⟨m, rfl, k⟩
    · exact .inl ⟨rfl, k⟩
    · exact .inr (.inl ⟨c, rfl, k⟩)
    · exact .inr (.inr (.inl ⟨c, rfl, k⟩))
    · exact .inr (.inr (.inr (.inl ⟨m, rfl, k⟩)))
    · exact .inr (.inr (.inr (.inr ⟨m, rfl, k⟩)))
theorem near {L M N : List Cow} (ht : ∀ x ∈ L, 0 ≤ x.2.2) (h : Step L M) (g : Step L N) : ∃ J, Steps M J ∧ Steps N J := by
  obtain ⟨p, q, a, b, rfl, h1, rfl⟩ := h
  obtain ⟨p', q', a', b', e, h2, rfl⟩ := g
  rcases splits e with ⟨rfl, rfl, rfl, rfl⟩ | ⟨c, rfl, rfl, rfl, rfl⟩ | ⟨c, rfl, rfl, rfl, rfl⟩ | ⟨m, rfl, rfl⟩ | ⟨m, rfl, rfl⟩
  · exact ⟨_, .refl _, .refl _⟩
  · obtain ⟨s1, s2⟩ := three (a := a) (b := a') (c := b') (ht a (by simp)) (ht a' (by simp)) h1 h2
    refine ⟨p ++ [(b'.1, (b'.2.1 - a.2.2 - a'.2.2, b'.2.2)), (a'.1, (a'.2.1 - a.2.2, a'.2.2)), a] ++ q', ?_, ?_⟩
    · have := s1.under p q'
      simpa using this
    · have := s2.under p q'
      simpa using this
  · obtain ⟨s1, s2⟩ := three (a := a') (b := a) (c := b) (ht a' (by simp)) (ht a (by simp)) h2 h1
    refine ⟨p' ++ [(b.1, (b.2.1 - a'.2.2 - a.2.2, b.2.2)), (a.1, (a.2.1 - a'.2.2, a.2.2)), a'] ++ q, ?_, ?_⟩
    · have := s2.under p' q
      simpa using this
    · have := s1.under p' q
      simpa using this
  · refine ⟨p ++ (b.1, (b.2.1 - a.2.2, b.2.2)) :: a :: (m ++ (b'.1, (b'.2.1 - a'.2.2, b'.2.2)) :: a' :: q'), .one ⟨p ++ (b.1, (b.2.1 - a.2.2, b.2.2)) :: a :: m, q', a', b', by simp, h2, by simp⟩, .one ⟨p, m ++ (b'.1, (b'.2.1 - a'.2.2, b'.2.2)) :: a' :: q', a, b, by simp, h1, by simp⟩⟩
  · refine ⟨p' ++ (b'.1, (b'.2.1 - a'.2.2, b'.2.2)) :: a' :: (m ++ (b.1, (b.2.1 - a.2.2, b.2.2)) :: a :: q), .one ⟨p', m ++ (b.1, (b.2.1 - a.2.2, b.2.2)) :: a :: q, a', b', by simp, h2, by simp⟩, .one ⟨p' ++ (b'.1, (b'.2.1 - a'.2.2, b'.2.2)) :: a' :: m, q, a, b, by simp, h1, by simp⟩⟩
structure Good (L : List Cow) : Prop where
  tl : ∀ x ∈ L, 0 ≤ x.2.2
  nd : (L.map (·.1)).Nodup
  iv : PInv L
theorem Good.step {L M : List Cow} (g : Good L) (h : Step L M) : Good M ∧ asc (M.map (·.1)) < asc (L.map (·.1)) := by
  obtain ⟨p, q, a, b, rfl, h1, rfl⟩ := h
  obtain ⟨f1, f2, f3⟩ := facts_pass (n := (p ++ a :: b :: q).length) (ps := []) (q := (0, 0)) ⟨rfl, g.tl, g.nd, by
    have := asc_le ((p ++ a :: b :: q).map (·.1))
    rw [List.length_map] at this
    show 0 + _ ≤ _
    omega⟩ g.iv h1
  exact ⟨⟨f1.tl, f1.nd, f2⟩, f3⟩
theorem Good.steps {L M : List Cow} (g : Good L) (h : Steps L M) : Good M := by
  induction h with
  | refl => exact g
  | head s _ ih => exact ih (g.step s).1
theorem some_nf : ∀ (n : Nat) {L : List Cow}, Good L → asc (L.map (·.1)) ≤ n → ∃ N, Steps L N ∧ Nf N
  | n, L, g, h => by
    by_cases z : Nf L
    · exact ⟨L, .refl L, z⟩
    · have z' : ∃ M, Step L M := Classical.byContradiction fun e => z fun M s => e ⟨M, s⟩
      obtain ⟨M, s⟩ := z'
      obtain ⟨g2, lt⟩ := g.step s
      cases n with
      | zero => omega
      | succ n =>
        obtain ⟨N, s2, nf⟩ := some_nf n g2 (by omega)
        exact ⟨N, .head s s2, nf⟩
theorem one_nf : ∀ (n : Nat) {L N N' : List Cow}, Good L → asc (L.map (·.1)) ≤ n → Steps L N → Nf N → Steps L N' → Nf N' → N = N'
  | n, L, N, N', g, h, s, nf, s', nf' => by
    cases s with
    | refl =>
      cases s' with
      | refl => rfl
      | head t _ => exact (nf _ t).elim
    | @head _ M _ t u =>
      cases s' with
      | refl => exact (nf' _ t).elim
      | @head _ M' _ t' u' =>
        obtain ⟨J, j1, j2⟩ := near g.tl t t'
        obtain ⟨g2, l2⟩ := g.step t
        obtain ⟨g3, l3⟩ := g.step t'
        cases n with
        | zero => omega
        | succ n =>
          obtain ⟨O, so, nfo⟩ := some_nf _ (g2.steps j1) (Nat.le_refl _)
          have e1 := one_nf n g2 (by omega) u nf (j1.trans so) nfo
          have e2 := one_nf n g3 (by omega) u' nf' (j2.trans so) nfo
          rw [e1, e2]
theorem good_tag {rs : HH.Row} (h : ∀ b ∈ rs, 0 ≤ b.2) : Good (tag 0 rs) := ⟨(facts_tag h).tl, (facts_tag h).nd, pinv_tag 0 rs⟩
theorem Steps.snoc {L M N : List Cow} (h : Steps L M) (s : Step M N) : Steps L N := h.trans (.one s)
theorem PRun.steps {L0 L : List Cow} {ps : List (Int × Int)} (h : PRun L0 L ps) : Steps L0 L := by
  induction h with
  | nil => exact .refl _
  | step _ hp ih => exact ih.snoc ⟨_, _, _, _, rfl, hp, rfl⟩
theorem nf_of {L : List Cow} (h : HH.passL (rowsOf L) = []) : Nf L := by
  intro M s
  obtain ⟨p, q, a, b, rfl, hp, rfl⟩ := s
  have h1 : letsN (rowsOf (p ++ a :: b :: q)) (p.length + 1) = true := by
    rw [rows_mid, show p.length = (rowsOf p).length from (cow_len p).symm, lets_split]
    exact decide_eq_true hp
  have h2 : V.int ((p.length + 1 : Nat) : Int) ∈ HH.passL (rowsOf (p ++ a :: b :: q)) := by
    unfold HH.passL given
    refine List.mem_map_of_mem (f := fun i : Nat => V.int (i : Int)) (List.mem_filter.mpr ⟨List.mem_range.mpr ?_, h1⟩)
    rw [cow_len, List.length_append, List.length_cons, List.length_cons]
    omega
  rw [h] at h2
  cases h2
end HH
set_option maxHeartbeats 4000000
namespace HH
open PySem PySem.Spec PyProof.Rows L2 Evl RZ
def NfR : List Cow → Prop
  | [] => True
  | [_] => True
  | a :: b :: r => ¬ (b.2.1 - a.2.2 > a.2.1) ∧ NfR (b :: r)
theorem nfr_tail {a : Cow} {r : List Cow} (h : NfR (a :: r)) : NfR r := by
  cases r with
  | nil => exact True.intro
  | cons b r => exact h.2
theorem nfr_nf : ∀ {L : List Cow}, NfR L → Nf L := by
  intro L h M s
  obtain ⟨p, q, a, b, rfl, hp, rfl⟩ := s
  induction p with
  | nil => exact h.1 hp
  | cons x p ih => exact ih (nfr_tail h)
theorem nfr_in {w : Cow} : ∀ {A B : List Cow}, NfR (A ++ B) → (∀ x, A.getLast? = some x → ¬ (w.2.1 - x.2.2 > x.2.1)) → (∀ b r, B = b :: r → ¬ (b.2.1 - w.2.2 > w.2.1)) → NfR (A ++ w :: B)
  | [], [], _, _, _ => True.intro
  | [], b :: r, h, _, g => ⟨g b r rfl, h⟩
  | [x], B, h, f, g => ⟨f x rfl, by
    have := nfr_in (w := w) (A := []) (B := B) (nfr_tail h) (fun _ z => by cases z) g
    exact this⟩
  | x :: y :: A, B, h, f, g => ⟨h.1, nfr_in (A := y :: A) (B := B) h.2 (fun z hz => f z (by rw [List.getLast?_cons_cons]; exact hz)) g⟩
def idsV (N : List Cow) : List V := N.map fun x => V.int (x.1 : Int)
structure Kept (S T : List Int) (N : List Cow) : Prop where
  s : ∀ x ∈ N, S[x.1]? = some x.2.1
  t : ∀ x ∈ N, T[x.1]? = some x.2.2
def ExB2 (a b : Addr) (H H' : Hp) : Prop := ∀ c o, c ≠ a → c ≠ b → H c = some o → H' c = some o
def spPassAll : Sp := fun vs H Q _ => ∃ (l sa ta : Addr) (N : List Cow) (S T : List Int) (who : Nat) (s0 t0 : Int), vs = [.ref l, .ref sa, .ref ta, .int (who : Int)] ∧ H l = some (.lst (idsV N)) ∧ H sa = some (.lst (S.map V.int)) ∧ H ta = some (.lst (T.map V.int)) ∧ l ≠ sa ∧ l ≠ ta ∧ sa ≠ ta ∧ Kept S T N ∧ S[who]? = some s0 ∧ T[who]? = some t0 ∧ (∀ x ∈ N, x.1 ≠ who) ∧ N.length ≤ 1000 ∧ 0 ≤ t0 ∧ NfR N ∧
  ∀ (A B : List Cow) (s : Int) H', N = A ++ B → Steps (N ++ [(who, (s0, t0))]) (A ++ (who, (s, t0)) :: B) → NfR (A ++ (who, (s, t0)) :: B) → H' l = some (.lst (idsV (A ++ (who, (s, t0)) :: B))) → H' sa = some (.lst ((S.set who s).map V.int)) → ExB2 l sa H H' → Q .non H'
structure LastAt (K : PySem.W.Frag) (H : Hp) (q : Addr) (L : List Cow) : Prop where
  ex : ∃ (v : V) (ot : Addr), H q = some (.tup [v, .ref ot]) ∧ RowAt K H v (rowsOf L) ∧ H ot = some (.tup (ordL L))
theorem LastAt.mono {K : PySem.W.Frag} {H H' : Hp} {q : Addr} {L : List Cow} (h : LastAt K H q L) (e : Ex H H') : LastAt K H' q L := by
  obtain ⟨v, ot, h1, h2, h3⟩ := h.ex
  exact ⟨v, ot, e _ _ h1, h2.ex e, e _ _ h3⟩
section
variable {K : PySem.W.Frag} {σ : L2.St} {H H' : Hp} {te : TE} {v : V}
theorem getI {S : List Int} {j : Nat} {x : Int} (h : S[j]? = some x) : (S.map V.int)[j]? = some (.int x) := by
  rw [List.getElem?_map, h]
  rfl
theorem el_unzip {i j c : Nat} {vs : List Nat} {rs : HH.Row} (fst : Bool) (hr : RowAt K H v rs) (hl : rs.length ≤ 1000) (h : Ev te σ H v) (hw : ∀ x y, wipe (((wipe σ vs).set i (some x)).set j (some y)) vs = wipe σ vs) (hc : ∀ x y : V, (((wipe σ vs).set i (some x)).set j (some y))[c]? = some (some (if fst then x else y))) :
    EvL (tLc (iTup K te) (gTup K 2 (gCons (gName i) (gCons (gName j) gNil))) tYes (tVar c) vs) σ H (rs.map fun b => V.int (if fst then b.1 else b.2)) := fun H0 e Q q => by
  obtain ⟨a, us, rfl, ht, hb⟩ := hr
  refine h H0 e _ fun H1 e1 => ⟨a, rfl, ⟨us, ex_t (e.trans e1) ht⟩, fun Dl hD => ?_⟩
  refine lc_it (walk_tup (xs := us)) (fun k H2 => Ex H1 H2 ∧ H2 Dl = some (.lst ((rs.take k).map fun b => V.int (if fst then b.1 else b.2)))) ⟨Ex.new hD, upd_same⟩ (fun k H2 _ p => ex_t ((e.trans e1).trans p.1) ht) (fun k x H2 H3 hk p y => ?_) (fun H2 p => ?_)
  · obtain ⟨rfl, hx⟩ := y
    obtain ⟨p1, p2⟩ := p
    have hk' : k < rs.length := by rw [← hb.1]; exact hk
    obtain ⟨u, hu, bp, rfl, hbt⟩ := hb.2 k _ (List.getElem?_eq_getElem hk')
    rw [hx] at hu
    cases hu
    refine ⟨bp, _, rfl, ex_t ((e.trans e1).trans p1) hbt, rfl, _, _, rfl, _, _, rfl, rfl, hw _ _, ?_⟩
    refine ⟨_, hc _ _, _, p2, ?_, Ex.mut p1 hD, ?_⟩
    · rw [List.length_map, List.length_take]
      exact sz_lt (by omega)
    · rw [upd_same, List.take_add_one, List.getElem?_eq_getElem hk', List.map_append]
      cases fst <;> rfl
  · have e3 : rs.take us.length = rs := List.take_of_length_le (by rw [hb.1]; exact Nat.le_refl _)
    rw [e3] at p
    exact q Dl H2 (fresh_back e1 hD) (e1.trans p.1) p.2
end
theorem rows_get (rs : HH.Row) (k : Nat) (b : Int × Int) (h : rs[k]? = some b) : (rs.map (·.1))[k]? = some b.1 ∧ (rs.map (·.2))[k]? = some b.2 := by
  rw [List.getElem?_map, List.getElem?_map, h]
  exact ⟨rfl, rfl⟩
theorem tag_split : ∀ (k i : Nat) (rs : HH.Row) (b : Int × Int), rs[i]? = some b → tag (k + i) (rs.drop i) = (k + i, b) :: tag (k + i + 1) (rs.drop (i + 1))
  | k, 0, b' :: r, b, h => by
    cases h
    rfl
  | k, i + 1, c :: r, b, h => by
    have := tag_split (k + 1) i r b h
    show tag (k + (i + 1)) (r.drop i) = _
    rw [show k + (i + 1) = k + 1 + i by omega, this]
    rfl
  | _, 0, [], _, h => by cases h
  | _, _ + 1, [], _, h => by cases h
theorem set_self {α : Type} {S : List α} {k : Nat} {x : α} (h : S[k]? = some x) : S.set k x = S := by
  refine List.ext_getElem? fun i => ?_
  rw [List.getElem?_set]
  by_cases e : k = i
  · subst e
    rw [if_pos rfl, h, if_pos (List.getElem?_eq_some_iff.mp h).1]
  · rw [if_neg e]
theorem set_at {α : Type} {S : List α} {k : Nat} {x y : α} (h : S[k]? = some x) : (S.set k y)[k]? = some y := by
  rw [List.getElem?_set, if_pos rfl, if_pos (List.getElem?_eq_some_iff.mp h).1]
theorem set_off {α : Type} {S : List α} {k i : Nat} {y : α} (h : k ≠ i) : (S.set k y)[i]? = S[i]? := by
  rw [List.getElem?_set, if_neg h]
theorem idsV_at (A B : List Cow) (x : Cow) : (idsV (A ++ x :: B))[A.length]? = some (.int (x.1 : Int)) := by
  unfold idsV
  rw [List.map_append, List.getElem?_append_right (by rw [List.length_map]; exact Nat.le_refl _), List.length_map, Nat.sub_self]
  rfl
theorem idsV_len (A : List Cow) : (idsV A).length = A.length := List.length_map ..
theorem idsV_ins (A B : List Cow) (w : Cow) : (idsV (A ++ B)).take A.length ++ [.int (w.1 : Int)] ++ (idsV (A ++ B)).drop A.length = idsV (A ++ w :: B) := by
  unfold idsV
  rw [List.map_append, List.take_append_of_le_length (by rw [List.length_map]; exact Nat.le_refl _), List.drop_append_of_le_length (by rw [List.length_map]; exact Nat.le_refl _), List.take_of_length_le (by rw [List.length_map]; exact Nat.le_refl _), List.drop_of_length_le (by rw [List.length_map]; exact Nat.le_refl _), List.map_append, List.append_assoc]
  rfl
end HH
set_option maxHeartbeats 4000000
namespace HH
open PySem PySem.Spec PyProof.Rows L2 Evl RZ
section
variable {K : PySem.W.Frag} {σ : L2.St} {p : Addr} {ta tb te : TE} {D : Ends} {tz : TS}
end
end HH
set_option maxHeartbeats 4000000
namespace HH
open PySem PySem.Spec PyProof.Rows L2 Evl RZ
def beastD (b : Int × Int) : PyData := .tuple [.int b.1, .int b.2]
def rowD (rs : HH.Row) : PyData := .tuple (rs.map beastD)
theorem Beasts.uncons {K : PySem.W.Frag} {H : Hp} {v : V} {vs : List V} {b : Int × Int} {rs : HH.Row} (h : Beasts K H (v :: vs) (b :: rs)) : BeastAt K H v b ∧ Beasts K H vs rs := by
  refine ⟨?_, Nat.succ.inj h.1, fun i c hi => ?_⟩
  · obtain ⟨u, hu, g⟩ := h.2 0 b rfl
    cases hu
    exact g
  · obtain ⟨u, hu, g⟩ := h.2 (i + 1) c hi
    exact ⟨u, hu, g⟩
theorem beasts_dp {K : PySem.W.Frag} {H : Hp} : ∀ {vs : List V} {rs : HH.Row}, Beasts K H vs rs → DpAll K H vs (rs.map beastD)
  | [], [], _ => .nil
  | [], _ :: _, h => by cases h.1
  | _ :: _, [], h => by cases h.1
  | v :: vs, b :: rs, h => by
    obtain ⟨⟨p, rfl, hp⟩, h2⟩ := h.uncons
    exact .cons (.tup hp (.cons (.int _) (.cons (.int _) .nil))) (beasts_dp h2)
theorem RowAt.dp {K : PySem.W.Frag} {H : Hp} {v : V} {rs : HH.Row} (h : RowAt K H v rs) : ∃ a, v = .ref a ∧ Dp K H (.ref a) (rowD rs) := by
  obtain ⟨a, vs, rfl, h1, h2⟩ := h
  exact ⟨a, rfl, .tup h1 (beasts_dp h2)⟩
def Low (b : Int × Int) : Prop := b.1.natAbs < 10 ^ 18 ∧ b.2.natAbs < 10 ^ 18
theorem Tame.low {b : Int × Int} (h : Tame b) : Low b := by
  unfold Tame at h
  have e : (10 : Int) ^ 12 = 1000000000000 := by decide
  have e2 : (10 : Nat) ^ 18 = 1000000000000000000 := by decide
  rw [e] at h
  unfold Low
  rw [e2]
  omega
section
variable {K : PySem.W.Frag} {σ : L2.St} {H H' : Hp} {te : TE} {v : V}
end
theorem Alike.up {K : PySem.W.Frag} {H : Hp} : ∀ {d : Nat} {x y : V}, Alike K H d x y → Alike K H (d + 1) x y
  | 0, _, _, h => h.elim
  | d + 1, x, y, h => by
    rcases h with h | ⟨a, b, xs, ys, h1, h2, h3, h4, h5, h6⟩
    · exact .inl h
    · exact .inr ⟨a, b, xs, ys, h1, h2, h3, h4, h5, fun i u v hu hv => (h6 i u v hu hv).up⟩
def lastD (L : List Cow) : PyData := .tuple [rowD (rowsOf L), .tuple ((L.map fun x => (x.1 : Int)).map PyData.int)]
theorem LastAt.dp {K : PySem.W.Frag} {H : Hp} {p : Addr} {L : List Cow} (h : LastAt K H p L) : Dp K H (.ref p) (lastD L) := by
  obtain ⟨v, ot, h1, h2, h3⟩ := h.ex
  obtain ⟨a, rfl, hd⟩ := h2.dp
  have e : ordL L = (L.map fun x => (x.1 : Int)).map V.int := by
    unfold ordL
    rw [List.map_map]
    rfl
  rw [e] at h3
  exact .tup (st_of h1) (.cons hd (.cons (.tup (st_of h3) (dp_ints _)) .nil))
end HH
set_option maxHeartbeats 4000000
namespace HH
open PySem PySem.Spec PyProof.Rows L2 Evl RZ
def FStep (L M : List Cow) : Prop := ∃ (pre post : List Cow) (a b : Cow), L = pre ++ a :: b :: post ∧ a.2.1 > b.2.1 ∧ M = pre ++ b :: (a.1, (a.2.1 + b.2.2, a.2.2)) :: post
inductive FSteps : List Cow → List Cow → Prop
  | refl (L : List Cow) : FSteps L L
  | head {L M N : List Cow} : FStep L M → FSteps M N → FSteps L N
theorem FSteps.trans {L M N : List Cow} (h : FSteps L M) (g : FSteps M N) : FSteps L N := by
  induction h with
  | refl => exact g
  | head s _ ih => exact .head s (ih g)
theorem FSteps.one {L M : List Cow} (h : FStep L M) : FSteps L M := .head h (.refl M)
def Ff (L : List Cow) : Prop := ∀ M, ¬ FStep L M
theorem FStep.under {L M : List Cow} (pre post : List Cow) (h : FStep L M) : FStep (pre ++ L ++ post) (pre ++ M ++ post) := by
  obtain ⟨p, q, a, b, rfl, hp, rfl⟩ := h
  exact ⟨pre ++ p, q ++ post, a, b, by simp, hp, by simp⟩
theorem FSteps.under {L M : List Cow} (pre post : List Cow) (h : FSteps L M) : FSteps (pre ++ L ++ post) (pre ++ M ++ post) := by
  induction h with
  | refl => exact .refl _
  | head s _ ih => exact .head (s.under pre post) ih
theorem threeF {a b c : Cow} (tb : 0 ≤ b.2.2) (tc : 0 ≤ c.2.2) (h1 : a.2.1 > b.2.1) (h2 : b.2.1 > c.2.1) :
    FSteps [b, (a.1, (a.2.1 + b.2.2, a.2.2)), c] [c, (b.1, (b.2.1 + c.2.2, b.2.2)), (a.1, (a.2.1 + b.2.2 + c.2.2, a.2.2))] ∧ FSteps [a, c, (b.1, (b.2.1 + c.2.2, b.2.2))] [c, (b.1, (b.2.1 + c.2.2, b.2.2)), (a.1, (a.2.1 + b.2.2 + c.2.2, a.2.2))] := by
  constructor
  · exact .head (M := [b, c, (a.1, (a.2.1 + b.2.2 + c.2.2, a.2.2))]) ⟨[b], [], (a.1, (a.2.1 + b.2.2, a.2.2)), c, rfl, by dsimp only; omega, rfl⟩ (.one ⟨[], [(a.1, (a.2.1 + b.2.2 + c.2.2, a.2.2))], b, c, rfl, h2, rfl⟩)
  · have e : a.2.1 + b.2.2 + c.2.2 = a.2.1 + c.2.2 + b.2.2 := by omega
    rw [e]
    exact .head (M := [c, (a.1, (a.2.1 + c.2.2, a.2.2)), (b.1, (b.2.1 + c.2.2, b.2.2))]) ⟨[], [(b.1, (b.2.1 + c.2.2, b.2.2))], a, c, rfl, by omega, rfl⟩ (.one ⟨[c], [], (a.1, (a.2.1 + c.2.2, a.2.2)), (b.1, (b.2.1 + c.2.2, b.2.2)), rfl, by dsimp only; omega, rfl⟩)
theorem nearF {L M N : List Cow} (ht : ∀ x ∈ L, 0 ≤ x.2.2) (h : FStep L M) (g : FStep L N) : ∃ J, FSteps M J ∧ FSteps N J := by
  obtain ⟨p, q, a, b, rfl, h1, rfl⟩ := h
  obtain ⟨p', q', a', b', e, h2, rfl⟩ := g
  rcases splits e with ⟨rfl, rfl, rfl, rfl⟩ | ⟨c, rfl, rfl, rfl, rfl⟩ | ⟨c, rfl, rfl, rfl, rfl⟩ | ⟨m, rfl, rfl⟩ | ⟨m, rfl, rfl⟩
  · exact ⟨_, .refl _, .refl _⟩
  · obtain ⟨s1, s2⟩ := threeF (a := a) (b := a') (c := b') (ht a' (by simp)) (ht b' (by simp)) h1 h2
    refine ⟨p ++ [b', (a'.1, (a'.2.1 + b'.2.2, a'.2.2)), (a.1, (a.2.1 + a'.2.2 + b'.2.2, a.2.2))] ++ q', ?_, ?_⟩
    · have := s1.under p q'
      simpa using this
    · have := s2.under p q'
      simpa using this
  · obtain ⟨s1, s2⟩ := threeF (a := a') (b := a) (c := b) (ht a (by simp)) (ht b (by simp)) h2 h1
    refine ⟨p' ++ [b, (a.1, (a.2.1 + b.2.2, a.2.2)), (a'.1, (a'.2.1 + a.2.2 + b.2.2, a'.2.2))] ++ q, ?_, ?_⟩
    · have := s2.under p' q
      simpa using this
    · have := s1.under p' q
      simpa using this
  · refine ⟨p ++ b :: (a.1, (a.2.1 + b.2.2, a.2.2)) :: (m ++ b' :: (a'.1, (a'.2.1 + b'.2.2, a'.2.2)) :: q'), .one ⟨p ++ b :: (a.1, (a.2.1 + b.2.2, a.2.2)) :: m, q', a', b', by simp, h2, by simp⟩, .one ⟨p, m ++ b' :: (a'.1, (a'.2.1 + b'.2.2, a'.2.2)) :: q', a, b, by simp, h1, by simp⟩⟩
  · refine ⟨p' ++ b' :: (a'.1, (a'.2.1 + b'.2.2, a'.2.2)) :: (m ++ b :: (a.1, (a.2.1 + b.2.2, a.2.2)) :: q), .one ⟨p', m ++ b :: (a.1, (a.2.1 + b.2.2, a.2.2)) :: q, a', b', by simp, h2, by simp⟩, .one ⟨p' ++ b' :: (a'.1, (a'.2.1 + b'.2.2, a'.2.2)) :: m, q, a, b, by simp, h1, by simp⟩⟩
structure FGood (L : List Cow) : Prop where
  tl : ∀ x ∈ L, 0 ≤ x.2.2
  nd : (L.map (·.1)).Nodup
  iv : FInv L
theorem FGood.step {L M : List Cow} (g : FGood L) (h : FStep L M) : FGood M ∧ asc (M.map (·.1)) < asc (L.map (·.1)) := by
  obtain ⟨p, q, a, b, rfl, h1, rfl⟩ := h
  obtain ⟨f1, f2, f3⟩ := facts_fall (n := (p ++ a :: b :: q).length) (ps := []) (q := (0, 0)) ⟨rfl, g.tl, g.nd, by
    have := asc_le ((p ++ a :: b :: q).map (·.1))
    rw [List.length_map] at this
    show 0 + _ ≤ _
    omega⟩ g.iv h1
  exact ⟨⟨f1.tl, f1.nd, f2⟩, f3⟩
theorem FGood.steps {L M : List Cow} (g : FGood L) (h : FSteps L M) : FGood M := by
  induction h with
  | refl => exact g
  | head s _ ih => exact ih (g.step s).1
theorem some_ff : ∀ (n : Nat) {L : List Cow}, FGood L → asc (L.map (·.1)) ≤ n → ∃ N, FSteps L N ∧ Ff N
  | n, L, g, h => by
    by_cases z : Ff L
    · exact ⟨L, .refl L, z⟩
    · have z' : ∃ M, FStep L M := Classical.byContradiction fun e => z fun M s => e ⟨M, s⟩
      obtain ⟨M, s⟩ := z'
      obtain ⟨g2, lt⟩ := g.step s
      cases n with
      | zero => omega
      | succ n =>
        obtain ⟨N, s2, nf⟩ := some_ff n g2 (by omega)
        exact ⟨N, .head s s2, nf⟩
theorem one_ff : ∀ (n : Nat) {L N N' : List Cow}, FGood L → asc (L.map (·.1)) ≤ n → FSteps L N → Ff N → FSteps L N' → Ff N' → N = N'
  | n, L, N, N', g, h, s, nf, s', nf' => by
    cases s with
    | refl =>
      cases s' with
      | refl => rfl
      | head t _ => exact (nf _ t).elim
    | @head _ M _ t u =>
      cases s' with
      | refl => exact (nf' _ t).elim
      | @head _ M' _ t' u' =>
        obtain ⟨J, j1, j2⟩ := nearF g.tl t t'
        obtain ⟨g2, l2⟩ := g.step t
        obtain ⟨g3, l3⟩ := g.step t'
        cases n with
        | zero => omega
        | succ n =>
          obtain ⟨O, so, nfo⟩ := some_ff _ (g2.steps j1) (Nat.le_refl _)
          have e1 := one_ff n g2 (by omega) u nf (j1.trans so) nfo
          have e2 := one_ff n g3 (by omega) u' nf' (j2.trans so) nfo
          rw [e1, e2]
theorem fgood_tag {rs : HH.Row} (h : ∀ b ∈ rs, 0 ≤ b.2) : FGood (tag 0 rs) := ⟨(facts_tag h).tl, (facts_tag h).nd, finv_tag 0 rs⟩
theorem FSteps.snoc {L M N : List Cow} (h : FSteps L M) (s : FStep M N) : FSteps L N := h.trans (.one s)
theorem FRun.steps {L0 L : List Cow} {ps : List (Int × Int)} (h : FRun L0 L ps) : FSteps L0 L := by
  induction h with
  | nil => exact .refl _
  | step _ hp ih => exact ih.snoc ⟨_, _, _, _, rfl, hp, rfl⟩
def FfR : List Cow → Prop
  | [] => True
  | [_] => True
  | a :: b :: r => ¬ (a.2.1 > b.2.1) ∧ FfR (b :: r)
theorem ffr_tail {a : Cow} {r : List Cow} (h : FfR (a :: r)) : FfR r := by
  cases r with
  | nil => exact True.intro
  | cons b r => exact h.2
theorem ffr_ff : ∀ {L : List Cow}, FfR L → Ff L := by
  intro L h M s
  obtain ⟨p, q, a, b, rfl, hp, rfl⟩ := s
  induction p with
  | nil => exact h.1 hp
  | cons x p ih => exact ih (ffr_tail h)
theorem ffr_in {w : Cow} : ∀ {A B : List Cow}, FfR (A ++ B) → (∀ x, A.getLast? = some x → ¬ (x.2.1 > w.2.1)) → (∀ b r, B = b :: r → ¬ (w.2.1 > b.2.1)) → FfR (A ++ w :: B)
  | [], [], _, _, _ => True.intro
  | [], b :: r, h, _, g => ⟨g b r rfl, h⟩
  | [x], B, h, f, g => ⟨f x rfl, by
    have := ffr_in (w := w) (A := []) (B := B) (ffr_tail h) (fun _ z => by cases z) g
    exact this⟩
  | x :: y :: A, B, h, f, g => ⟨h.1, ffr_in (A := y :: A) (B := B) h.2 (fun z hz => f z (by rw [List.getLast?_cons_cons]; exact hz)) g⟩
def spFallAll : Sp := fun vs H Q _ => ∃ (l sa ta : Addr) (N : List Cow) (S T : List Int) (who : Nat) (s0 t0 : Int), vs = [.ref l, .ref sa, .ref ta, .int (who : Int)] ∧ H l = some (.lst (idsV N)) ∧ H sa = some (.lst (S.map V.int)) ∧ H ta = some (.lst (T.map V.int)) ∧ l ≠ sa ∧ l ≠ ta ∧ sa ≠ ta ∧ Kept S T N ∧ S[who]? = some s0 ∧ T[who]? = some t0 ∧ (∀ x ∈ N, x.1 ≠ who ∧ 0 ≤ x.2.2) ∧ N.length ≤ 1000 ∧ FfR N ∧
  ∀ (A B : List Cow) (s : Int) H', N = A ++ B → FSteps ((who, (s0, t0)) :: N) (A ++ (who, (s, t0)) :: B) → FfR (A ++ (who, (s, t0)) :: B) → H' l = some (.lst (idsV (A ++ (who, (s, t0)) :: B))) → H' sa = some (.lst ((S.set who s).map V.int)) → ExB2 l sa H H' → Q .non H'
theorem tag_snoc : ∀ (j : Nat) (rs : HH.Row) (b : Int × Int), tag j (rs ++ [b]) = tag j rs ++ [(j + rs.length, b)]
  | j, [], b => rfl
  | j, c :: r, b => by
    show (j, c) :: tag (j + 1) (r ++ [b]) = (j, c) :: (tag (j + 1) r ++ [(j + (r.length + 1), b)])
    rw [tag_snoc, show j + 1 + r.length = j + (r.length + 1) by omega]
theorem tag_take {rs : HH.Row} {k : Nat} {b : Int × Int} (h : rs[k]? = some b) : tag 0 (rs.take (k + 1)) = tag 0 (rs.take k) ++ [(k, b)] := by
  have hk := (List.getElem?_eq_some_iff.mp h).1
  rw [List.take_add_one, h]
  show tag 0 (rs.take k ++ [b]) = _
  rw [tag_snoc, List.length_take, Nat.zero_add, Nat.min_eq_left (by omega)]
section
variable {K : PySem.W.Frag} {σ : L2.St} {H : Hp} {D : Ends} {tz tu : TS}
theorem q_forRev {te : TE} {j n : Nat} (h : Ev te σ H (.int (n : Int))) (hn : n ≤ 100000) (Pv : Nat → L2.St → Hp → Prop) (h0 : ∀ H1, Ex H H1 → Pv 0 σ H1)
    (hs : ∀ i σ' H', i < n → Pv i σ' H' → tu { D with nx := Pv (i + 1), ct := Pv (i + 1), bk := tz D } (σ'.set j (some (.int ((n - 1 - i : Nat) : Int)))) H') (hd : ∀ σ' H', Pv n σ' H' → tz D σ' H') : tSeq (tFor (iRevR (tRg1 te)) (gName j) tu) tz D σ H :=
  h H (Ex.refl H) _ fun H1 e => ⟨(n : Int), rfl, by omega, by omega, by omega, by omega, by
    rw [show ((n : Int) - 0).toNat = n by omega]
    refine for_rangeC (D := { D with nx := tz D }) Pv (h0 H1 e) (fun i σ' H' hi p => ?_) hd
    rw [show (0 : Int) + ((n : Nat) : Int) - 1 + ((i : Nat) : Int) * (-1) = ((n - 1 - i : Nat) : Int) by omega]
    exact hs i σ' H' hi p⟩
end
theorem sorted_same : ∀ {xs ys : List Int}, xs.Perm ys → xs.Pairwise (· ≤ ·) → ys.Pairwise (· ≤ ·) → xs = ys := fun p h g => p.eq_of_pairwise (fun a b _ _ h1 h2 => Int.le_antisymm h1 h2) h g
end HH
set_option maxHeartbeats 4000000
namespace PySem
open Sem (wp)
open AutoSeq1 (wpAny_loadPart')
theorem meets_enum_newT (t : Addr) (items : Array Value) (n : Nat) (dct : Option Addr) (sl : Array (Option Value)) :
    Meets (Builtin.«enumerate.__new__» ⟨[.type "enumerate", .ref t], []⟩) (fun _ R s => s.heap.get? t = some { cls := .type "tuple", dict := dct, data := .seq items n, slots := sl } ∧
      R (.ok (.ret (.ref (s.heap.push { cls := .type "tuple_iterator", data := .fields #[.ref t, .int 0 0] }).objs.size)))
        { s with heap := (s.heap.push { cls := .type "tuple_iterator", data := .fields #[.ref t, .int 0 0] }).push { cls := .type "enumerate", data := .fields #[.none, .bool false, .ref s.heap.objs.size, rawInt 0, .none, .none] } }) :=
  .of_wp fun prog w A R s h => by
    obtain ⟨hp, g, d, tk, os⟩ := s; obtain ⟨hl, h⟩ := h
    have hsub := sub_enumerate
    have hT : Heap.IsTuple (Shared.heap ⟨hp, g, d, tk, os⟩) t items := ⟨_, hl, rfl, n, rfl⟩
    wp_walk using wpAny_loadPart' hl
    refine wpAny_stack_any fun st => wpAny_pure ?_
    split
    · rename_i c _ _ _ _ _
      cases (c == Value.type "enumerate")
      · wp_walk using wpAny_loadPart' hl, wpAny_pyIter_tuple hT
        exact ⟨_, rfl, h⟩
      · wp_walk using wpAny_loadPart' hl, wpAny_pyIter_tuple hT
        exact ⟨_, rfl, h⟩
    · wp_walk using wpAny_loadPart' hl, wpAny_pyIter_tuple hT
      exact ⟨_, rfl, h⟩
section
variable {prog : Program} {w : World} {A : Around} {E : Value → Shared → Prop} {s : Shared}
theorem call_enum_tuple {t : Addr} {items : Array Value} {Q : Value → Shared → Prop} (hL : s.heap.IsTuple t items)
    (h : ∀ h', IsEnum h' (s.heap.objs.size + 1) s.heap.objs.size 0 .none → h'.IsTupleIter s.heap.objs.size t 0 → h'.objs.size = s.heap.objs.size + 2 →
      (∀ b o, s.heap.get? b = some o → h'.get? b = some o) → Q (.ref (s.heap.objs.size + 1)) { s with heap := h' }) :
    wpAny (model prog w) A (call (.type "enumerate") [.ref t]) Q E s := by
  obtain ⟨⟨c, dct, dt, sl⟩, hl, hc, n, hd⟩ := hL
  replace hc : c = .type "tuple" := hc
  replace hd : dt = .seq items n := hd
  subst hc hd
  refine callType_new F.called_enumerate (by decide) (F.typeCall_enumerate_1 _) (F.newCall_enumerate_1 _) (fun obj => F.args_object_init_2 obj _) F.entry_enumerate_new
    (meets_enum_newT t items n dct sl) ⟨hl, ?_⟩
  have hz : (s.heap.push { cls := .type "tuple_iterator", data := .fields #[.ref t, .int 0 0] }).objs.size = s.heap.objs.size + 1 := Heap.size_push ..
  show _ ∧ _
  rw [hz]
  have he : IsEnum ((s.heap.push { cls := .type "tuple_iterator", data := .fields #[.ref t, .int 0 0] }).push
      { cls := .type "enumerate", data := .fields #[.none, .bool false, .ref s.heap.objs.size, rawInt 0, .none, .none] }) (s.heap.objs.size + 1) s.heap.objs.size 0 .none := by
    have := Heap.get?_push_size (s.heap.push { cls := .type "tuple_iterator", data := .fields #[.ref t, .int 0 0] })
      (o := { cls := .type "enumerate", data := .fields #[.none, .bool false, .ref s.heap.objs.size, rawInt 0, .none, .none] }) rfl
    rw [hz] at this; exact this
  refine ⟨⟨_, he, rfl⟩, h _ he ⟨_, Heap.get?_push_of_some _ (Heap.get?_push_size _ rfl), rfl, rfl⟩ (by rw [Heap.size_push, hz]) fun b o x => Heap.get?_push_of_some _ (Heap.get?_push_of_some _ x)⟩
end
end PySem
namespace HH
open PySem PySem.Spec PyProof.Rows L2 Evl RZ
def IteT (K : PySem.W.Frag) (a : Addr) : It :=
  ⟨fun i H => ∃ (xs : List V) (x : V), SqT K H a xs ∧ xs[i]? = some x, fun i H v H' => ∃ T x, v = .ref T ∧ H T = none ∧ H' = upd H T (.tup [.int (i : Nat), x]) ∧ ∀ xs, SqT K H a xs → xs[i]? = some x, fun i H => ∃ xs : List V, SqT K H a xs ∧ xs.length = i⟩
theorem turn_enumT {P : Program} {w : World} {K : PySem.W.Frag} {elts : List Expr} {kk : Nat} {tpos : Pos} (a e it : Addr) :
    Turn P w K (.Tuple elts kk tpos) (IteT K a) [e, it] e (fun i h => (∃ old, IsEnum h e it ((i : Nat) : Int) old) ∧ h.IsTupleIter it a i ∧ e ≠ it) where
  mem := by simp
  obj := fun i h st b hb => by
    obtain ⟨⟨old, he⟩, ⟨o, ho, hc, hd⟩, _⟩ := st
    have e' : b = e ∨ b = it := by simpa using hb
    rcases e' with z | z
    · rw [z]; exact ⟨_, he, fun v q => nomatch q⟩
    · rw [z]; exact ⟨o, ho, fun v q => by rw [hd] at q; cases q⟩
  keep := fun i h h' st k => let ⟨⟨old, he⟩, hi, hne⟩ := st; ⟨⟨old, k e (by simp) _ he⟩, hi.at fun o q => k it (by simp) o q, hne⟩
  item := by
    intro X hP hw hK hc i pins s σ H E I hf st hg
    subst hP hw hK
    obtain ⟨⟨old, he⟩, hit, hne⟩ := st
    obtain ⟨xs, x, hq, hx⟩ := hg
    obtain ⟨its, rv, p, hz⟩ := I.tuple hq
    obtain ⟨u, hu, ru⟩ := rv.get hx
    have hel : e < s.heap.objs.size := Heap.lt_size he
    have hil : it < s.heap.objs.size := by obtain ⟨_, q, _⟩ := hit; exact Heap.lt_size q
    have pT : s.heap.IsTuple a its.toArray := p
    have hHa : ∀ b ∈ [e, it], a ≠ b := fun b hb z => by
      obtain ⟨o, ho, hoc, _⟩ := (show s.heap.IsTuple a its.toArray from p)
      obtain ⟨o2, ho2, hc2, _⟩ := hit
      have e' : b = e ∨ b = it := by simpa using hb
      rcases e' with z' | z'
      · rw [z, z', he] at ho
        rw [← Option.some.inj ho] at hoc
        revert hoc
        simp
      · rw [z, z', ho2] at ho
        rw [← Option.some.inj ho, hc2] at hoc
        revert hoc
        simp
    have hae : a ≠ e := hHa e (by simp)
    have hai : a ≠ it := hHa it (by simp)
    have hlt : i < its.toArray.size := by
      have := (List.getElem?_eq_some_iff.mp hu).1
      simpa using this
    refine wpAny_pyNext_enum_itemD (Draws.tuple (A := X.A.in1) (I.ok.hd hc) it a hai its.toArray) he ⟨hit, pT⟩ hlt hne (by simp; exact ⟨hne, Ne.symm hae⟩) fun y h' tk hy ho hst hT hsz hk => ?_
    have hyu : y = u := by
      have : its.toArray[i]? = some u := by simpa using hu
      rw [hy] at this
      exact Option.some.inj this
    subst hyu
    obtain ⟨hit', _⟩ := hst
    refine ⟨_, rfl, wpAny_letOwnedTupleGo_enum (s := { s with heap := h', toks := tk + 1 }) ho fun h'' he' sb => ?_⟩
    have hT2 : h''.get? s.heap.objs.size = some { cls := .type "tuple", data := .seq #[.int i tk, y] } := (sb.2 _ (Nat.ne_of_gt hel)).trans hT
    have new : ObjOk X.prog X.w (upd H s.heap.objs.size (.tup [.int (i : Nat), x])) h'' s.heap.objs.size (.tup [.int (i : Nat), x]) :=
      ⟨by show 2 ≤ sizeLine; decide, [.int i tk, y], .cons ⟨_, rfl⟩ (.cons ru .nil), ⟨_, hT2, rfl, _, rfl⟩⟩
    have I1 : Inv X pins σ (upd H s.heap.objs.size (.tup [.int (i : Nat), x])) { s with heap := h'', toks := tk + 1 } :=
      I.turnedNew (ch := [e, it]) (fun b ob hb q => (sb.2 b (fun z => hb (by simp [z]))).trans (hk b ob (fun z => hb (by simp [z])) (fun z => hb (by simp [z])) q)) hf (Nat.le_refl _) new
    refine ⟨.ref s.heap.objs.size, _, I1, rfl, ⟨_, x, rfl, I.hok.fresh (Nat.le_refl _), rfl, fun ys hy => by rw [I.tuple_inj hy hq]; exact hx⟩, ⟨⟨y, ?_⟩, hit'.at fun o q => (sb.2 it (Ne.symm hne)).trans q, hne⟩, fun b hb => ?_⟩
    · have e1 : ((i + 1 : Nat) : Int) = (i : Int) + 1 := by omega
      rw [e1]; exact he'
    · have hb' : b < s.heap.objs.size := by
        have e' : b = e ∨ b = it := by simpa using hb
        rcases e' with z | z
        · rw [z]; exact hel
        · rw [z]; exact hil
      rw [upd_ne (Nat.ne_of_lt hb')]
      exact (hf b hb).1
  done := by
    intro X hP hw hK hc i pins s σ H E I hf st hg
    subst hP hw hK
    obtain ⟨⟨old, he⟩, hit, hne⟩ := st
    obtain ⟨xs, hq, hx⟩ := hg
    obtain ⟨its, rv, p, hz⟩ := I.tuple hq
    have hHa : ∀ b ∈ [e, it], a ≠ b := fun b hb z => by
      obtain ⟨o, ho, hoc, _⟩ := (show s.heap.IsTuple a its.toArray from p)
      obtain ⟨o2, ho2, hc2, _⟩ := hit
      have e' : b = e ∨ b = it := by simpa using hb
      rcases e' with z' | z'
      · rw [z, z', he] at ho
        rw [← Option.some.inj ho] at hoc
        revert hoc
        simp
      · rw [z, z', ho2] at ho
        rw [← Option.some.inj ho, hc2] at hoc
        revert hoc
        simp
    have hai : a ≠ it := hHa it (by simp)
    have pT : s.heap.IsTuple a its.toArray := p
    obtain ⟨f0, f1, f2, f3, f4, f5⟩ := hf it (by simp)
    have hl := rv.length
    have hn : its.toArray.size = i := by simp; omega
    exact wpAny_pyNext_enum_endD (Draws.tuple (A := X.A.in1) (I.ok.hd hc) it a hai its.toArray) he (by rw [hn]; exact ⟨hit, pT⟩) fun h' eb => ⟨rfl, I.turned (t' := s.toks) (fun b o hb q => eb b o hb q) f0 f1 f3 f4 f5⟩
  self := fun A i s Q E st h => let ⟨⟨_, he⟩, _⟩ := st; wpAny_pyIter_enum he h
def iEnumT (K : PySem.W.Frag) (ta : TA) : TI := fun σ H R => ta σ H fun vs H1 => ∃ a xs, vs = [.ref a] ∧ SqT K H1 a xs ∧ R (IteT K a) H1
theorem pi_enumT {X : Cx} {e : Expr} {ta : TA} {p pos tpos : Pos} {elts : List Expr} {kk : Nat} (hg : Gl X "enumerate") (hm : X.mg "enumerate" = none) (ha : PA X [e] ta) (hs : starEach [e] X.env = [(false, eval e X.env)] := by rfl) :
    PI X (.Tuple elts kk tpos) (.Call (.Name "enumerate" p) [e] [] pos) (iEnumT X.K ta) := by
  refine ⟨fun pins s σ H R I h => ?_⟩
  refine Call_ (ld_blt I hg hm boot_enumerate (PyProof.Rows.callWith_type1 (thn (ha.run pos pins s σ H _ I h) fun us s1 ⟨vs, H1, I1, r1, q1⟩ => ?_) hs rfl))
  obtain ⟨a, xs, ex, hq, q⟩ := q1
  subst ex
  cases r1 with
  | cons r rr =>
    cases rr
    cases r
    obtain ⟨its, rv, p', hz⟩ := I1.tuple hq
    refine call_enum_tuple (show s1.heap.IsTuple a its.toArray from p') fun h' he hit hsz hk => wpAny_pyIter_enum he ?_
    have I2 : Inv X pins σ H1 { s1 with heap := h' } := I1.kept (t' := s1.toks) hk
    refine ⟨s1.heap.objs.size + 1, [s1.heap.objs.size + 1, s1.heap.objs.size], _, _, H1, rfl, I2, turn_enumT a (s1.heap.objs.size + 1) s1.heap.objs.size, ⟨⟨.none, he⟩, hit, Nat.succ_ne_self _⟩, fun b hb => ?_, q⟩
    have e' : b = s1.heap.objs.size + 1 ∨ b = s1.heap.objs.size := by simpa using hb
    have hle : s1.heap.objs.size ≤ b := by
      rcases e' with z | z
      · rw [z]; exact Nat.le_add_right _ _
      · rw [z]; exact Nat.le_refl _
    exact I1.fpOk hle (I1.hok.fresh hle)
theorem walk_enumT {K : PySem.W.Frag} {a : Addr} {xs : List V} : Walk (IteT K a) xs.length (fun H => SqT K H a xs) (YPair (fun i => some (.int (i : Nat))) (fun i => xs[i]?)) := by
  refine ⟨fun i _ hi q => ⟨xs, xs[i], q, by simp [hi]⟩, fun _ q => ⟨xs, q, rfl⟩, fun i H v H' _ q y => ?_⟩
  obtain ⟨T, x, h1, h2, h3, h4⟩ := y
  exact ⟨T, .int (i : Nat), x, h1, h2, h3, rfl, h4 xs q⟩
end HH
set_option maxHeartbeats 4000000
namespace HH
open PySem PySem.Spec PyProof.Rows L2 Evl RZ
def bef : List Nat → Nat → Nat → Bool
  | [], _, _ => false
  | x :: r, j, i => (decide (x = j) && decide (i ∈ r)) || bef r j i
theorem bef_cons {x : Nat} {r : List Nat} {j i : Nat} : bef (x :: r) j i = true ↔ (x = j ∧ i ∈ r) ∨ bef r j i = true := by
  simp [bef]
theorem bef_mem : ∀ {l : List Nat} {j i : Nat}, bef l j i = true → j ∈ l ∧ i ∈ l
  | [], _, _, h => by cases h
  | x :: r, j, i, h => by
    rcases bef_cons.mp h with ⟨rfl, h1⟩ | h1
    · exact ⟨List.mem_cons_self .., List.mem_cons_of_mem _ h1⟩
    · exact ⟨List.mem_cons_of_mem _ (bef_mem h1).1, List.mem_cons_of_mem _ (bef_mem h1).2⟩
theorem bef_swap {a b i j : Nat} {B : List Nat} (hab : a < b) (hij : i < j) : ∀ A : List Nat, bef (A ++ b :: a :: B) j i = true ↔ bef (A ++ a :: b :: B) j i = true ∨ (i = a ∧ j = b)
  | [] => by
    rw [List.nil_append, List.nil_append, bef_cons, bef_cons, bef_cons, bef_cons, List.mem_cons, List.mem_cons]
    constructor
    · rintro (⟨h1, h2 | h2⟩ | ⟨h1, h2⟩ | h)
      · exact .inr ⟨h2, h1.symm⟩
      · exact .inl (.inr (.inl ⟨h1, h2⟩))
      · exact .inl (.inl ⟨h1, .inr h2⟩)
      · exact .inl (.inr (.inr h))
    · rintro ((⟨h1, h2 | h2⟩ | ⟨h1, h2⟩ | h) | ⟨h1, h2⟩)
      · omega
      · exact .inr (.inl ⟨h1, h2⟩)
      · exact .inl ⟨h1, .inr h2⟩
      · exact .inr (.inr h)
      · exact .inl ⟨h2.symm, .inl h1⟩
  | x :: A => by
    rw [List.cons_append, List.cons_append, bef_cons, bef_cons, bef_swap hab hij A]
    have e : i ∈ A ++ b :: a :: B ↔ i ∈ A ++ a :: b :: B := by
      rw [List.mem_append, List.mem_append, List.mem_cons, List.mem_cons, List.mem_cons, List.mem_cons]
      constructor
      · rintro (h | h | h | h)
        · exact .inl h
        · exact .inr (.inr (.inl h))
        · exact .inr (.inl h)
        · exact .inr (.inr (.inr h))
      · rintro (h | h | h | h)
        · exact .inl h
        · exact .inr (.inr (.inl h))
        · exact .inr (.inl h)
        · exact .inr (.inr (.inr h))
    rw [e]
    constructor
    · rintro (h | h | h)
      · exact .inl (.inl h)
      · exact .inl (.inr h)
      · exact .inr h
    · rintro ((h | h) | h)
      · exact .inl h
      · exact .inr (.inl h)
      · exact .inr (.inr h)
theorem bef_lt : ∀ {l : List Nat} {p q j i : Nat}, l[p]? = some j → l[q]? = some i → p < q → bef l j i = true
  | [], p, q, j, i, h, _, _ => by cases h
  | x :: r, 0, 0, j, i, _, _, h => absurd h (Nat.lt_irrefl 0)
  | x :: r, 0, q + 1, j, i, h1, h2, _ => by
    have e : x = j := Option.some.inj h1
    exact bef_cons.mpr (.inl ⟨e, List.mem_of_getElem? (i := q) h2⟩)
  | x :: r, p + 1, 0, j, i, _, _, h => absurd h (Nat.not_lt_zero _)
  | x :: r, p + 1, q + 1, j, i, h1, h2, h => bef_cons.mpr (.inr (bef_lt (l := r) (p := p) (q := q) h1 h2 (by omega)))
theorem bef_get : ∀ {l : List Nat} {j i : Nat}, bef l j i = true → ∃ p q : Nat, p < q ∧ l[p]? = some j ∧ l[q]? = some i
  | [], _, _, h => by cases h
  | x :: r, j, i, h => by
    rcases bef_cons.mp h with ⟨rfl, h1⟩ | h1
    · obtain ⟨q, hq⟩ := List.getElem?_of_mem h1
      exact ⟨0, q + 1, by omega, rfl, hq⟩
    · obtain ⟨p, q, h2, h3, h4⟩ := bef_get h1
      exact ⟨p + 1, q + 1, by omega, h3, h4⟩
theorem nd_at {l : List Nat} (nd : l.Nodup) {p q j : Nat} (h1 : l[p]? = some j) (h2 : l[q]? = some j) : p = q := by
  have hp := (List.getElem?_eq_some_iff.mp h1).1
  exact (List.getElem?_inj hp nd).mp (h1.trans h2.symm)
theorem bef_iff {l : List Nat} (nd : l.Nodup) {p q j i : Nat} (h1 : l[p]? = some j) (h2 : l[q]? = some i) : bef l j i = decide (p < q) := by
  by_cases h : p < q
  · rw [decide_eq_true h]
    exact bef_lt h1 h2 h
  · rw [decide_eq_false h]
    cases hb : bef l j i with
    | false => rfl
    | true =>
      obtain ⟨p', q', h3, h4, h5⟩ := bef_get hb
      have := nd_at nd h1 h4
      have := nd_at nd h2 h5
      omega
def inP (l : List Nat) (i : Nat) (k : Nat) : Bool := bef l (i + 1 + k) i
def tabR (l : List Nat) (n i m : Nat) : List (Int × Int) := ((List.range m).filter (inP l i)).map fun k => ((i : Int), ((i + 1 + k : Nat) : Int))
def tab (l : List Nat) (n m : Nat) : List (Int × Int) := (List.range m).flatMap fun i => tabR l n i (n - (i + 1))
theorem tabR_succ (l : List Nat) (n i m : Nat) : tabR l n i (m + 1) = tabR l n i m ++ (if inP l i m = true then [((i : Int), ((i + 1 + m : Nat) : Int))] else []) := by
  unfold tabR
  rw [List.range_succ, List.filter_append, List.map_append]
  by_cases h : inP l i m = true
  · rw [if_pos h, List.filter_cons_of_pos h]
    rfl
  · rw [if_neg h, List.filter_cons_of_neg h]
    rfl
theorem tab_succ (l : List Nat) (n m : Nat) : tab l n (m + 1) = tab l n m ++ tabR l n m (n - (m + 1)) := by
  unfold tab
  rw [List.range_succ, List.flatMap_append]
  simp
theorem mem_tab {l : List Nat} {n : Nat} {p : Int × Int} : p ∈ tab l n n ↔ ∃ i j : Nat, i < j ∧ j < n ∧ p = ((i : Int), (j : Int)) ∧ bef l j i = true := by
  unfold tab tabR
  rw [List.mem_flatMap]
  constructor
  · rintro ⟨i, hi, h⟩
    obtain ⟨k, hk, rfl⟩ := List.mem_map.mp h
    obtain ⟨h1, h2⟩ := List.mem_filter.mp hk
    have h3 := List.mem_range.mp h1
    exact ⟨i, i + 1 + k, by omega, by omega, rfl, h2⟩
  · rintro ⟨i, j, h1, h2, rfl, h3⟩
    refine ⟨i, List.mem_range.mpr (by omega), List.mem_map.mpr ⟨j - (i + 1), List.mem_filter.mpr ⟨List.mem_range.mpr (by omega), ?_⟩, ?_⟩⟩
    · unfold inP
      rw [show i + 1 + (j - (i + 1)) = j by omega]
      exact h3
    · rw [show i + 1 + (j - (i + 1)) = j by omega]
def lexL (p q : Int × Int) : Prop := p.1 < q.1 ∨ (p.1 = q.1 ∧ p.2 < q.2)
theorem pw_tabR (l : List Nat) (n i m : Nat) : (tabR l n i m).Pairwise lexL := by
  unfold tabR
  rw [List.pairwise_map]
  refine List.Pairwise.filter _ ?_
  refine List.pairwise_lt_range.imp fun {a b} h => .inr ⟨rfl, ?_⟩
  show ((i + 1 + a : Nat) : Int) < ((i + 1 + b : Nat) : Int)
  omega
theorem pw_tab (l : List Nat) (n : Nat) : ∀ m, (tab l n m).Pairwise lexL
  | 0 => .nil
  | m + 1 => by
    rw [tab_succ]
    refine List.pairwise_append.mpr ⟨pw_tab l n m, pw_tabR l n m _, fun p hp q hq => ?_⟩
    obtain ⟨i, hi, h⟩ := List.mem_flatMap.mp hp
    obtain ⟨k, _, rfl⟩ := List.mem_map.mp h
    obtain ⟨k', _, rfl⟩ := List.mem_map.mp hq
    have := List.mem_range.mp hi
    exact .inl (by show (i : Int) < (m : Int); omega)
theorem lex_irr (p : Int × Int) : ¬ lexL p p := fun h => by
  rcases h with h | h
  · omega
  · omega
theorem nd_tab (l : List Nat) (n m : Nat) : (tab l n m).Nodup := (pw_tab l n m).imp fun {a b} h (e : a = b) => lex_irr b (by rw [e] at h; exact h)
structure Told (n : Nat) (l : List Nat) (ps : List (Int × Int)) : Prop where
  mem : ∀ p, p ∈ ps ↔ ∃ i j : Nat, i < j ∧ p = ((i : Int), (j : Int)) ∧ bef l j i = true
  nd : ps.Nodup
theorem told_swap {n a b : Nat} {A B : List Nat} {ps : List (Int × Int)} (t : Told n (A ++ a :: b :: B) ps) (hab : a < b) (nd : (A ++ a :: b :: B).Nodup) : Told n (A ++ b :: a :: B) (ps ++ [((a : Int), (b : Int))]) := by
  refine ⟨fun p => ?_, ?_⟩
  · rw [List.mem_append, List.mem_singleton, t.mem]
    constructor
    · rintro (⟨i, j, h1, h2, h3⟩ | rfl)
      · exact ⟨i, j, h1, h2, (bef_swap hab h1 A).mpr (.inl h3)⟩
      · exact ⟨a, b, hab, rfl, (bef_swap hab hab A).mpr (.inr ⟨rfl, rfl⟩)⟩
    · rintro ⟨i, j, h1, h2, h3⟩
      rcases (bef_swap hab h1 A).mp h3 with h4 | ⟨rfl, rfl⟩
      · exact .inl ⟨i, j, h1, h2, h4⟩
      · exact .inr h2
  · refine List.nodup_append.mpr ⟨t.nd, by simp, fun x hx y hy e => ?_⟩
    rw [List.mem_singleton] at hy
    subst e hy
    obtain ⟨i, j, h1, h2, h3⟩ := (t.mem _).mp hx
    have e1 : a = i := by
      have := congrArg Prod.fst h2
      have : (a : Int) = (i : Int) := this
      omega
    have e2 : b = j := by
      have := congrArg Prod.snd h2
      have : (b : Int) = (j : Int) := this
      omega
    subst e1 e2
    have g1 : (A ++ a :: b :: B)[A.length]? = some a := by simp
    have g2 : (A ++ a :: b :: B)[A.length + 1]? = some b := by
      rw [List.getElem?_append_right (by omega), show A.length + 1 - A.length = 1 by omega]
      rfl
    rw [bef_iff nd g2 g1] at h3
    have := of_decide_eq_true h3
    omega
theorem bef_range' : ∀ (k n : Nat) {j i : Nat}, bef (List.range' k n) j i = true → j < i
  | k, 0, _, _, h => by cases h
  | k, n + 1, j, i, h => by
    rw [List.range'_succ] at h
    rcases bef_cons.mp h with ⟨rfl, h1⟩ | h1
    · have := (List.mem_range'_1.mp h1).1
      omega
    · exact bef_range' _ n h1
theorem told_nil (n : Nat) : Told n (List.range n) [] := by
  refine ⟨fun p => ⟨(fun h => by cases h), ?_⟩, .nil⟩
  rintro ⟨i, j, h1, _, h2⟩
  rw [List.range_eq_range'] at h2
  have := bef_range' 0 n h2
  omega
theorem told_tab {n : Nat} {l : List Nat} {ps : List (Int × Int)} (t : Told n l ps) (hl : ∀ x ∈ l, x < n) : ps.Perm (tab l n n) := by
  refine (List.perm_ext_iff_of_nodup t.nd (nd_tab l n n)).mpr fun p => ?_
  rw [t.mem, mem_tab]
  constructor
  · rintro ⟨i, j, h1, h2, h3⟩
    exact ⟨i, j, h1, hl _ (bef_mem h3).1, h2, h3⟩
  · rintro ⟨i, j, h1, h2, h3, h4⟩
    exact ⟨i, j, h1, h3, h4⟩
end HH
set_option maxHeartbeats 4000000
namespace HH
open PySem PySem.Spec PyProof.Rows L2 Evl RZ
theorem in_it {J : It} {n : Nat} {G : Hp → Prop} {Y : Nat → Hp → V → Hp → Prop} (w : Walk J n G Y) {Step : V → Hp → (Hp → Prop) → Prop} {H1 : Hp} {Qd : Hp → Prop} (Pv : Nat → Hp → Prop) (h0 : Pv 0 H1) (hG : ∀ i H, i ≤ n → Pv i H → G H)
    (hs : ∀ i x H H', i < n → Pv i H → Y i H x H' → Step x H' (Pv (i + 1))) (hd : ∀ H, Pv n H → Qd H) :
    ∃ W : Nat → Nat → Hp → Prop, (∃ m, W 0 m H1) ∧ ∀ i m H, W i m H →
      (J.stop i H ∧ Qd H) ∨ (J.go i H ∧ ∃ Nx : Hp → Prop, (∀ H', Nx H' → ∃ m', m' < m ∧ W (i + 1) m' H') ∧ ∀ x H', J.yld i H x H' → Step x H' Nx) := by
  refine ⟨fun i m H => m = n - i ∧ i ≤ n ∧ Pv i H, ⟨n, by simp, Nat.zero_le _, h0⟩, ?_⟩
  rintro i m H ⟨rfl, hi, p⟩
  have q := hG i H hi p
  by_cases hlt : i < n
  · refine .inr ⟨w.goes i H hlt q, Pv (i + 1), fun H' p' => ⟨n - (i + 1), by omega, rfl, hlt, p'⟩, fun x H' y => hs i x H H' hlt p (w.yields i H x H' hlt q y)⟩
  · have e : i = n := by omega
    subst e
    exact .inl ⟨w.stops H q, hd H p⟩
theorem PRun.told {rs : HH.Row} {L : List Cow} {ps : List (Int × Int)} (r : PRun (tag 0 rs) L ps) (ht : ∀ b ∈ rs, 0 ≤ b.2) : Told rs.length (L.map (·.1)) ps ∧ Facts rs.length L ps ∧ PInv L := by
  induction r with
  | nil =>
    refine ⟨?_, facts_tag ht, pinv_tag 0 rs⟩
    have e : (tag 0 rs).map (·.1) = List.range rs.length := by
      rw [tag_fst]
      have e : (fun x => 0 + x) = (id : Nat → Nat) := by
        funext x
        exact Nat.zero_add x
      rw [e, List.map_id]
    rw [e]
    exact told_nil _
  | step r hp ih =>
    rename_i pre post a b ps
    obtain ⟨t, f, i⟩ := ih
    have hab := pinv_lt i hp (nd_ne f.nd)
    obtain ⟨f1, f2, f3⟩ := facts_pass (q := ((a.1 : Int), (b.1 : Int))) f i hp
    refine ⟨?_, f1, f2⟩
    have e1 : (pre ++ a :: b :: post).map (·.1) = pre.map (·.1) ++ a.1 :: b.1 :: post.map (·.1) := by simp
    have e2 : (pre ++ (b.1, (b.2.1 - a.2.2, b.2.2)) :: a :: post).map (·.1) = pre.map (·.1) ++ b.1 :: a.1 :: post.map (·.1) := by simp
    have nd := f.nd
    rw [e1] at t nd
    rw [e2]
    exact told_swap t hab nd
theorem FRun.told {rs : HH.Row} {L : List Cow} {ps : List (Int × Int)} (r : FRun (tag 0 rs) L ps) (ht : ∀ b ∈ rs, 0 ≤ b.2) : Told rs.length (L.map (·.1)) ps ∧ Facts rs.length L ps ∧ FInv L := by
  induction r with
  | nil =>
    refine ⟨?_, facts_tag ht, finv_tag 0 rs⟩
    have e : (tag 0 rs).map (·.1) = List.range rs.length := by
      rw [tag_fst]
      have e : (fun x => 0 + x) = (id : Nat → Nat) := by
        funext x
        exact Nat.zero_add x
      rw [e, List.map_id]
    rw [e]
    exact told_nil _
  | step r hp ih =>
    rename_i pre post a b ps
    obtain ⟨t, f, i⟩ := ih
    have hab := finv_lt i hp (nd_ne f.nd)
    obtain ⟨f1, f2, f3⟩ := facts_fall (q := ((a.1 : Int), (b.1 : Int))) f i hp
    refine ⟨?_, f1, f2⟩
    have e1 : (pre ++ a :: b :: post).map (·.1) = pre.map (·.1) ++ a.1 :: b.1 :: post.map (·.1) := by simp
    have e2 : (pre ++ b :: (a.1, (a.2.1 + b.2.2, a.2.2)) :: post).map (·.1) = pre.map (·.1) ++ b.1 :: a.1 :: post.map (·.1) := by simp
    have nd := f.nd
    rw [e1] at t nd
    rw [e2]
    exact told_swap t hab nd
theorem Step.ids {L M : List Cow} (h : Step L M) : (M.map (·.1)).Perm (L.map (·.1)) := by
  obtain ⟨pre, post, a, b, rfl, _, rfl⟩ := h
  rw [List.map_append, List.map_append]
  exact List.Perm.append_left _ (List.Perm.swap ..)
theorem FStep.ids {L M : List Cow} (h : FStep L M) : (M.map (·.1)).Perm (L.map (·.1)) := by
  obtain ⟨pre, post, a, b, rfl, _, rfl⟩ := h
  rw [List.map_append, List.map_append]
  exact List.Perm.append_left _ (List.Perm.swap ..)
theorem Steps.ids {L M : List Cow} (h : Steps L M) : (M.map (·.1)).Perm (L.map (·.1)) := by
  induction h with
  | refl => exact .refl _
  | head s _ ih => exact ih.trans s.ids
theorem FSteps.ids {L M : List Cow} (h : FSteps L M) : (M.map (·.1)).Perm (L.map (·.1)) := by
  induction h with
  | refl => exact .refl _
  | head s _ ih => exact ih.trans s.ids
theorem tag_ids (rs : HH.Row) : (tag 0 rs).map (·.1) = List.range rs.length := by
  rw [tag_fst]
  have e : (fun x => 0 + x) = (id : Nat → Nat) := by
    funext x
    exact Nat.zero_add x
  rw [e, List.map_id]
def natsV (l : List Nat) : List V := l.map fun (x : Nat) => V.int (x : Int)
theorem ordL_nats (L : List Cow) : ordL L = natsV (L.map (·.1)) := by
  unfold ordL natsV
  rw [List.map_map]
  rfl
structure PlacesD (l : List Nat) (k : Nat) (kvs : List (Key × V)) : Prop where
  at' : ∀ i x : Nat, i < k → l[i]? = some x → valV kvs (.inl (x : Int)) = some (.int (i : Int))
  few : kvs.length ≤ k
theorem PlacesD.put {l : List Nat} (nd : l.Nodup) {k x : Nat} {kvs : List (Key × V)} (h : PlacesD l k kvs) (hx : l[k]? = some x) : PlacesD l (k + 1) (putK kvs (.inl (x : Int)) (.int (k : Int))) := by
  refine ⟨fun i y hi hy => ?_, ?_⟩
  · rw [valV_put]
    by_cases e : y = x
    · subst e
      have := nd_at nd hy hx
      subst this
      rw [if_pos rfl]
    · rw [if_neg (fun z => e (by
        have z' : (y : Int) = (x : Int) := Sum.inl.inj z
        omega))]
      refine h.at' i y ?_ hy
      rcases Nat.lt_or_ge i k with h1 | h1
      · exact h1
      · have h2 : i = k := by omega
        subst h2
        rw [hx] at hy
        exact absurd (Option.some.inj hy).symm e
  · have := length_putK kvs (.inl (x : Int)) (.int (k : Int))
    have := h.few
    omega
theorem room_u1 {k : Nat} {A : Around} (r : Room k A) : A.units + 1 < cLine := by
  have := r.un
  omega
theorem ev_lenT {K : PySem.W.Frag} {ta : TE} {σ : L2.St} {H : Hp} {a : Addr} {xs : List V} (h : Ev ta σ H (.ref a)) (hr : SqT K H a xs) : Ev (tCB (rLenS K) (tCons ta tNil)) σ H (.int (xs.length : Int)) := fun H1 e Q q => h H1 e _ fun H2 e2 => ⟨a, xs, rfl, Or.inr (ex_t (e.trans e2) hr), q H2 e2⟩
theorem ev_dget {td ty : TE} {σ : L2.St} {H : Hp} {a : Addr} {kvs : List (Key × V)} {k : Key} {v : V} (hd : Ev td σ H (.ref a)) (hy : Ev ty σ H (kV k)) (h : H a = some (.dK kvs)) (hv : valV kvs k = some v) : Ev (tDGet td ty) σ H v := fun H1 e Q q =>
  hd H1 e _ fun H2 e2 => hy H2 (e.trans e2) _ fun H3 e3 => ⟨a, v, rfl, by rw [← hv]; exact DGet.k (((e.trans e2).trans e3) _ _ h), q H3 (e2.trans e3)⟩
theorem tabR_len (l : List Nat) (n i m : Nat) : (tabR l n i m).length ≤ m := by
  unfold tabR
  rw [List.length_map]
  have := List.length_filter_le (inP l i) (List.range m)
  rw [List.length_range] at this
  exact this
theorem tab_len (l : List Nat) (n : Nat) : ∀ m, (tab l n m).length ≤ m * n
  | 0 => by
    show ([] : List (Int × Int)).length ≤ 0 * n
    simp
  | m + 1 => by
    rw [tab_succ, List.length_append, Nat.succ_mul]
    have := tab_len l n m
    have := tabR_len l n m (n - (m + 1))
    omega
theorem i_rng2 {ta : TA} {σ : L2.St} {H : Hp} {R : It → Hp → Prop} {i j : Int} (h : EvA ta σ H [.int i, .int j]) (b : -(2 ^ 62) ≤ i ∧ i < 2 ^ 62 ∧ -(2 ^ 62) ≤ j ∧ j < 2 ^ 62) (k : ∀ H1, Ex H H1 → R (Itr i (j - i).toNat) H1) : iRng2 ta σ H R := h H (Ex.refl H) _ fun H1 e => ⟨i, j, rfl, b, k H1 e⟩
theorem t_ev {t : TT} {σ : L2.St} {H : Hp} {b : Bool} {Q : Bool → Hp → Prop} (h : EvT t σ H b) (k : ∀ H1, Ex H H1 → Q b H1) : t σ H Q := h H (Ex.refl H) _ k
theorem t_yes {σ : L2.St} {H : Hp} {Q R : Hp → Prop} (h : Q H) : tYes σ H (fun b H1 => if b = true then Q H1 else R H1) := by
  show if true = true then Q H else R H
  rw [if_pos rfl]
  exact h
end HH
set_option maxHeartbeats 4000000
namespace HH
open PySem PySem.Spec PyProof.Rows L2 Evl RZ
theorem step_back {L M : List Cow} (h : Step L M) : FStep M L := by
  obtain ⟨pre, post, a, b, rfl, hp, rfl⟩ := h
  refine ⟨pre, post, _, a, rfl, hp, ?_⟩
  obtain ⟨bi, bs, bt⟩ := b
  show pre ++ a :: (bi, (bs, bt)) :: post = pre ++ a :: (bi, (bs - a.2.2 + a.2.2, bt)) :: post
  rw [Int.sub_add_cancel]
theorem fstep_back {L M : List Cow} (h : FStep L M) : Step M L := by
  obtain ⟨pre, post, a, b, rfl, hp, rfl⟩ := h
  refine ⟨pre, post, b, _, rfl, ?_, ?_⟩
  · show a.2.1 + b.2.2 - b.2.2 > b.2.1
    omega
  · obtain ⟨ai, as, at'⟩ := a
    show pre ++ (ai, (as, at')) :: b :: post = pre ++ (ai, (as + b.2.2 - b.2.2, at')) :: b :: post
    rw [Int.add_sub_cancel]
theorem FSteps.back {L M : List Cow} (h : FSteps L M) : Steps M L := by
  induction h with
  | refl => exact .refl _
  | head s _ ih => exact ih.snoc (fstep_back s)
theorem Steps.back {L M : List Cow} (h : Steps L M) : FSteps M L := by
  induction h with
  | refl => exact .refl _
  | head s _ ih => exact ih.snoc (step_back s)
def rl (f : Nat → Nat) (x : Cow) : Cow := (f x.1, x.2)
def rlL (f : Nat → Nat) (L : List Cow) : List Cow := L.map (rl f)
theorem rl_rows (f : Nat → Nat) (L : List Cow) : rowsOf (rlL f L) = rowsOf L := by
  unfold rowsOf rlL
  rw [List.map_map]
  rfl
theorem Step.map {L M : List Cow} (f : Nat → Nat) (h : Step L M) : Step (rlL f L) (rlL f M) := by
  obtain ⟨pre, post, a, b, rfl, hp, rfl⟩ := h
  exact ⟨rlL f pre, rlL f post, rl f a, rl f b, by simp [rlL], hp, by simp [rlL, rl]⟩
theorem Step.unmap {f : Nat → Nat} {L0 M : List Cow} (h : Step (rlL f L0) M) : ∃ M0, Step L0 M0 ∧ M = rlL f M0 := by
  obtain ⟨pre, post, a, b, h1, hp, rfl⟩ := h
  obtain ⟨p0, r0, rfl, rfl, h2⟩ := List.map_eq_append_iff.mp h1
  obtain ⟨a0, r1, rfl, rfl, h3⟩ := List.map_eq_cons_iff.mp h2
  obtain ⟨b0, r2, rfl, rfl, rfl⟩ := List.map_eq_cons_iff.mp h3
  exact ⟨_, ⟨p0, r2, a0, b0, rfl, hp, rfl⟩, by simp [rlL, rl]⟩
theorem FStep.map {L M : List Cow} (f : Nat → Nat) (h : FStep L M) : FStep (rlL f L) (rlL f M) := step_back ((fstep_back h).map f)
theorem Steps.map {L M : List Cow} (f : Nat → Nat) (h : Steps L M) : Steps (rlL f L) (rlL f M) := by
  induction h with
  | refl => exact .refl _
  | head s _ ih => exact .head (s.map f) ih
theorem FSteps.map {L M : List Cow} (f : Nat → Nat) (h : FSteps L M) : FSteps (rlL f L) (rlL f M) := by
  induction h with
  | refl => exact .refl _
  | head s _ ih => exact .head (s.map f) ih
theorem FStep.unmap {f : Nat → Nat} {L0 M : List Cow} (h : FStep (rlL f L0) M) : ∃ M0, FStep L0 M0 ∧ M = rlL f M0 := by
  obtain ⟨pre, post, a, b, h1, hp, rfl⟩ := h
  obtain ⟨p0, r0, rfl, rfl, h2⟩ := List.map_eq_append_iff.mp h1
  obtain ⟨a0, r1, rfl, rfl, h3⟩ := List.map_eq_cons_iff.mp h2
  obtain ⟨b0, r2, rfl, rfl, rfl⟩ := List.map_eq_cons_iff.mp h3
  exact ⟨_, ⟨p0, r2, a0, b0, rfl, hp, rfl⟩, by simp [rlL, rl]⟩
theorem Steps.unmap {f : Nat → Nat} {L M : List Cow} (h : Steps L M) : ∀ {L0 : List Cow}, L = rlL f L0 → ∃ M0, Steps L0 M0 ∧ M = rlL f M0 := by
  induction h with
  | refl => exact fun e => ⟨_, .refl _, e⟩
  | head s _ ih =>
    intro L0 e
    subst e
    obtain ⟨M1, s1, e1⟩ := s.unmap
    obtain ⟨M0, s0, e0⟩ := ih e1
    exact ⟨M0, .head s1 s0, e0⟩
theorem FSteps.unmap {f : Nat → Nat} {L M : List Cow} (h : FSteps L M) : ∀ {L0 : List Cow}, L = rlL f L0 → ∃ M0, FSteps L0 M0 ∧ M = rlL f M0 := by
  induction h with
  | refl => exact fun e => ⟨_, .refl _, e⟩
  | head s _ ih =>
    intro L0 e
    subst e
    obtain ⟨M1, s1, e1⟩ := s.unmap
    obtain ⟨M0, s0, e0⟩ := ih e1
    exact ⟨M0, .head s1 s0, e0⟩
theorem nf_un {f : Nat → Nat} {L : List Cow} (h : Nf (rlL f L)) : Nf L := fun M s => h _ (s.map f)
theorem ff_un {f : Nat → Nat} {L : List Cow} (h : Ff (rlL f L)) : Ff L := fun M s => h _ (s.map f)
theorem nf_map {f : Nat → Nat} {L : List Cow} (h : Nf L) : Nf (rlL f L) := fun M s => by
  obtain ⟨M0, s0, _⟩ := s.unmap
  exact h _ s0
theorem ff_map {f : Nat → Nat} {L : List Cow} (h : Ff L) : Ff (rlL f L) := fun M s => by
  obtain ⟨M0, s0, _⟩ := s.unmap
  exact h _ s0
def ixN (l : List Nat) (i : Nat) : Nat := (l[i]?).getD 0
theorem tag_at : ∀ (k i : Nat) (rs : HH.Row), (tag k rs)[i]? = (rs[i]?).map fun b => (k + i, b)
  | _, _, [] => rfl
  | k, 0, b :: r => rfl
  | k, i + 1, b :: r => by
    show (tag (k + 1) r)[i]? = (r[i]?).map _
    rw [tag_at (k + 1) i r]
    rw [show k + 1 + i = k + (i + 1) by omega]
theorem rl_tag (L : List Cow) : rlL (ixN (L.map (·.1))) (tag 0 (rowsOf L)) = L := by
  refine List.ext_getElem? fun i => ?_
  unfold rlL
  rw [List.getElem?_map, tag_at]
  unfold rowsOf
  rw [List.getElem?_map]
  cases h : L[i]? with
  | none => rfl
  | some x =>
    show some (rl (ixN (L.map (·.1))) (0 + i, x.2)) = some x
    unfold rl ixN
    rw [Nat.zero_add, List.getElem?_map, h]
    rfl
theorem tolls_rows {L : List Cow} (h : ∀ x ∈ L, 0 ≤ x.2.2) : ∀ b ∈ rowsOf L, 0 ≤ b.2 := fun b hb => by
  obtain ⟨x, hx, rfl⟩ := List.mem_map.mp hb
  exact h x hx
theorem nf_any {L N N' : List Cow} (ht : ∀ x ∈ L, 0 ≤ x.2.2) (s : Steps L N) (n : Nf N) (s' : Steps L N') (n' : Nf N') : N = N' := by
  obtain ⟨M, t, rfl⟩ := s.unmap (rl_tag L).symm
  obtain ⟨M', t', rfl⟩ := s'.unmap (rl_tag L).symm
  rw [one_nf _ (good_tag (tolls_rows ht)) (Nat.le_refl _) t (nf_un n) t' (nf_un n')]
theorem ff_any {L N N' : List Cow} (ht : ∀ x ∈ L, 0 ≤ x.2.2) (s : FSteps L N) (n : Ff N) (s' : FSteps L N') (n' : Ff N') : N = N' := by
  obtain ⟨M, t, rfl⟩ := s.unmap (rl_tag L).symm
  obtain ⟨M', t', rfl⟩ := s'.unmap (rl_tag L).symm
  rw [one_ff _ (fgood_tag (tolls_rows ht)) (Nat.le_refl _) t (ff_un n) t' (ff_un n')]
theorem nf_is {L : List Cow} (ht : ∀ x ∈ L, 0 ≤ x.2.2) : ∃ N, Steps L N ∧ Nf N := by
  obtain ⟨N, s, n⟩ := some_nf _ (good_tag (tolls_rows ht)) (Nat.le_refl _)
  have s' := s.map (ixN (L.map (·.1)))
  rw [rl_tag] at s'
  exact ⟨_, s', nf_map n⟩
theorem ff_is {L : List Cow} (ht : ∀ x ∈ L, 0 ≤ x.2.2) : ∃ N, FSteps L N ∧ Ff N := by
  obtain ⟨N, s, n⟩ := some_ff _ (fgood_tag (tolls_rows ht)) (Nat.le_refl _)
  have s' := s.map (ixN (L.map (·.1)))
  rw [rl_tag] at s'
  exact ⟨_, s', ff_map n⟩
theorem step_tl {L M : List Cow} (h : Step L M) (ht : ∀ x ∈ L, 0 ≤ x.2.2) : ∀ x ∈ M, 0 ≤ x.2.2 := by
  obtain ⟨pre, post, a, b, rfl, hp, rfl⟩ := h
  intro x hx
  simp only [List.mem_append, List.mem_cons] at hx
  rcases hx with h | h | h | h
  · exact ht x (by simp [h])
  · subst h
    exact ht b (by simp)
  · exact ht x (by simp [h])
  · exact ht x (by simp [h])
theorem fstep_tl {L M : List Cow} (h : FStep L M) (ht : ∀ x ∈ L, 0 ≤ x.2.2) : ∀ x ∈ M, 0 ≤ x.2.2 := by
  obtain ⟨pre, post, a, b, rfl, hp, rfl⟩ := h
  intro x hx
  simp only [List.mem_append, List.mem_cons] at hx
  rcases hx with h | h | h | h
  · exact ht x (by simp [h])
  · exact ht x (by simp [h])
  · subst h
    exact ht a (by simp)
  · exact ht x (by simp [h])
theorem Steps.tl {L M : List Cow} (h : Steps L M) (ht : ∀ x ∈ L, 0 ≤ x.2.2) : ∀ x ∈ M, 0 ≤ x.2.2 := by
  induction h with
  | refl => exact ht
  | head s _ ih => exact ih (step_tl s ht)
theorem FSteps.tl {L M : List Cow} (h : FSteps L M) (ht : ∀ x ∈ L, 0 ≤ x.2.2) : ∀ x ∈ M, 0 ≤ x.2.2 := by
  induction h with
  | refl => exact ht
  | head s _ ih => exact ih (fstep_tl s ht)
theorem ends_fstep {L M E : List Cow} (ht : ∀ x ∈ L, 0 ≤ x.2.2) (s : FStep L M) (h : FSteps L E) (n : Ff E) : FSteps M E := by
  obtain ⟨N, s1, n1⟩ := ff_is (fstep_tl s ht)
  rw [ff_any ht h n (.head s s1) n1]
  exact s1
theorem ends_step {L M E : List Cow} (ht : ∀ x ∈ L, 0 ≤ x.2.2) (s : Step L M) (h : Steps L E) (n : Nf E) : Steps M E := by
  obtain ⟨N, s1, n1⟩ := nf_is (step_tl s ht)
  rw [nf_any ht h n (.head s s1) n1]
  exact s1
theorem MRun.both {L0 L E B : List Cow} {ds : List Deed} (r : MRun L0 L ds) (ht : ∀ x ∈ L0, 0 ≤ x.2.2) (hE : Steps L0 E) (nE : Nf E) (hB : FSteps L0 B) (nB : Ff B) : (∀ x ∈ L, 0 ≤ x.2.2) ∧ Steps L E ∧ FSteps L B := by
  induction r with
  | nil => exact ⟨ht, hE, hB⟩
  | pass r hp ih =>
    rename_i pre post a b ds
    have s : Step (pre ++ a :: b :: post) (pre ++ (b.1, (b.2.1 - a.2.2, b.2.2)) :: a :: post) := ⟨_, _, _, _, rfl, hp, rfl⟩
    exact ⟨step_tl s ih.1, ends_step ih.1 s ih.2.1 nE, .head (step_back s) ih.2.2⟩
  | fall r hp ih =>
    rename_i pre post a b ds
    have s : FStep (pre ++ a :: b :: post) (pre ++ b :: (a.1, (a.2.1 + b.2.2, a.2.2)) :: post) := ⟨_, _, _, _, rfl, hp, rfl⟩
    exact ⟨fstep_tl s ih.1, .head (fstep_back s) ih.2.1, ends_fstep ih.1 s ih.2.2 nB⟩
end HH
set_option maxHeartbeats 4000000
namespace HH
open PySem PySem.Spec PyProof.Rows L2 Evl RZ
theorem ixN_at {l : List Nat} {p : Nat} (h : p < l.length) : l[p]? = some (ixN l p) := by
  unfold ixN
  rw [List.getElem?_eq_getElem h]
  rfl
structure Thru (n : Nat) (l1 l2 y : List Nat) : Prop where
  p1 : l1.Perm (List.range n)
  p2 : l2.Perm (List.range n)
  py : y.Perm (List.range n)
  e : l2 = y.map (ixN l1)
  no : ∀ {a b : Nat}, a < b → bef l1 b a = true → bef l2 b a = true → False
end HH
set_option maxHeartbeats 4000000
namespace SrtO
open PySem PySem.Spec PyProof.Rows L2
section
variable {prog : Program} {w : World} {A : Around} {E : Value → Shared → Prop} {s : Shared}
end
end SrtO
namespace HH
open PySem PySem.Spec PyProof.Rows L2 Evl RZ
section
variable {X : Cx}
end
end HH
set_option maxHeartbeats 4000000
namespace HH
open PySem PySem.Spec PyProof.Rows L2 Evl RZ
theorem room_u65 {k : Nat} {A : Around} (r : Room k A) : A.units + 65 < cLine := by
  have := r.un
  omega
theorem natsV_at {l : List Nat} {k x : Nat} (h : l[k]? = some x) : (natsV l)[k]? = some (V.int (x : Int)) := by
  unfold natsV
  rw [List.getElem?_map, h]
  rfl
theorem natsV_len (l : List Nat) : (natsV l).length = l.length := List.length_map ..
section
variable {K : PySem.W.Frag} {σ : L2.St} {H H' : Hp} {ta tb te : TE} {x y v : V}
theorem rv_neD {k : Nat} {d : PyData} (hx : Dp K H x d) (hy : Dp K H y d) (n : Nice k d) (hk : k < 64) : RV (rNeD K) x y H (.bl false) := fun H1 e Q q => by
  refine ⟨d, d, dp_ex e hx, dp_ex e hy, n.shaped (by omega), n.shaped (by omega), ?_⟩
  rw [SeqAt.eqv_refl _ n.1]
  exact q H1 (Ex.refl H1)
end
end HH
set_option maxHeartbeats 4000000
namespace HH
open PySem PySem.Spec PyProof.Rows L2 Evl RZ
theorem FSteps.len {L M : List Cow} (h : FSteps L M) : M.length = L.length := by
  have := h.ids.length_eq
  rw [List.length_map, List.length_map] at this
  exact this
theorem Steps.len {L M : List Cow} (h : Steps L M) : M.length = L.length := by
  have := h.ids.length_eq
  rw [List.length_map, List.length_map] at this
  exact this
theorem FSteps.idsT {rs : HH.Row} {M : List Cow} (h : FSteps (tag 0 rs) M) : (M.map (·.1)).Perm (List.range rs.length) := by
  rw [← tag_ids]
  exact h.ids
theorem Steps.idsT {rs : HH.Row} {M : List Cow} (h : Steps (tag 0 rs) M) : (M.map (·.1)).Perm (List.range rs.length) := by
  rw [← tag_ids]
  exact h.ids
section
variable {K : PySem.W.Frag} {σ : L2.St} {H H' : Hp} {ta tb te : TE} {x y v : V} {t : TT} {tu tz : TS} {D : Ends}
end
end HH
namespace HH
open PySem PySem.Spec PyProof.Rows L2 Evl RZ
section
variable {X : Cx} {K : PySem.W.Frag}
end
end HH
namespace HH
open PySem PySem.Spec PyProof.Rows L2 Evl RZ
section
variable {K : PySem.W.Frag} {σ : L2.St} {H H' : Hp} {ta tb te : TE} {x y v : V} {Q : VK}
end
end HH
namespace HH
open PySem PySem.Spec PyProof.Rows L2 Evl RZ
section
variable {K : PySem.W.Frag} {σ : L2.St} {H H' : Hp} {ta tb te : TE} {x y v : V} {Q : VK}
end
end HH
set_option maxHeartbeats 4000000
namespace HH
open PySem PySem.Spec PyProof.Rows L2 Evl RZ
section
variable {K : PySem.W.Frag} {σ : L2.St} {H H' : Hp} {ta tb te : TE} {x y v : V} {Q : VK}
end
end HH
namespace HH
open PySem PySem.Spec PyProof.Rows L2 Evl RZ
end HH
namespace HH
open PySem PySem.Spec PyProof.Rows L2 Evl RZ
end HH
set_option maxHeartbeats 4000000
namespace HH
open PySem PySem.Spec PyProof.Rows L2 Evl RZ
def spPlaces (K : PySem.W.Frag) : Sp := fun vs H Q _ => ∃ (o : Addr) (l : List Nat), vs = [.ref o] ∧ SqT K H o (natsV l) ∧ l.Nodup ∧ l.length ≤ 30 ∧ ∀ (q : Addr) (kvs : List (Key × V)) (H' : Hp), H q = none → Ex H H' → H' q = some (.dK kvs) → PlacesD l l.length kvs → Q (.ref q) H'
theorem s_at {ts : TS} {D : Ends} {σ : L2.St} {H : Hp} (σ' : L2.St) (e : σ = σ') (k : ts D σ' H) : ts D σ H := by
  rw [e]
  exact k
end HH
set_option maxHeartbeats 4000000
namespace HH
open PySem PySem.Spec PyProof.Rows L2 Evl RZ
def barN (rs : HH.Row) (i : Nat) : Nat → Int
  | 0 => sS rs i + tS rs i
  | m + 1 => if sS rs (i + 1 + m) ≤ barN rs i m then barN rs i m + tS rs (i + 1 + m) else barN rs i m
def tsumC : List Cow → Int
  | [] => 0
  | x :: r => x.2.2 + tsumC r
def BarI (rs : HH.Row) (m : Nat) : List Cow → Prop
  | [] => True
  | x :: r => x.2.1 + x.2.2 + tsumC r = barN rs x.1 (m - x.1 - 1) ∧ BarI rs m r
def PB (s : Int) : List Cow → Prop
  | [] => True
  | x :: r => x.2.1 + x.2.2 + tsumC r < s ∧ PB s r
theorem tag_app : ∀ (k : Nat) (a b : HH.Row), tag k (a ++ b) = tag k a ++ tag (k + a.length) b
  | k, [], b => rfl
  | k, x :: a, b => by
    show (k, x) :: tag (k + 1) (a ++ b) = (k, x) :: (tag (k + 1) a ++ tag (k + (a.length + 1)) b)
    rw [tag_app (k + 1) a b, show k + 1 + a.length = k + (a.length + 1) by omega]
structure EndP (rs : HH.Row) (m : Nat) (N : List Cow) : Prop where
  st : Steps (tag 0 (rs.take m)) N
  nf : NfR N
  ba : BarI rs m N
  ids : (N.map (·.1)).Perm (List.range m)
  by' : ∀ i j : Nat, i < j → j < m → (bef (N.map (·.1)) j i = true ↔ barN rs i (j - i - 1) < sS rs j)
def nevP (rs : HH.Row) (i m : Nat) : Bool := decide (sS rs (i + 1 + m) ≤ barN rs i m)
def nevL (rs : HH.Row) (i n : Nat) : List Nat := ((List.range n).filter (nevP rs i)).map (i + 1 + ·)
end HH
set_option maxHeartbeats 4000000
namespace HH
open PySem PySem.Spec PyProof.Rows L2 Evl RZ
section
variable {K : PySem.W.Frag} {σ : L2.St} {H H' : Hp} {ta tb te : TE} {x y v : V}
end
def LowN (n : Nat) (b : Int × Int) : Prop := b.1.natAbs ≤ 10 ^ 12 * (n + 1) ∧ 0 ≤ b.2 ∧ b.2 < 10 ^ 12
theorem MRun.low {L0 L : List Cow} {ds : List Deed} (r : MRun L0 L ds) (h : ∀ x ∈ L0, LowN 0 x.2) : ∀ x ∈ L, LowN ds.length x.2 := by
  have e : (10 : Int) ^ 12 = 1000000000000 := by decide
  have e2 : (10 : Nat) ^ 12 = 1000000000000 := by decide
  induction r with
  | nil => exact h
  | pass r hp ih =>
    rename_i pre post a b ds
    intro x hx
    rw [List.length_append]
    show LowN (ds.length + 1) x.2
    have up : ∀ y, LowN ds.length y → LowN (ds.length + 1) y := fun y hy => by
      unfold LowN at hy ⊢
      rw [e2] at hy ⊢
      omega
    simp only [List.mem_append, List.mem_cons] at hx
    rcases hx with hx | hx | hx | hx
    · exact up _ (ih x (by simp [hx]))
    · subst hx
      have ha := ih a (by simp)
      have hb := ih b (by simp)
      unfold LowN at ha hb ⊢
      rw [e, e2] at ha hb ⊢
      dsimp only
      omega
    · exact up _ (ih x (by simp [hx]))
    · exact up _ (ih x (by simp [hx]))
  | fall r hp ih =>
    rename_i pre post a b ds
    intro x hx
    rw [List.length_append]
    show LowN (ds.length + 1) x.2
    have up : ∀ y, LowN ds.length y → LowN (ds.length + 1) y := fun y hy => by
      unfold LowN at hy ⊢
      rw [e2] at hy ⊢
      omega
    simp only [List.mem_append, List.mem_cons] at hx
    rcases hx with hx | hx | hx | hx
    · exact up _ (ih x (by simp [hx]))
    · exact up _ (ih x (by simp [hx]))
    · subst hx
      have ha := ih a (by simp)
      have hb := ih b (by simp)
      unfold LowN at ha hb ⊢
      rw [e, e2] at ha hb ⊢
      dsimp only
      omega
    · exact up _ (ih x (by simp [hx]))
theorem LowN.low {n : Nat} {b : Int × Int} (h : LowN n b) (hn : n ≤ 1000) : Low b := by
  unfold LowN at h
  unfold Low
  have e : (10 : Int) ^ 12 = 1000000000000 := by decide
  have e2 : (10 : Nat) ^ 12 = 1000000000000 := by decide
  have e3 : (10 : Nat) ^ 18 = 1000000000000000000 := by decide
  rw [e, e2] at h
  rw [e3]
  omega
end HH
set_option maxHeartbeats 4000000
namespace HH
open PySem PySem.Spec PyProof.Rows L2 Evl RZ
section
variable {K : PySem.W.Frag} {σ : L2.St} {H H' : Hp} {ta tb te : TE} {x y v : V}
theorem el_catV {l : Addr} {xs ys : List V} (ha : Ev ta σ H (.ref l)) (hl : H l = some (.lst xs)) (hb : EvL tb σ H ys) (hz : xs.length + ys.length ≤ 100000) : EvL (tOp rCat ta tb) σ H (xs ++ ys) := fun H1 e Q q =>
  ha H1 e _ fun H2 e2 => hb H2 (e.trans e2) _ fun p H3 hp e3 h3 => ⟨l, p, xs, ys, rfl, rfl, ((e.trans e2).trans e3) _ _ hl, h3, sz_of hz, fun c hc => q c _ (fresh_back (e2.trans e3) hc) ((e2.trans e3).trans (Ex.new hc)) upd_same⟩
end
end HH
set_option maxHeartbeats 4000000
namespace HH
open PySem PySem.Spec PyProof.Rows L2 Evl RZ
section
variable {X : Cx}
theorem flat_ints (ns : List Int) : (ns.map V.int).all flatV = true := List.all_eq_true.mpr fun v hv => by
  obtain ⟨n, _, rfl⟩ := List.mem_map.mp hv
  rfl
def rTIdx (K : PySem.W.Frag) : V → List V → Hp → VK → Prop := fun x as H Q => ∃ (a : Addr) (ns : List Int) (n : Int) (k : Nat), x = .ref a ∧ as = [.int n] ∧ SqT K H a (ns.map V.int) ∧ ns[k]? = some n ∧ (∀ m, m < k → ns[m]? ≠ some n) ∧ Q (.int (k : Int)) H
theorem mt_tup_indexI : MtR X "tuple.index" (rTIdx X.K) := by
  intro pins st σ H x as v args Q inv relx rela hq
  obtain ⟨a, ns, n, k, rfl, rfl, tup, here, first', q⟩ := hq
  cases relx
  obtain ⟨arg, rfl, tok, rfl⟩ := vals1 rela
  obtain ⟨vals, rv, place, _⟩ := inv.tuple tup
  obtain ⟨⟨oc, od, odt, osl⟩, got, isT, sq, isS⟩ := place
  dsimp only at isT isS
  subst isT isS
  have size : vals.toArray.size = ns.length := by
    have := rv.length
    rw [List.length_map] at this
    rw [List.size_toArray]
    omega
  have kin : k < vals.toArray.size := by
    have := (List.getElem?_eq_some_iff.mp here).1
    omega
  have item : ∀ (m : Nat) (lt : m < vals.toArray.size), ∃ (y : Int) (ty : Tok), ns[m]? = some y ∧ vals.toArray[m] = Value.int y ty := fun m lt => by
    have lt' : m < ns.length := by omega
    obtain ⟨w, hw, ty, ew⟩ := rv.get (i := m) (x := V.int ns[m]) (by rw [List.getElem?_map, List.getElem?_eq_getElem lt']; rfl)
    refine ⟨ns[m], ty, List.getElem?_eq_getElem lt', ?_⟩
    obtain ⟨_, e⟩ := List.getElem?_eq_some_iff.mp hw
    subst ew
    rw [List.getElem_toArray]
    exact e
  have same : ∀ (y : Int) (ty : Tok), eqU (.int n) (Value.int y ty) = decide (y = n) := fun y ty => by
    show (y == n) = decide (y = n)
    exact Bool.beq_eq_decide_eq y n
  refine call_meets PySem.F.slot_tuple_index ⟨_, got, rfl⟩ PySem.F.entry_tuple_index (PySem.F.args_tuple_index_2 _ _) (TI.tuple_indexAt a vals.toArray sq od osl (.int n tok) (eqU (.int n)) k kin ?_ ?_) ⟨got, fun y hy => mem_eqAt (x := V.int n) ⟨tok, rfl⟩ rfl rv (flat_ints ns) y (by simpa using hy), ⟨V.int (k : Nat), H, inv.tok _, ⟨_, rfl⟩, q⟩⟩
  · obtain ⟨y, ty, h1, h2⟩ := item k kin
    rw [h2, same, decide_eq_true]
    exact Option.some.inj (h1.symm.trans here)
  · intro m lt hmk
    obtain ⟨y, ty, h1, h2⟩ := item m lt
    rw [h2, same, decide_eq_false]
    intro e
    subst e
    exact first' m hmk h1
end
def stopAt (l : List Nat) (j : Nat) : V := if j = 0 then .non else .int (ixN l (j - 1) : Int)
structure InsR (w : Cow) (N A B : List Cow) : Prop where
  e : N = A ++ B
  st : Steps (N ++ [w]) (A ++ (w.1, (w.2.1 - tsumC B, w.2.2)) :: B)
  pb : PB w.2.1 B
theorem InsR.start (w : Cow) (N : List Cow) : InsR w N N [] := by
  refine ⟨(List.append_nil N).symm, ?_, True.intro⟩
  have e : (w.1, (w.2.1 - tsumC [], w.2.2)) = w := by
    show (w.1, (w.2.1 - 0, w.2.2)) = w
    rw [Int.sub_zero]
  rw [e]
  exact .refl _
theorem InsR.next {w a : Cow} {N A B : List Cow} (h : InsR w N (A ++ [a]) B) (hp : w.2.1 - tsumC B - a.2.2 > a.2.1) : InsR w N A (a :: B) := by
  refine ⟨by rw [h.e, List.append_assoc]; rfl, h.st.snoc ⟨A, B, a, (w.1, (w.2.1 - tsumC B, w.2.2)), by rw [List.append_assoc]; rfl, hp, ?_⟩, ⟨by omega, h.pb⟩⟩
  have e2 : w.2.1 - tsumC (a :: B) = w.2.1 - tsumC B - a.2.2 := by
    show w.2.1 - (a.2.2 + tsumC B) = _
    omega
  rw [e2]
theorem InsR.stop {w : Cow} {N A B : List Cow} (h : InsR w N A B) (n : NfR N) (t : 0 ≤ w.2.2) (la : ∀ x, A.getLast? = some x → ¬ (w.2.1 - tsumC B - x.2.2 > x.2.1)) : NfR (A ++ (w.1, (w.2.1 - tsumC B, w.2.2)) :: B) := by
  have hn := n
  rw [h.e] at hn
  refine nfr_in hn la fun b r eb => ?_
  have hb := h.pb
  subst eb
  have := hb.1
  show ¬ (b.2.1 - w.2.2 > w.2.1 - (b.2.2 + tsumC r))
  omega
end HH
set_option maxHeartbeats 4000000
namespace HH
open PySem PySem.Spec PyProof.Rows L2 Evl RZ
def MixSt (z TI TO i1 i2 a b : Addr) (i : Nat) (h : Heap) : Prop := IsZip h z TI TO .none ∧ IsTupOf2 h TI (.ref i1) (.ref i2) ∧ (∃ x y, IsTupOf2 h TO x y) ∧ h.IsListIter i1 a i ∧ h.IsTupleIter i2 b i
theorem five {c z TI TO i1 i2 : Addr} (h : c ∈ [z, TI, TO, i1, i2]) : c = z ∨ c = TI ∨ c = TO ∨ c = i1 ∨ c = i2 := by simpa using h
theorem MixSt.objs {z TI TO i1 i2 a b : Addr} {i : Nat} {h : Heap} (m : MixSt z TI TO i1 i2 a b i h) : ∀ c ∈ [z, TI, TO, i1, i2], ∃ ob, h.get? c = some ob ∧ ∀ v, ob.data ≠ .cell v := fun c hc => by
  obtain ⟨m1, m2, ⟨_, _, m3⟩, ⟨p1, g1, _, d1⟩, ⟨p2, g2, _, d2⟩⟩ := m
  rcases five hc with rfl | rfl | rfl | rfl | rfl
  · exact ⟨_, m1, fun v q => by cases q⟩
  · exact ⟨_, m2, fun v q => by cases q⟩
  · exact ⟨_, m3, fun v q => by cases q⟩
  · exact ⟨p1, g1, fun v q => by rw [d1] at q; cases q⟩
  · exact ⟨p2, g2, fun v q => by rw [d2] at q; cases q⟩
end HH
set_option maxHeartbeats 4000000
namespace HH
open PySem PySem.Spec PyProof.Rows L2 Evl RZ
def tp (rs : HH.Row) (k : Nat) : Int := tsum (rs.take k)
section
variable {K : PySem.W.Frag} {σ : L2.St} {H H' : Hp} {ta tb te : TE} {x y v : V} {t : TT}
theorem ev_sumL {ns : List Int} (h : EvL te σ H (ns.map V.int)) : Ev (tCB (rSum K) (tCons te tNil)) σ H (.int ns.sum) := fun H1 e Q q => h H1 e _ fun p H2 hp e2 h2 => ⟨p, ns, rfl, sq_of h2, q H2 e2⟩
end
section
variable {X : Cx}
end
end HH
set_option maxHeartbeats 4000000
namespace HH
open PySem PySem.Spec PyProof.Rows L2 Evl RZ
structure ListsF (H0 H : Hp) (us : List V) (ll : List (List Nat)) : Prop where
  len : us.length = ll.length
  at' : ∀ (i : Nat) (l : List Nat), ll[i]? = some l → ∃ p, us[i]? = some (.ref p) ∧ H0 p = none ∧ H p = some (.lst (natsV l))
theorem ListsF.nil {H0 H : Hp} : ListsF H0 H [] [] := ⟨rfl, fun i l h => by cases h⟩
theorem ListsF.ex {H0 H H' : Hp} {us : List V} {ll : List (List Nat)} (h : ListsF H0 H us ll) (e : Ex H H') : ListsF H0 H' us ll := ⟨h.len, fun i l hl => by
  obtain ⟨p, h1, h2, h3⟩ := h.at' i l hl
  exact ⟨p, h1, h2, e _ _ h3⟩⟩
theorem ListsF.low {H00 H0 H : Hp} {us : List V} {ll : List (List Nat)} (h : ListsF H0 H us ll) (e : Ex H00 H0) : ListsF H00 H us ll := ⟨h.len, fun i l hl => by
  obtain ⟨p, h1, h2, h3⟩ := h.at' i l hl
  exact ⟨p, h1, fresh_back e h2, h3⟩⟩
theorem ListsF.mut {H0 H : Hp} {us : List V} {ll : List (List Nat)} {D : Addr} {o o' : HO} (h : ListsF H0 H us ll) (hD : H0 D = some o) : ListsF H0 (upd H D o') us ll := ⟨h.len, fun i l hl => by
  obtain ⟨p, h1, h2, h3⟩ := h.at' i l hl
  refine ⟨p, h1, h2, ?_⟩
  rw [upd_ne (Ne.symm (ne_of_none hD h2))]
  exact h3⟩
theorem ListsF.app {H0 H : Hp} {us : List V} {ll : List (List Nat)} {p : Addr} {l : List Nat} (h : ListsF H0 H us ll) (hp : H0 p = none) (hl : H p = some (.lst (natsV l))) : ListsF H0 H (us ++ [.ref p]) (ll ++ [l]) := by
  refine ⟨by rw [List.length_append, List.length_append, h.len]; rfl, fun i m hm => ?_⟩
  by_cases hi : i < ll.length
  · rw [List.getElem?_append_left hi] at hm
    rw [List.getElem?_append_left (by rw [h.len]; exact hi)]
    exact h.at' i m hm
  · rw [List.getElem?_append_right (by omega)] at hm
    rw [List.getElem?_append_right (by rw [h.len]; omega), h.len]
    match e : i - ll.length, hm with
    | 0, hm =>
      cases hm
      exact ⟨p, rfl, hp, hl⟩
    | k + 1, hm => cases hm
def nevT (rs : HH.Row) : List (List Nat) := (List.range rs.length).map fun i => nevL rs i (rs.length - i - 1)
section
variable {X : Cx}
end
section
variable {K : PySem.W.Frag} {σ : L2.St} {H : Hp} {v : V}
end
end HH
set_option maxHeartbeats 4000000
namespace HH
open PySem PySem.Spec PyProof.Rows L2 Evl RZ
def PlainT (o : Obj) : Prop := o.cls = .type "tuple" ∧ o.dict = none
def kTupF (K : PySem.W.Frag) (x : V) (H : Hp) (Q : VK) : Prop := ∃ (l : Addr) (xs : List V), x = .ref l ∧ SqL K H l xs ∧ ∀ (t : Addr) (o : Obj), PlainT o → H t = none → Q (.ref t) (upd H t (.frz o (.tup xs)))
section
variable {X : Cx}
theorem pe_tupleOfF {c : Expr} {tc : TE} {p pos : Pos} (hg : Gl X "tuple") (hm : X.mg "tuple" = none) (hc : PE X c tc) (hs : starEach [c] X.env = (false, eval c X.env) :: starEach [] X.env := by rfl) :
    PE X (.Call (.Name "tuple" p) [c] [] pos) (tThen tc (kTupF X.K)) := by
  refine ⟨fun pins st σ H Q inv h => Call_ (ld_blt inv hg hm boot_tuple (PyProof.Rows.callWith_type1 (one_arg hc inv h (fun v s1 x H1 inv1 rel ask => ?_) hs) hs))⟩
  obtain ⟨l, xs, rfl, sq, q⟩ := ask
  cases rel
  obtain ⟨vals, rv, place, few⟩ := inv1.list sq
  refine call_tuple_list place.isList (fun g keep => ?_) (by rw [List.size_toArray]; have := rv.length; omega)
  have inv2 : Inv X pins σ H1 { s1 with heap := g } := inv1.kept (t' := s1.toks) keep
  have okF : ObjOk X.prog X.w (upd H1 g.objs.size (.frz { cls := .type "tuple", data := .seq vals.toArray } (.tup xs))) (g.push { cls := .type "tuple", data := .seq vals.toArray }) g.objs.size (.frz { cls := .type "tuple", data := .seq vals.toArray } (.tup xs)) :=
    ⟨Heap.get?_push_size _ rfl, few, vals, rv, IsTup.new _ _⟩
  exact ⟨.ref g.objs.size, _, inv2.laid (t' := s1.toks) (fun b o e => Heap.get?_push_of_some _ e) (Nat.le_refl _) okF, rfl, q _ _ ⟨rfl, rfl⟩ (inv2.hok.fresh (Nat.le_refl _))⟩
def tBMF (r : V → List V → Hp → VK → Prop) (to : TE) (ta : TA) : TE := fun σ H Q => to σ H fun x H1 => (∃ (t : Addr) (o : Obj) (u : HO), x = .ref t ∧ H1 t = some (.frz o u) ∧ PlainT o) ∧ ta σ H1 fun vs H2 => r x vs H2 Q
theorem pe_bmF {rc e : Expr} {es : List Expr} {to : TE} {t : TA} {name : Str} {ap cp : Pos} {id : String} {r : V → List V → Hp → VK → Prop} (sl : Slot "tuple" name id) (hty : typeOf (.builtin id) = pure (.type "method_descriptor")) (hm : MtR X id r) (ho : PE X rc to) (ha : PA X (e :: es) t)
    (hbs : attributeBase rc name X.env (eval rc X.env) = eval rc X.env := by rfl)
    (fw : ((backTo cp (starEach (e :: es) X.env)).all (fun x => !x.1) && (backToKw cp (keywordEach [] X.env)).all (fun x => x.1.isSome) && decide ((e :: es).length + ([] : List Keyword).length + (if ([] : List Keyword).isEmpty then 0 else 1) < 30)) = true := by rfl)
    (onl : (ap.endLine == cp.line) = true := by rfl) (hs : starEach (e :: es) X.env = (false, eval e X.env) :: starEach es X.env := by rfl) (npl : (backTo cp (starEach es X.env)).any (·.1) = false := by rfl) : PE X (.Call (.Attribute rc name ap) (e :: es) [] cp) (tBMF r to t) := by
  refine ⟨fun pins st σ H Q inv h => wpAny_Call_method_late hbs fw onl rfl (thn (ho.run pins st σ H _ inv h) fun v s1 ⟨x, H1, inv1, rel, kind, ask⟩ => ?_)⟩
  obtain ⟨a, ob, u, rfl, known, isT, noD⟩ := kind
  cases rel
  have got : s1.heap.get? a = some ob := (inv1.hok a _ known).1
  have args := ha.run cp pins s1 σ H1 _ inv1 ask
  refine ⟨"tuple", id, PySem.F.plainAttrs_tuple, sl, hty, ⟨ob, got, isT⟩, fun b eb => ?_, ?_⟩
  · cases eb
    exact ⟨ob, got, noD⟩
  · rw [hs] at args ⊢
    refine Calls.callWith_builtin (by show (false || (backTo cp (starEach es X.env)).any (·.1)) = false; rw [npl]; rfl) (Calls.evalArgs_plain (thn args fun us s2 ⟨vs, H2, inv2, rels, q2⟩ => hm pins s2 σ H2 (.ref a) vs (.ref a) us Q inv2 rfl rels q2))
end
structure LastAtF (K : PySem.W.Frag) (H : Hp) (q : Addr) (L : List Cow) : Prop where
  ex : ∃ (v : V) (ot : Addr) (o : Obj), H q = some (.tup [v, .ref ot]) ∧ RowAt K H v (rowsOf L) ∧ H ot = some (.frz o (.tup (ordL L))) ∧ PlainT o
def spRowOrderF (K : PySem.W.Frag) : Sp := fun vs H Q _ => ∃ (l sa ta : Addr) (N : List Cow) (S T : List Int), vs = [.ref l, .ref sa, .ref ta] ∧ H l = some (.lst (idsV N)) ∧ H sa = some (.lst (S.map V.int)) ∧ H ta = some (.lst (T.map V.int)) ∧ Kept S T N ∧ N.length ≤ 1000 ∧ ∀ q H', Ex H H' → LastAtF K H' q N → Q (.ref q) H'
def spLastF (K : PySem.W.Frag) : Sp := fun vs H Q _ => ∃ (v : V) (rs : HH.Row), vs = [v] ∧ RowAt K H v rs ∧ rs.length ≤ 1000 ∧ (∀ b ∈ rs, 0 ≤ b.2) ∧ ∀ q H' (L : List Cow), Ex H H' → LastAtF K H' q L → Steps (tag 0 rs) L → NfR L → Q (.ref q) H'
end HH
set_option maxHeartbeats 4000000
namespace HH
open PySem PySem.Spec PyProof.Rows L2 Evl RZ
inductive StepsN : Nat → List Cow → List Cow → Prop
  | refl (L : List Cow) : StepsN 0 L L
  | head {k : Nat} {L M N : List Cow} : Step L M → StepsN k M N → StepsN (k + 1) L N
theorem StepsN.trans {a b : Nat} {L M N : List Cow} (h : StepsN a L M) (g : StepsN b M N) : StepsN (a + b) L N := by
  induction h with
  | refl => rw [Nat.zero_add]; exact g
  | head s _ ih =>
    rename_i k L M N _
    rw [show k + 1 + b = k + b + 1 by omega]
    exact .head s (ih g)
theorem StepsN.steps {a : Nat} {L M : List Cow} (h : StepsN a L M) : Steps L M := by
  induction h with
  | refl => exact .refl _
  | head s _ ih => exact .head s ih
theorem StepsN.under {a : Nat} {L M : List Cow} (pre post : List Cow) (h : StepsN a L M) : StepsN a (pre ++ L ++ post) (pre ++ M ++ post) := by
  induction h with
  | refl => exact .refl _
  | head s _ ih => exact .head (s.under pre post) ih
theorem StepsN.map {a : Nat} {L M : List Cow} (f : Nat → Nat) (h : StepsN a L M) : StepsN a (rlL f L) (rlL f M) := by
  induction h with
  | refl => exact .refl _
  | head s _ ih => exact .head (s.map f) ih
theorem StepsN.run {a : Nat} {L0 L M : List Cow} (h : StepsN a L M) : ∀ {ps : List (Int × Int)}, PRun L0 L ps → ∃ qs, PRun L0 M qs ∧ qs.length = ps.length + a := by
  induction h with
  | refl => exact fun r => ⟨_, r, rfl⟩
  | head s _ ih =>
    intro ps r
    obtain ⟨pre, post, x, y, rfl, hp, rfl⟩ := s
    obtain ⟨qs, g1, g2⟩ := ih (r.step hp)
    refine ⟨qs, g1, ?_⟩
    rw [g2, List.length_append]
    show ps.length + 1 + _ = _
    omega
theorem StepsN.tab {a : Nat} {rs : HH.Row} {L : List Cow} (ht : ∀ b ∈ rs, 0 ≤ b.2) (h : StepsN a (tag 0 rs) L) : (tab (L.map (·.1)) rs.length rs.length).length = a := by
  obtain ⟨qs, r, e⟩ := h.run (PRun.nil)
  obtain ⟨td, _, _⟩ := r.told ht
  have ids := h.steps.ids
  rw [tag_ids] at ids
  rw [← (told_tab td fun x hx => List.mem_range.mp (ids.mem_iff.mp hx)).length_eq, e]
  show 0 + a = a
  omega
theorem tag_rl (k b : Nat) : ∀ rs : HH.Row, tag (b + k) rs = rlL (b + ·) (tag k rs) := by
  intro rs
  refine List.ext_getElem? fun i => ?_
  unfold rlL
  rw [List.getElem?_map, tag_at, tag_at]
  cases rs[i]? with
  | none => rfl
  | some x =>
    show some (b + k + i, x) = some (b + (k + i), x)
    rw [Nat.add_assoc]
end HH
set_option maxHeartbeats 4000000
namespace HH
open PySem PySem.Spec PyProof.Rows L2 Evl RZ
section
variable {X : Cx}
end
def EvP (K : PySem.W.Frag) (te : TE) (σ : L2.St) (H : Hp) (ps : HH.Row) : Prop := ∀ H1, Ex H H1 → ∀ Q : VK, (∀ (q : Addr) (us : List V) (H2 : Hp), H1 q = none → Ex H1 H2 → H2 q = some (.lst us) → Beasts K H2 us ps → Q (.ref q) H2) → te σ H1 Q
section
variable {K : PySem.W.Frag} {σ : L2.St} {H H' : Hp} {ta tb tc te : TE} {x y v : V} {Q : VK}
theorem g_at {i : Nat} {x : V} {k : L2.St → Hp → Prop} (σ' : L2.St) (e : σ.set i (some x) = σ') (h : k σ' H) : gName i x σ H k := by
  show k (σ.set i (some x)) H
  rw [e]
  exact h
end
end HH
set_option maxHeartbeats 4000000
namespace HH
open PySem PySem.Spec PyProof.Rows L2 Evl RZ
abbrev RowsA (K : PySem.W.Frag) (H : Hp) : List V → List HH.Row → Prop := All2 (RowAt K H)
theorem RowsA.ex' {K : PySem.W.Frag} {H H' : Hp} {us : List V} {rr : List HH.Row} (h : RowsA K H us rr) (e : Ex H H') : RowsA K H' us rr := All2.mono (fun _ _ r => r.ex e) h
theorem RowsA.exB' {K : PySem.W.Frag} {H H' : Hp} {us : List V} {rr : List HH.Row} {q : Addr} {ys : List V} (h : RowsA K H us rr) (e : ExB q H H') (hq : H q = some (.lst ys)) : RowsA K H' us rr := All2.mono (fun _ _ r => r.exL e hq) h
theorem call_len_seqK {X : Cx} {K : PySem.W.Frag} (h : X.K = K := by rfl) : CallR X (.builtin "len") (rLenS K) := by
  subst h
  exact call_len_seq
def spRightN (c : Nat) : Sp := fun vs H Q _ => ∃ (p : Addr) (n : Nat), vs = [.ref p] ∧ Bx H p n ∧ n + c < Lim ∧ ∀ H', ExB p H H' → Bx H' p (n + c) → Q (.bl true) H'
theorem all_right {K : PySem.W.Frag} {σ : L2.St} {H : Hp} {p : Addr} {ib j m c n : Nat} {vs : List Nat} {E : XK} {Q : VK} (hp : ∀ x, ((wipe σ vs).set j (some x))[ib]? = some (some (.ref p))) (hw : ∀ x, wipe ((wipe σ vs).set j (some x)) vs = wipe σ vs) (hm : m ≤ 100) (hb : Bx H p n) (hn : n + m * c < Lim)
    (k : ∀ H', ExB p H H' → Bx H' p (n + m * c) → Q (.bl true) H') :
    tCB (rAll K) (tCons (tLc (iRng1 (tCons (tC (.int (m : Int))) tNil)) (gName j) tYes (tCall (spRightN c) [] E (tCons (tVar ib) tNil)) vs) tNil) σ H Q := by
  refine ⟨(m : Int), rfl, by omega, by omega, fun D hD => ?_⟩
  have hDp : p ≠ D := hb.ne hD
  refine lc_range (lo := 0) (n := ((m : Int)).toNat) (fun i H' => ExB p H H' ∧ Bx H' p (n + i * c) ∧ H' D = some (.lst ((List.replicate i true).map V.bl))) ⟨(ExB.refl _ _).new hD, (hb.ex (Ex.new hD)).le (by omega), upd_same⟩ (fun i H' hi q => ?_) (fun H' q => ?_)
  · obtain ⟨q1, q2, q3⟩ := q
    have hi' : i < m := by omega
    have hmul : i * c + c ≤ m * c := by
      have := Nat.mul_le_mul_right c (show i + 1 ≤ m by omega)
      rw [Nat.add_mul] at this
      omega
    refine ⟨hw _, ?_⟩
    refine t_yes ⟨.ref p, hp _, p, n + i * c, rfl, q2, by omega, fun H2 x2 b2 => ?_⟩
    have g2 := x2 _ _ (Ne.symm hDp) q3
    refine ⟨_, g2, sz_lt (by rw [List.length_map, List.length_replicate]; omega), (q1.trans x2).mut hD, ?_, ?_⟩
    · refine ((b2.mut hDp)).le ?_
      rw [Nat.add_mul]
      omega
    · rw [upd_same, List.replicate_succ', List.map_append]
      rfl
  · obtain ⟨q1, q2, q3⟩ := q
    refine ⟨D, List.replicate m true, rfl, sq_of q3, ?_⟩
    have e3 : (List.replicate m true).all id = true := by
      rw [List.all_eq_true]
      intro x hx
      rw [(List.mem_replicate.mp hx).2]
      rfl
    rw [e3]
    exact k H' q1 q2
section
variable {K : PySem.W.Frag} {σ : L2.St} {H : Hp} {ta tb tc tx : TE} {Q : VK}
end
end HH
set_option maxHeartbeats 4000000
namespace HH
open PySem PySem.Spec PyProof.Rows L2 Evl RZ
section
variable {X : Cx}
end
end HH
set_option maxHeartbeats 4000000
namespace HH
open PySem PySem.Spec PyProof.Rows L2 Evl RZ
def wF : Int → HH.Row → List Int
  | _, [] => []
  | c, x :: r => (x.1 - c) :: wF (c + x.2) r
def doR (rs : HH.Row) (d : Deed) : HH.Row := if d.1 then passR rs d.2 else fallR rs d.2
def okD (rs : HH.Row) (d : Deed) : Prop := if d.1 then d.2 < rs.length ∧ letsN rs d.2 = true else d.2 + 1 < rs.length ∧ fallsN rs d.2 = true
theorem MRun.rows {L0 L : List Cow} {ds : List Deed} (r : MRun L0 L ds) : rowsOf L = ds.foldl doR (rowsOf L0) ∧ ∀ k d, ds[k]? = some d → okD ((ds.take k).foldl doR (rowsOf L0)) d := by
  induction r with
  | nil => exact ⟨rfl, fun k d h => by cases h⟩
  | pass r hp ih =>
    rename_i pre post a b ds
    obtain ⟨i1, i2⟩ := ih
    have el : pre.length = (rowsOf pre).length := (cow_len pre).symm
    refine ⟨?_, fun k d hk => ?_⟩
    · rw [List.foldl_append, ← i1]
      show _ = passR (rowsOf (pre ++ a :: b :: post)) (pre.length + 1)
      rw [rows_mid, rows_mid, el, pass_split]
    · by_cases hlt : k < ds.length
      · rw [List.getElem?_append_left hlt] at hk
        rw [List.take_append_of_le_length (by omega)]
        exact i2 k d hk
      · rw [List.getElem?_append_right (by omega)] at hk
        have e0 : k = ds.length := by
          have := (List.getElem?_eq_some_iff.mp hk).1
          simp at this
          omega
        subst e0
        rw [Nat.sub_self] at hk
        cases hk
        rw [List.take_left, ← i1]
        refine ⟨by rw [cow_len, List.length_append, List.length_cons, List.length_cons]; omega, ?_⟩
        show letsN (rowsOf (pre ++ a :: b :: post)) (pre.length + 1) = true
        rw [rows_mid, el, lets_split]
        exact decide_eq_true hp
  | fall r hp ih =>
    rename_i pre post a b ds
    obtain ⟨i1, i2⟩ := ih
    have el : pre.length = (rowsOf pre).length := (cow_len pre).symm
    refine ⟨?_, fun k d hk => ?_⟩
    · rw [List.foldl_append, ← i1]
      show _ = fallR (rowsOf (pre ++ a :: b :: post)) pre.length
      rw [rows_mid, rows_mid, el, fall_split]
    · by_cases hlt : k < ds.length
      · rw [List.getElem?_append_left hlt] at hk
        rw [List.take_append_of_le_length (by omega)]
        exact i2 k d hk
      · rw [List.getElem?_append_right (by omega)] at hk
        have e0 : k = ds.length := by
          have := (List.getElem?_eq_some_iff.mp hk).1
          simp at this
          omega
        subst e0
        rw [Nat.sub_self] at hk
        cases hk
        rw [List.take_left, ← i1]
        refine ⟨by rw [cow_len, List.length_append, List.length_cons, List.length_cons]; omega, ?_⟩
        show fallsN (rowsOf (pre ++ a :: b :: post)) pre.length = true
        rw [rows_mid, el, falls_split]
        exact decide_eq_true hp
end HH
set_option maxHeartbeats 4000000
namespace HH
open PySem PySem.Spec PyProof.Rows L2 Evl RZ
theorem word_pass : decide (V.str (wordOf true) = V.str "pass") = true := decide_eq_true rfl
theorem word_ne : V.str (wordOf false) ≠ V.str (wordOf true) := fun z => by
  injection z with z
  revert z
  decide +kernel
theorem word_no : decide (V.str (wordOf false) = V.str "pass") = false := decide_eq_false word_ne
theorem word_fall : decide (V.str (wordOf false) = V.str "fall") = true := decide_eq_true rfl
section
variable {K : PySem.W.Frag} {σ : L2.St} {H H' : Hp} {ta tb tc te tl : TE} {x y v : V} {Q : VK} {D : Ends} {tz tu : TS} {g : TG}
def EvTp (K : PySem.W.Frag) (te : TE) (σ : L2.St) (H : Hp) (xs : List V) : Prop := ∀ H1, Ex H H1 → ∀ Q : VK, (∀ t H2, Ex H1 H2 → SqT K H2 t xs → Q (.ref t) H2) → te σ H1 Q
theorem ep_val {a : Addr} {xs : List V} (h : Ev te σ H (.ref a)) (hs : SqT K H a xs) : EvTp K te σ H xs := fun H1 e Q q => h H1 e Q fun H2 e2 => q a H2 e2 (ex_t (e.trans e2) hs)
theorem ep_cat {xs ys : List V} (ha : EvTp K ta σ H xs) (hb : EvTp K tb σ H ys) (hl : xs.length + ys.length ≤ 100000) : EvTp K (tOp (rCatA K) ta tb) σ H (xs ++ ys) := fun H1 e Q q =>
  ha H1 e _ fun a H2 e2 h1 => hb H2 (e.trans e2) _ fun b H3 e3 g1 => by
    refine ⟨a, b, xs, ys, rfl, rfl, ex_t e3 h1, g1, sz_of hl, fun z => ?_, fun _ z => ?_, fun _ _ p hp => ?_⟩
    · subst z
      exact q _ H3 (e2.trans e3) g1
    · subst z
      rw [List.append_nil] at q
      exact q _ H3 (e2.trans e3) (ex_t e3 h1)
    · exact q _ _ ((e2.trans e3).trans (Ex.new hp)) (st_of upd_same)
theorem ep_to {xs : List V} {ti : TE} {j : Nat} {i : Int} (h : EvTp K te σ H xs) (hi : Ev ti σ H (.int i)) (hj : i = (j : Int)) : EvTp K (tSl (rSlA K) te tNoPart (tPart ti)) σ H (xs.take j) := fun H1 e Q q =>
  h H1 e _ fun a H2 e2 hv => hi H2 (e.trans e2) _ fun H3 e3 => by
    subst hj
    refine ⟨(j : Int), rfl, a, xs, rfl, ex_t e3 hv, fun z => ?_, fun _ p hp => ?_⟩
    · have e0 := cut_all z
      rw [cut_to] at e0
      rw [e0] at q
      exact q _ H3 (e2.trans e3) (ex_t e3 hv)
    · rw [cut_to]
      exact q _ _ ((e2.trans e3).trans (Ex.new hp)) (st_of upd_same)
theorem ep_from {xs : List V} {ti : TE} {j : Nat} {i : Int} (h : EvTp K te σ H xs) (hi : Ev ti σ H (.int i)) (hj : i = (j : Int)) : EvTp K (tSl (rSlA K) te (tPart ti) tNoPart) σ H (xs.drop j) := fun H1 e Q q =>
  h H1 e _ fun a H2 e2 hv => hi H2 (e.trans e2) _ fun H3 e3 => by
    subst hj
    refine ⟨(j : Int), rfl, a, xs, rfl, ex_t e3 hv, fun z => ?_, fun _ p hp => ?_⟩
    · have e0 := cut_all z
      rw [cut_from] at e0
      rw [e0] at q
      exact q _ H3 (e2.trans e3) (ex_t e3 hv)
    · rw [cut_from]
      exact q _ _ ((e2.trans e3).trans (Ex.new hp)) (st_of upd_same)
theorem ep_two (h1 : Ev ta σ H x) (h2 : Ev tb σ H y) : EvTp K (tTup (tCons ta (tCons tb tNil))) σ H [x, y] := fun H1 e Q q =>
  h1 H1 e _ fun H2 e2 => h2 H2 (e.trans e2) _ fun H3 e3 => ⟨by show 2 ≤ sizeLine; decide, fun p hp => q _ _ ((e2.trans e3).trans (Ex.new hp)) (st_of upd_same)⟩
theorem q_forEv {xs : List V} {c : Addr} (h : Ev tl σ H (.ref c)) (hx : SqL K H c xs) (Pv : Nat → L2.St → Hp → Prop) (h0 : ∀ H1, Ex H H1 → Pv 0 σ H1) (hl : ∀ i σ' H', i ≤ xs.length → Pv i σ' H' → SqL K H' c xs)
    (hs : ∀ i x σ' H' T, xs[i]? = some x → Pv i σ' H' → H' T = none → g (.ref T) σ' (upd H' T (.tup [.int (i : Nat), x])) fun σ2 H2 => tu { D with nx := Pv (i + 1), ct := Pv (i + 1), bk := tz D } σ2 H2) (hd : ∀ σ' H', Pv xs.length σ' H' → tz D σ' H') : tSeq (tFor (iEnum K (tCons tl tNil)) g tu) tz D σ H :=
  h H (Ex.refl H) _ fun H1 e => ⟨c, xs, rfl, ex_l e hx, for_it (walk_enum (xs := xs)) (D := { D with nx := tz D }) Pv (h0 H1 e) hl (fun i x σ' H' H2 hi p y => by
    obtain ⟨T, u, z, rfl, nT, rfl, hu, hz⟩ := y
    cases hu
    exact hs i z σ' H' T hz p nT) hd⟩
end
theorem DeedAt.ex' {K : PySem.W.Frag} {H H' : Hp} {v : V} {d : Deed} (h : DeedAt K H v d) (e : Ex H H') : DeedAt K H' v d := by
  obtain ⟨p, h1, h2⟩ := h
  exact ⟨p, h1, ex_t e h2⟩
section
variable {K : PySem.W.Frag} {σ : L2.St} {H H' : Hp} {ta tb tc te tl : TE} {v : V} {D : Ends}
end
section
variable {K : PySem.W.Frag} {σ : L2.St} {H H' : Hp} {ta tb tc te tl : TE} {v : V} {D : Ends}
end
end HH
set_option maxHeartbeats 4000000
namespace HH
open PySem PySem.Spec PyProof.Rows L2 Evl RZ
end HH
set_option maxHeartbeats 4000000
namespace HH
open PySem PySem.Spec PyProof.Rows L2 Evl RZ
def PairT (H : Hp) (v : V) (b : Int × Int) : Prop := ∃ p, v = .ref p ∧ H p = some (.tup [.int b.1, .int b.2])
abbrev BeastsT (H : Hp) : List V → HH.Row → Prop := All2 (PairT H)
theorem PairT.ex {H H' : Hp} {v : V} {b : Int × Int} (h : PairT H v b) (e : Ex H H') : PairT H' v b := by
  obtain ⟨p, rfl, hp⟩ := h
  exact ⟨p, rfl, e _ _ hp⟩
theorem PairT.exB {H H' : Hp} {v : V} {b : Int × Int} {q : Addr} {ys : List V} (h : PairT H v b) (e : ExB q H H') (hq : H q = some (.lst ys)) : PairT H' v b := by
  obtain ⟨p, rfl, hp⟩ := h
  exact ⟨p, rfl, e _ _ (ne_of hp hq fun z => nomatch z) hp⟩
theorem BeastsT.ex' {H H' : Hp} {us : List V} {ps : HH.Row} (h : BeastsT H us ps) (e : Ex H H') : BeastsT H' us ps := All2.mono (fun _ _ r => r.ex e) h
theorem BeastsT.exB' {H H' : Hp} {us : List V} {ps : HH.Row} {q : Addr} {ys : List V} (h : BeastsT H us ps) (e : ExB q H H') (hq : H q = some (.lst ys)) : BeastsT H' us ps := All2.mono (fun _ _ r => r.exB e hq) h
theorem BeastsT.be {K : PySem.W.Frag} {H : Hp} : ∀ {us : List V} {ps : HH.Row}, BeastsT H us ps → Beasts K H us ps
  | _, _, .nil => Beasts.nil
  | _, _, .cons a b => by
    obtain ⟨p, rfl, hp⟩ := a
    exact Beasts.app (vs := [_]) (rs := [_]) (Beasts.one ⟨p, rfl, st_of hp⟩) (BeastsT.be b)
theorem BeastsT.at' {H : Hp} {us : List V} {ps : HH.Row} (h : BeastsT H us ps) {k : Nat} {x : V} (hx : us[k]? = some x) : ∃ b, ps[k]? = some b ∧ PairT H x b := h.get hx
def keyP (b : Int × Int) : List Key := [.inl b.1, .inl b.2]
theorem keyP_inj {a b : Int × Int} : keyP a = keyP b ↔ a = b := by
  unfold keyP
  constructor
  · intro h
    simp only [List.cons.injEq, Sum.inl.injEq, and_true] at h
    exact Prod.ext h.1 h.2
  · rintro rfl
    rfl
structure PairsD (kvs : List (List Key × V)) (ps : HH.Row) : Prop where
  has : ∀ b : Int × Int, (valV kvs (keyP b)).isSome = decide (b ∈ ps)
  few : kvs.length ≤ ps.length
theorem PairsD.nil : PairsD [] [] := ⟨fun b => by rw [valV_nil]; simp, Nat.le_refl _⟩
theorem PairsD.put {kvs : List (List Key × V)} {ps : HH.Row} (h : PairsD kvs ps) (b : Int × Int) (v : V) : PairsD (putK kvs (keyP b) v) (ps ++ [b]) := by
  refine ⟨fun c => ?_, ?_⟩
  · rw [valV_put]
    by_cases e : keyP c = keyP b
    · rw [if_pos e]
      have := keyP_inj.mp e
      subst this
      simp
    · rw [if_neg e, h.has c]
      have ne : c ≠ b := fun z => e (by rw [z])
      rw [decide_eq_decide, List.mem_append, List.mem_singleton]
      exact ⟨.inl, fun z => z.elim id fun z => absurd z ne⟩
  · have := length_putK kvs (keyP b) v
    rw [List.length_append]
    show _ ≤ ps.length + 1
    have := h.few
    omega
section
variable {K : PySem.W.Frag} {σ : L2.St} {H : Hp} {ta tb te : TE} {Q : VK}
def EvPT (te : TE) (σ : L2.St) (H : Hp) (ps : HH.Row) : Prop := ∀ H1, Ex H H1 → ∀ Q : VK, (∀ (q : Addr) (us : List V) (H2 : Hp), H1 q = none → Ex H1 H2 → H2 q = some (.lst us) → BeastsT H2 us ps → Q (.ref q) H2) → te σ H1 Q
theorem EvPT.ep {ps : HH.Row} (h : EvPT te σ H ps) : EvP K te σ H ps := fun H1 e1 Q q => h H1 e1 Q fun a us H2 ha e2 g2 bs => q a us H2 ha e2 g2 bs.be
end
def spTurnedT (K : PySem.W.Frag) : Sp := fun vs H Q _ => ∃ (o : Addr) (l : List Nat), vs = [.ref o] ∧ SqT K H o (natsV l) ∧ l.Nodup ∧ (∀ x, x < l.length → x ∈ l) ∧ l.length ≤ 30 ∧
  ∀ (q : Addr) (us : List V) (H' : Hp), H q = none → Ex H H' → H' q = some (.lst us) → BeastsT H' us (tab l l.length l.length) → Q (.ref q) H'
section
variable {K : PySem.W.Frag} {σ : L2.St} {H : Hp} {ta : TE} {v : V} {E : XK}
end
end HH
set_option maxHeartbeats 4000000
namespace HH
open PySem PySem.Spec PyProof.Rows L2 Evl RZ
def tabPR (p : Nat → Nat → Bool) (i m : Nat) : HH.Row := ((List.range m).filter (p i)).map fun k => ((i : Int), ((i + 1 + k : Nat) : Int))
def tabP (p : Nat → Nat → Bool) (n m : Nat) : HH.Row := (List.range m).flatMap fun i => tabPR p i (n - (i + 1))
end HH
set_option maxHeartbeats 4000000
namespace HH
open PySem PySem.Spec PyProof.Rows L2 Evl RZ
abbrev PrT := Hp → V → Int × Int → Prop
structure Stb (R : PrT) : Prop where
  ex : ∀ {H H' : Hp} {x : V} {b : Int × Int}, Ex H H' → R H x b → R H' x b
  ls : ∀ {H : Hp} {D : Addr} {xs ys : List V} {x : V} {b : Int × Int}, H D = some (.lst xs) → R H x b → R (upd H D (.lst ys)) x b
theorem Stb.all {R : PrT} (s : Stb R) {H H' : Hp} (e : Ex H H') {us : List V} {ps : HH.Row} (h : All2 (R H) us ps) : All2 (R H') us ps := All2.mono (fun _ _ r => s.ex e r) h
theorem all2_b {K : PySem.W.Frag} {H : Hp} : ∀ {us : List V} {ps : HH.Row}, All2 (BeastAt K H) us ps → Beasts K H us ps
  | _, _, .nil => Beasts.nil
  | _, _, .cons a b => Beasts.app (vs := [_]) (rs := [_]) (Beasts.one a) (all2_b b)
section
variable {K : PySem.W.Frag} {σ : L2.St} {H : Hp} {ta tb te : TE} {t : TT} {R : PrT}
end
end HH
set_option maxHeartbeats 4000000
namespace HH
open PySem PySem.Spec PyProof.Rows L2 Evl RZ
def putR (rs : HH.Row) (w : Nat) (b : Int × Int) : HH.Row := rs.take w ++ [b] ++ rs.drop (w + 1)
def fedR (rs : HH.Row) (w : Nat) (d : Int) : HH.Row := putR rs w (sS rs w + d, tS rs w)
section
variable {K : PySem.W.Frag} {σ : L2.St} {H : Hp} {ta tb te te2 : TE} {t : TT} {R : PrT} {v : V}
end
end HH
set_option maxHeartbeats 4000000
namespace HH
open PySem PySem.Spec PyProof.Rows L2 Evl RZ
section
variable {K : PySem.W.Frag} {σ : L2.St} {H : Hp} {v : V}
end
end HH
set_option maxHeartbeats 4000000
namespace HH
open PySem PySem.Spec PyProof.Rows L2 Evl RZ
def aheadP (rs : HH.Row) (w j : Nat) : Bool := if j < w then !decide (barN rs j (w - j - 1) < sS rs w) else if w < j then decide (barN rs w (j - w - 1) < sS rs j) else false
def placeN (rs : HH.Row) (w : Nat) : Nat := (List.range rs.length).countP (aheadP rs w)
structure LeastF (rs : HH.Row) (w k : Nat) (F : Int) : Prop where
  nn : 0 ≤ F
  at' : placeN (fedR rs w F) w ≤ k
  no : ∀ f, 0 ≤ f → f < F → k < placeN (fedR rs w f) w
theorem LeastF.one {rs : HH.Row} {w k : Nat} {F G : Int} (a : LeastF rs w k F) (b : LeastF rs w k G) : F = G := by
  rcases Int.lt_trichotomy F G with h | h | h
  · have := b.no F a.nn h
    have := a.at'
    omega
  · exact h
  · have := a.no G b.nn h
    have := b.at'
    omega
end HH
set_option maxHeartbeats 4000000
namespace HH
open PySem PySem.Spec PyProof.Rows L2 Evl RZ
def CowAt (H : Hp) (v : V) (c : Cow) : Prop := ∃ p, v = .ref p ∧ H p = some (.tup [.int (c.1 : Int), .int c.2.1, .int c.2.2])
theorem CowAt.ex {H H' : Hp} {v : V} {c : Cow} (h : CowAt H v c) (e : Ex H H') : CowAt H' v c := by
  obtain ⟨p, rfl, hp⟩ := h
  exact ⟨p, rfl, e _ _ hp⟩
theorem CowAt.ls {H : Hp} {v : V} {c : Cow} {D : Addr} {xs ys : List V} (h : CowAt H v c) (hD : H D = some (.lst xs)) : CowAt (upd H D (.lst ys)) v c := by
  obtain ⟨p, rfl, hp⟩ := h
  refine ⟨p, rfl, ?_⟩
  rw [upd_ne (ne_of hp hD fun z => nomatch z)]
  exact hp
theorem All2.split {α : Type} {R : V → α → Prop} : ∀ {A B : List α} {us : List V}, All2 R us (A ++ B) → ∃ u1 u2, us = u1 ++ u2 ∧ All2 R u1 A ∧ All2 R u2 B
  | [], B, us, h => ⟨[], us, rfl, .nil, h⟩
  | a :: A, B, _, .cons r h => by
    obtain ⟨u1, u2, rfl, h1, h2⟩ := All2.split (A := A) h
    exact ⟨_ :: u1, u2, rfl, .cons r h1, h2⟩
section
variable {K : PySem.W.Frag} {σ : L2.St} {H : Hp} {tl : TE} {D : Ends} {tz tu : TS} {g : TG}
end
section
variable {K : PySem.W.Frag} {σ : L2.St} {H : Hp} {te te2 : TE} {t : TT} {v : V}
end
end HH
set_option maxHeartbeats 4000000
namespace HH
open PySem PySem.Spec PyProof.Rows L2 Evl RZ
theorem EndAt.ne {K : PySem.W.Frag} {H H' : Hp} {p q ot lp : Addr} {v' : V} {pvs : List V} {L : List Cow} {ps : HH.Row} {n : Nat} (E : EndAt K H H' p q v' ot lp pvs L ps n) : lp ≠ p := fun z => by
  have a := E.lst
  have c := E.prs
  obtain ⟨x, y, z', e, _⟩ := E.bx
  rw [z, e] at a
  cases a
  match ps, c with
  | [], c => exact absurd c.1 (by simp)
  | b0 :: _, c =>
    obtain ⟨u, hu, pp, rfl, _⟩ := c.2 0 b0 rfl
    cases hu
end HH
set_option maxHeartbeats 4000000
namespace HH
open PySem PySem.Spec PyProof.Rows L2 Evl RZ
section
variable {K : PySem.W.Frag} {σ : L2.St} {H : Hp} {ta : TE} {E : XK} {v : V}
end
end HH
set_option maxHeartbeats 4000000
namespace HH
open PySem PySem.Spec PyProof.Rows L2 Evl RZ
end HH
set_option maxHeartbeats 4000000
namespace HH
open PySem PySem.Spec PyProof.Rows L2 Evl RZ
def Lk (a e : HH.Row) : Prop := ∃ M, Steps (tag 0 a) M ∧ rowsOf M = e
theorem Lk.rfl' (a : HH.Row) : Lk a a := ⟨tag 0 a, .refl _, tag_snd 0 a⟩
theorem Lk.trans {a b c : HH.Row} (h : Lk a b) (g : Lk b c) : Lk a c := by
  obtain ⟨M, s, rfl⟩ := h
  obtain ⟨N, t, rfl⟩ := g
  have t' := t.map (HH.ixN (M.map (·.1)))
  rw [rl_tag] at t'
  exact ⟨_, s.trans t', rl_rows _ _⟩
theorem rowsOf_app (L M : List Cow) : rowsOf (L ++ M) = rowsOf L ++ rowsOf M := List.map_append
theorem Lk.under {a e : HH.Row} (p q : HH.Row) (h : Lk a e) : Lk (p ++ a ++ q) (p ++ e ++ q) := by
  obtain ⟨M, s, rfl⟩ := h
  have s1 := (s.map (p.length + ·)).under (tag 0 p) (tag (p.length + a.length) q)
  rw [← tag_rl 0 p.length, Nat.add_zero] at s1
  refine ⟨tag 0 p ++ rlL (p.length + ·) M ++ tag (p.length + a.length) q, ?_, ?_⟩
  · rw [tag_app, tag_app, Nat.zero_add, Nat.zero_add, List.length_append]
    exact s1
  · rw [rowsOf_app, rowsOf_app, rl_rows, show rowsOf (tag 0 p) = p from tag_snd 0 p, show rowsOf (tag (p.length + a.length) q) = q from tag_snd _ q]
theorem Lk.app {a e b f : HH.Row} (h : Lk a e) (g : Lk b f) : Lk (a ++ b) (e ++ f) := by
  have h1 := h.under [] b
  have g1 := g.under e []
  rw [List.nil_append, List.nil_append] at h1
  rw [List.append_nil, List.append_nil] at g1
  exact h1.trans g1
theorem Lk.tl {a e : HH.Row} (h : Lk a e) (ht : ∀ b ∈ a, 0 ≤ b.2) : ∀ b ∈ e, 0 ≤ b.2 := by
  obtain ⟨M, s, rfl⟩ := h
  exact tolls_rows (s.tl (good_tag ht).tl)
def EndR (a e : HH.Row) : Prop := ∃ L, Steps (tag 0 a) L ∧ Nf L ∧ rowsOf L = e
theorem EndR.lk {a e : HH.Row} (h : EndR a e) : Lk a e := by
  obtain ⟨L, s, _, r⟩ := h
  exact ⟨L, s, r⟩
theorem EndR.one {a e f : HH.Row} (ht : ∀ b ∈ a, 0 ≤ b.2) (h : EndR a e) (g : EndR a f) : e = f := by
  obtain ⟨L, s, n, rfl⟩ := h
  obtain ⟨M, t, m, rfl⟩ := g
  rw [nf_any (good_tag ht).tl s n t m]
theorem EndR.is {a : HH.Row} (ht : ∀ b ∈ a, 0 ≤ b.2) : ∃ e, EndR a e := by
  obtain ⟨N, s, n⟩ := nf_is (good_tag ht).tl
  exact ⟨_, N, s, n, rfl⟩
theorem EndR.back {a b e : HH.Row} (h : Lk a b) (g : EndR b e) : EndR a e := by
  obtain ⟨M, s, rfl⟩ := h
  obtain ⟨N, t, n, rfl⟩ := g
  have t' := t.map (HH.ixN (M.map (·.1)))
  rw [rl_tag] at t'
  exact ⟨_, s.trans t', nf_map n, rl_rows _ _⟩
def Jn (a b : HH.Row) : Prop := ∃ e, Lk a e ∧ Lk b e
theorem Jn.same (a : HH.Row) : Jn a a := ⟨a, Lk.rfl' a, Lk.rfl' a⟩
theorem Jn.to {a e : HH.Row} (h : Lk a e) : Jn a e := ⟨e, h, Lk.rfl' e⟩
theorem Jn.of {a e : HH.Row} (h : Lk e a) : Jn a e := ⟨a, Lk.rfl' a, h⟩
theorem Jn.app {a b c d : HH.Row} (h : Jn a b) (g : Jn c d) : Jn (a ++ c) (b ++ d) := by
  obtain ⟨e, h1, h2⟩ := h
  obtain ⟨f, g1, g2⟩ := g
  exact ⟨e ++ f, h1.app g1, h2.app g2⟩
inductive Jns : List HH.Row → List HH.Row → Prop
  | nil : Jns [] []
  | cons {a b : HH.Row} {rr ss : List HH.Row} : Jn a b → Jns rr ss → Jns (a :: rr) (b :: ss)
theorem Jns.len {rr ss : List HH.Row} (h : Jns rr ss) : rr.length = ss.length := by
  induction h with
  | nil => rfl
  | cons _ _ ih => rw [List.length_cons, List.length_cons, ih]
theorem Jns.of : ∀ {rr ss : List HH.Row}, rr.length = ss.length → (∀ (i : Nat) (a b : HH.Row), rr[i]? = some a → ss[i]? = some b → Jn a b) → Jns rr ss
  | [], [], _, _ => .nil
  | a :: rr, b :: ss, hl, h => .cons (h 0 a b rfl rfl) (Jns.of (by simpa using hl) fun i x y hx hy => h (i + 1) x y hx hy)
theorem Jn.flat : ∀ {rr ss : List HH.Row}, Jns rr ss → Jn rr.flatten ss.flatten
  | _, _, .nil => Jn.same []
  | _, _, .cons h t => by
    rw [List.flatten_cons, List.flatten_cons]
    exact h.app (Jn.flat t)
theorem Jn.ends {a b x y : HH.Row} (ht : ∀ c ∈ a, 0 ≤ c.2) (hu : ∀ c ∈ b, 0 ≤ c.2) (h : Jn a b) (hx : EndR a x) (hy : EndR b y) : y = x := by
  obtain ⟨e, h1, h2⟩ := h
  obtain ⟨z, hz⟩ := EndR.is (h1.tl ht)
  rw [EndR.one ht hx (hz.back h1), EndR.one hu hy (hz.back h2)]
def JnC (L M : List Cow) : Prop := ∃ N, Steps L N ∧ Steps M N
end HH
set_option maxHeartbeats 4000000
namespace HH
open PySem PySem.Spec PyProof.Rows L2 Evl RZ
structure Moved (K : PySem.W.Frag) (H : Hp) (q : Addr) (rs : HH.Row) (L : List Cow) : Prop where
  at_ : LastAt K H q L
  jn : JnC (tag 0 rs) L
  ids : (L.map (·.1)).Perm (List.range rs.length)
  tl : ∀ x ∈ L, 0 ≤ x.2.2
theorem Moved.ex {K : PySem.W.Frag} {H H' : Hp} {q : Addr} {rs : HH.Row} {L : List Cow} (h : Moved K H q rs L) (e : Ex H H') : Moved K H' q rs L := ⟨h.at_.mono e, h.jn, h.ids, h.tl⟩
end HH
set_option maxHeartbeats 4000000
namespace HH
open PySem PySem.Spec PyProof.Rows L2 Evl RZ
end HH
set_option maxHeartbeats 4000000
namespace HH
open PySem PySem.Spec PyProof.Rows L2 Evl RZ
theorem any_ints {ns : List Int} {n : Int} : ((ns.map PyData.int).any fun z => PyData.eqv z (.int n)) = decide (n ∈ ns) := by
  have e : ∀ a : Int, PyData.eqv (.int a) (.int n) = decide (a = n) := fun a => by
    simp [PyData.eqv]
    rfl
  rw [Bool.eq_iff_iff, List.any_eq_true, decide_eq_true_iff]
  constructor
  · rintro ⟨z, hz, h⟩
    obtain ⟨c, hc, rfl⟩ := List.mem_map.mp hz
    rw [e] at h
    rw [← of_decide_eq_true h]
    exact hc
  · intro h
    exact ⟨.int n, List.mem_map_of_mem h, by rw [e]; exact decide_eq_true rfl⟩
section
variable {K : PySem.W.Frag} {σ : L2.St} {H H' : Hp} {ta tb te : TE} {v : V}
end
structure TabAt (K : PySem.W.Frag) (H : Hp) (t : Addr) (ll : List (List Nat)) : Prop where
  ex : ∃ (us : List V), SqL K H t us ∧ us.length = ll.length ∧ ∀ (i : Nat) (l : List Nat), ll[i]? = some l → ∃ p, us[i]? = some (.ref p) ∧ SqL K H p (natsV l)
theorem TabAt.mono {K : PySem.W.Frag} {H H' : Hp} {t : Addr} {ll : List (List Nat)} (h : TabAt K H t ll) (e : Ex H H') : TabAt K H' t ll := by
  obtain ⟨us, h1, h2, h3⟩ := h.ex
  exact ⟨us, ex_l e h1, h2, fun i l hl => by
    obtain ⟨p, g1, g2⟩ := h3 i l hl
    exact ⟨p, g1, ex_l e g2⟩⟩
theorem TabAt.of {K : PySem.W.Frag} {H0 H : Hp} {t : Addr} {us : List V} {ll : List (List Nat)} (h : SqL K H t us) (f : ListsF H0 H us ll) : TabAt K H t ll := ⟨us, h, f.len, fun i l hl => by
  obtain ⟨p, g1, _, g3⟩ := f.at' i l hl
  exact ⟨p, g1, sq_of g3⟩⟩
section
variable {K : PySem.W.Frag} {σ : L2.St} {H H' : Hp} {ta tb te : TE} {v : V}
theorem TabAt.row {t : Addr} {ll : List (List Nat)} {i : Nat} {l : List Nat} (h : TabAt K H t ll) (hl : ll[i]? = some l) (h1 : Ev ta σ H (.ref t)) (h2 : Ev tb σ H (.int (i : Int))) : ∃ p, Ev (tOp (rIxL K) ta tb) σ H (.ref p) ∧ SqL K H p (natsV l) := by
  obtain ⟨us, g1, g2, g3⟩ := h.ex
  obtain ⟨p, q1, q2⟩ := g3 i l hl
  exact ⟨p, ev_op h1 h2 (rv_ixL (K := K) g1 (atI_nat q1)), q2⟩
end
end HH
set_option maxHeartbeats 4000000
namespace HH
open PySem PySem.Spec PyProof.Rows L2 Evl RZ
def clsB : Stmt → List Stmt
  | .ClassDef (body := l) .. => l
  | _ => []
structure HasX (P : Program) (w : World) (K : PySem.W.Frag) (mg : Str → Option Value) (base : Heap) (k : Nat) (x : Str) (ps : List Str) (sp : Sp) (f : Addr) (fd : FuncData) : Prop where
  G : FnOk P w K mg base (L2.CX P w) k f fd ps sp
  g : mg x = some (.ref f)
  kp : PySem.W.keepIn K (.ref f) = true
  b : Binds K fd ps []
structure HasE (P : Program) (w : World) (K : PySem.W.Frag) (mg : Str → Option Value) (base : Heap) (bk : Bk) (x f : Str) (C fI : Addr) (fd : FuncData) : Prop where
  T : ExcTy K bk f C fI
  F : FnOk P w K mg base CX0 1 fI fd ["self", f] (spIni C f)
  b : Binds K fd ["self", f] []
  g : mg x = some (.ref C)
theorem Has.imp {P : Program} {w : World} {K : PySem.W.Frag} {mg : Str → Option Value} {base : Heap} {k : Nat} {x : Str} {ps : List Str} {sp sp' : Sp} {f : Addr} {fd : FuncData} (h : Has P w K mg base k x ps sp f fd) (i : ∀ vs H Q E, sp' vs H Q E → sp vs H Q E) : Has P w K mg base k x ps sp' f fd := ⟨h.G.imp i, h.g, h.kp, h.b⟩
def letsZ (rs : Row) (p : Int) : Bool := decide (1 ≤ p ∧ p < (rs.length : Int)) && letsN rs p.toNat
def fallsZ (rs : Row) (p : Int) : Bool := decide (0 ≤ p ∧ p + 1 < (rs.length : Int)) && fallsN rs p.toNat
theorem letsZ_nat {rs : Row} {p : Nat} (h : p < rs.length) : letsZ rs (p : Int) = letsN rs p := by
  unfold letsZ
  rw [Int.toNat_natCast]
  by_cases h0 : 1 ≤ p
  · rw [decide_eq_true (by omega), Bool.true_and]
  · rw [decide_eq_false (by omega), Bool.false_and]
    unfold letsN
    rw [decide_eq_false (by omega), Bool.false_and]
theorem letsZ_at {rs : Row} {p : Int} (h : letsZ rs p = true) : ∃ j : Nat, p = (j : Int) ∧ 0 < j ∧ j < rs.length ∧ letsN rs j = true := by
  unfold letsZ at h
  obtain ⟨h1, h2⟩ := Bool.and_eq_true_iff.mp h
  have := of_decide_eq_true h1
  exact ⟨p.toNat, by omega, by omega, by omega, h2⟩
theorem fallsZ_nat {rs : Row} {p : Nat} : fallsZ rs (p : Int) = (decide (p + 1 < rs.length) && fallsN rs p) := by
  unfold fallsZ
  rw [Int.toNat_natCast]
  by_cases h0 : p + 1 < rs.length
  · rw [decide_eq_true (by omega), decide_eq_true h0]
  · rw [decide_eq_false (by omega), decide_eq_false h0]
theorem fallsZ_at {rs : Row} {p : Int} (h : fallsZ rs p = true) : ∃ j : Nat, p = (j : Int) ∧ j + 1 < rs.length ∧ fallsN rs j = true := by
  unfold fallsZ at h
  obtain ⟨h1, h2⟩ := Bool.and_eq_true_iff.mp h
  have := of_decide_eq_true h1
  exact ⟨p.toNat, by omega, by omega, h2⟩
def spCanPassZ (K : PySem.W.Frag) : Sp := fun vs H Q _ => ∃ (v : V) (rs : Row) (p : Int), vs = [v, .int p] ∧ RowAt K H v rs ∧ ∀ H', Ex H H' → Q (.bl (letsZ rs p)) H'
def spCanFallZ (K : PySem.W.Frag) : Sp := fun vs H Q _ => ∃ (v : V) (rs : Row) (p : Int), vs = [v, .int p] ∧ RowAt K H v rs ∧ ∀ H', Ex H H' → Q (.bl (fallsZ rs p)) H'
theorem sv_canZ {K : PySem.W.Frag} {v : V} {rs : Row} {p : Int} {H : Hp} (hv : RowAt K H v rs) : SpV (spCanPassZ K) [v, .int p] H (.bl (letsZ rs p)) := fun H1 e Q q E => ⟨v, rs, p, rfl, hv.ex e, q⟩
theorem sv_canFZ {K : PySem.W.Frag} {v : V} {rs : Row} {p : Int} {H : Hp} (hv : RowAt K H v rs) : SpV (spCanFallZ K) [v, .int p] H (.bl (fallsZ rs p)) := fun H1 e Q q E => ⟨v, rs, p, rfl, hv.ex e, q⟩
def spDoX (K : PySem.W.Frag) (may : Row → Int → Bool) (g : Row → Nat → Row) (C : Addr) : Sp := fun vs H Q E => ∃ (v : V) (rs : Row) (p : Int), vs = [v, .int p] ∧ RowAt K H v rs ∧ rs.length ≤ 1000 ∧ (may rs p = true → ∀ v' H', Ex H H' → RowAt K H' v' (g rs p.toNat) → Q v' H') ∧
  (may rs p = false → ∀ d H', Ex H H' → H' d = none → E (.ref C) (some d) (upd H' d (.xd [(("place" : Str), .int p)])))
section
variable {K : PySem.W.Frag} {σ : L2.St} {H : Hp} {ta : TA} {te : TE} {C a d : Addr} {fs : List (Str × V)}
end
end HH
set_option maxHeartbeats 4000000
namespace PySem
namespace HandSPX
section
variable {prog : Program} {w : World} {A : Around} {E : Value → Shared → Prop} {R : Result → Shared → Prop} {h : Heap} {g : Array GenState} {d : Drawn} {t : Nat} {os : OsState} {M : Model}
variable {nm q : Str} {C N : Addr} {bs bm bmB : List Value} {hdct : Bool} {sn : List Str} {sub : List Value} {ab : Bool} {col : Option Bool} {dd : Option Addr} {k0 k1 k2 k3 k5 : Option Value} {B newId initId : String} {kn : Str} {kv : Value}
end
end HandSPX
end PySem
set_option maxHeartbeats 4000000
namespace HH
open PySem PySem.Spec PyProof.Rows L2 Evl RZ
section
variable {X : Cx} {C fI : Addr} {f : Str} {b : Bk}
def XIn (H : Hp) (a d C : Addr) (f : Str) (v : V) : Prop := H a = some (exo a C (some d)) ∧ H d = some (exd d [(f, v)])
theorem XIn.ex {H H' : Hp} {a d C : Addr} {v : V} (h : XIn H a d C f v) (e : Ex H H') : XIn H' a d C f v := ⟨e _ _ h.1, e _ _ h.2⟩
end
section
variable {K : PySem.W.Frag} {σ : L2.St} {H : Hp} {te : TE} {ta : TA} {C fI : Addr} {f : Str} {b : Bk}
end
end HH
set_option maxHeartbeats 4000000
namespace HH
open PySem PySem.Spec PyProof.Rows L2 Evl RZ
end HH
set_option maxHeartbeats 4000000
namespace HH
open PySem PySem.Spec PyProof.Rows L2 Evl RZ
end HH
set_option maxHeartbeats 4000000
namespace HH
open PySem PySem.Spec PyProof.Rows L2 Evl RZ
def Shw (n : Nat) (d : PyData) : Prop := d.showable = true ∧ d.shown.length ≤ n
theorem Shw.le {n m : Nat} {d : PyData} (h : Shw n d) (e : n ≤ m) : Shw m d := ⟨h.1, Nat.le_trans h.2 e⟩
end HH
set_option maxHeartbeats 4000000
namespace HH
open PySem PySem.Spec PyProof.Rows L2 Evl
def ZipA (H : Hp) (us : List V) (ps : List (V × V)) : Prop := All2 (fun u p => ∃ T, u = .ref T ∧ H T = some (.tup [p.1, p.2])) us ps
theorem ZipA.ex {H H' : Hp} {us : List V} {ps : List (V × V)} (h : ZipA H us ps) (e : Ex H H') : ZipA H' us ps := All2.mono (fun _ _ ⟨T, a, b⟩ => ⟨T, a, e _ _ b⟩) h
theorem ZipA.put {H : Hp} {q : Addr} {xs ys : List V} {us : List V} {ps : List (V × V)} (h : ZipA H us ps) (hq : H q = some (.lst xs)) : ZipA (upd H q (.lst ys)) us ps := All2.mono (fun _ _ ⟨T, a, b⟩ => ⟨T, a, by
  rw [upd_ne (fun z => by rw [z, hq] at b; cases b)]
  exact b⟩) h
def ZS (h : Heap) (H : Hp) (z TI TO i1 i2 a b : Addr) (i : Nat) : Prop := IsPair h TI (.ref i1) (.ref i2) ∧ h.IsListIter i1 a i ∧ h.IsListIter i2 b i ∧
  ((IsZip h z TI TO .none ∧ ∃ x y, IsPair h TO x y) ∨ ∃ (T : Addr) (f : Bool) (p q : V), IsZipHeld h z TI TO T f ∧ H T = some (.tup [p, q]) ∧ ∃ o, h.get? TO = some o)
section
variable {X : Cx} {pins : List (Addr × Obj)} {σ : L2.St} {H H0 : Hp} {s : Shared} {z TI TO i1 i2 a b q : Addr} {xs ys : List V} {A A1 : Around} {E : Value → Shared → Prop}
abbrev FpL (X : Cx) (pins : List (Addr × Obj)) (H : Hp) (l : List Addr) : Prop := ∀ c ∈ l, FpOk X pins H c
theorem FpL.up {l : List Addr} {T : Addr} {o : HO} (h : FpL X pins H l) (ne : ∀ c ∈ l, c ≠ T) : FpL X pins (upd H T o) l := fun c hc => by
  obtain ⟨f0, f1⟩ := h c hc
  exact ⟨by rw [upd_ne (ne c hc)]; exact f0, f1⟩
theorem ZS.type {i : Nat} (h : ZS s.heap H z TI TO i1 i2 a b i) : s.TypeIs (.ref z) "zip" := by
  obtain ⟨_, _, _, h | h⟩ := h
  · exact ⟨_, h.1, rfl⟩
  · obtain ⟨_, _, _, _, h, _⟩ := h
    exact ⟨_, h, rfl⟩
theorem ZS.keep {h h' : Heap} {H' : Hp} {i : Nat} (st : ZS h H z TI TO i1 i2 a b i) (k : ∀ c ∈ [z, TI, TO, i1, i2], ∀ o, h.get? c = some o → h'.get? c = some o) (kH : ∀ T p q, H T = some (.tup [p, q]) → H' T = some (.tup [p, q])) : ZS h' H' z TI TO i1 i2 a b i := by
  obtain ⟨t, a1, a2, g⟩ := st
  refine ⟨k TI (by simp) _ t, a1.at fun o e => k i1 (by simp) o e, a2.at fun o e => k i2 (by simp) o e, ?_⟩
  rcases g with ⟨g1, x, y, g2⟩ | ⟨T, f, p, q, g1, g2, o, g3⟩
  · exact .inl ⟨k z (by simp) _ g1, x, y, k TO (by simp) _ g2⟩
  · exact .inr ⟨T, f, p, q, k z (by simp) _ g1, kH _ _ _ g2, o, k TO (by simp) _ g3⟩
theorem ZS.put {its its' : List Value} {n i : Nat} {us vs : List V} {f : Array Value → Array Value} (hf : FpL X pins H [z, TI, TO, i1, i2]) (hq : H q = some (.lst us)) (st : ZS s.heap H z TI TO i1 i2 a b i) :
    ZS (s.heap.update q (Obj.mapSeq f)) (upd H q (.lst vs)) z TI TO i1 i2 a b i :=
  st.keep (fun c hc o e => (Heap.get?_update_other s.heap (Obj.mapSeq f) (fun w => by
    have := (hf c hc).1
    rw [← w, hq] at this
    cases this)).trans e) (fun T p r hT => by
      rw [upd_ne (fun w => by rw [w, hq] at hT; cases hT)]
      exact hT)
theorem FpL.put {us vs : List V} (hf : FpL X pins H [z, TI, TO, i1, i2]) (hq : H q = some (.lst us)) : FpL X pins (upd H q (.lst vs)) [z, TI, TO, i1, i2] := hf.up fun c hc w => by
  have := (hf c hc).1
  rw [w, hq] at this
  cases this
end
end HH
set_option maxHeartbeats 4000000
namespace HH
open PySem PySem.Spec PyProof.Rows L2 Evl
theorem sum_snoc (xs : List Int) (x : Int) : (xs ++ [x]).sum = xs.sum + x := by
  induction xs with
  | nil => rw [List.nil_append, List.sum_cons, List.sum_nil]; omega
  | cons y r ih => rw [List.cons_append, List.sum_cons, List.sum_cons, ih]; omega
structure Went (K : PySem.W.Frag) (H : Hp) (v : V) (o : Addr) (rs : HH.Row) (L : List Cow) : Prop where
  row : RowAt K H v rs
  len : rs.length ≤ 30
  tl : ∀ b ∈ rs, 0 ≤ b.2
  ord : SqT K H o (natsV (L.map (·.1)))
  run : ∃ ds, MRun (tag 0 rs) L ds
theorem Went.ex {K : PySem.W.Frag} {H H' : Hp} {v : V} {o : Addr} {rs : HH.Row} {L : List Cow} (h : Went K H v o rs L) (e : Ex H H') : Went K H' v o rs L := ⟨h.row.ex e, h.len, h.tl, ex_t e h.ord, h.run⟩
theorem run_ids {rs : HH.Row} {L : List Cow} {ds : List Deed} (tl : ∀ b ∈ rs, 0 ≤ b.2) (r : MRun (tag 0 rs) L ds) : (L.map (·.1)).Perm (List.range rs.length) := by
  obtain ⟨E, sE, nE⟩ := nf_is (good_tag tl).tl
  obtain ⟨B, sB, nB⟩ := ff_is (good_tag tl).tl
  exact ((r.both (good_tag tl).tl sE nE sB nB).2.1).ids.symm.trans sE.idsT
theorem Went.ids {K : PySem.W.Frag} {H : Hp} {v : V} {o : Addr} {rs : HH.Row} {L : List Cow} (h : Went K H v o rs L) : (L.map (·.1)).Perm (List.range rs.length) := by
  obtain ⟨ds, r⟩ := h.run
  exact run_ids h.tl r
theorem Went.nd {K : PySem.W.Frag} {H : Hp} {v : V} {o : Addr} {rs : HH.Row} {L : List Cow} (h : Went K H v o rs L) : (L.map (·.1)).Nodup := h.ids.nodup_iff.mpr List.nodup_range
theorem Went.lenL {K : PySem.W.Frag} {H : Hp} {v : V} {o : Addr} {rs : HH.Row} {L : List Cow} (h : Went K H v o rs L) : (L.map (·.1)).length = rs.length := by rw [h.ids.length_eq, List.length_range]
theorem Went.all {K : PySem.W.Frag} {H : Hp} {v : V} {o : Addr} {rs : HH.Row} {L : List Cow} (h : Went K H v o rs L) (x : Nat) (hx : x < (L.map (·.1)).length) : x ∈ L.map (·.1) := h.ids.mem_iff.mpr (List.mem_range.mpr (by rw [← h.lenL]; exact hx))
end HH
set_option maxHeartbeats 4000000
namespace HH
open PySem PySem.Spec PyProof.Rows L2 Evl
section
variable {e : List Nat} {rs ps : HH.Row} {i j n : Nat}
end
end HH
set_option maxHeartbeats 4000000
namespace HH
open PySem PySem.Spec PyProof.Rows L2 Evl
structure Keeps (rs : HH.Row) (o : List Nat) : Prop where
  ids : o.Perm (List.range rs.length)
  kp : ∀ E B, Steps (tag 0 rs) E → Nf E → FSteps (tag 0 rs) B → Ff B → ∀ i j, i < j → j < rs.length → bef (E.map (·.1)) j i = false → bef (B.map (·.1)) j i = false → bef o j i = false
theorem Keeps.nd {rs : HH.Row} {o : List Nat} (k : Keeps rs o) : o.Nodup := k.ids.nodup_iff.mpr List.nodup_range
theorem Keeps.len {rs : HH.Row} {o : List Nat} (k : Keeps rs o) : o.length = rs.length := by rw [k.ids.length_eq, List.length_range]
end HH
set_option maxHeartbeats 4000000
namespace HH
open PySem PySem.Spec PyProof.Rows L2 Evl
structure CellP (H0 H : Hp) (as : List Addr) (t p : Nat → Int) : Prop where
  nd : as.Nodup
  old : ∀ a ∈ as, H0 a = none
  at' : ∀ (i : Nat) (a : Addr), as[i]? = some a → H a = some (.lst [.int (t i), .int (p i)])
theorem CellP.ex {H0 H H' : Hp} {as : List Addr} {t p : Nat → Int} (h : CellP H0 H as t p) (e : Ex H H') : CellP H0 H' as t p := ⟨h.nd, h.old, fun i a ha => e _ _ (h.at' i a ha)⟩
theorem CellP.app {H0 H : Hp} {as : List Addr} {T : Addr} (h : CellP H0 H as (fun _ => 0) (fun _ => 0)) (h0 : H0 T = none) (hT : H T = none) : CellP H0 (upd H T (.lst [.int 0, .int 0])) (as ++ [T]) (fun _ => 0) (fun _ => 0) := by
  have nT : T ∉ as := fun m => by
    obtain ⟨i, hi⟩ := List.getElem?_of_mem m
    rw [h.at' i T hi] at hT
    cases hT
  refine ⟨List.nodup_append.mpr ⟨h.nd, by simp, fun x hx y hy e => nT (by rw [List.mem_singleton] at hy; rw [← hy, ← e]; exact hx)⟩, fun a ha => ?_, fun i a ha => ?_⟩
  · rcases List.mem_append.mp ha with m | m
    · exact h.old a m
    · rw [List.mem_singleton.mp m]
      exact h0
  · by_cases c : i < as.length
    · rw [List.getElem?_append_left c] at ha
      rw [upd_ne (fun z => nT (by rw [← z]; exact List.mem_of_getElem? ha))]
      exact h.at' i a ha
    · have hlt : i < (as ++ [T]).length := (List.getElem?_eq_some_iff.mp ha).1
      rw [List.length_append] at hlt
      have hlt : i < as.length + 1 := hlt
      have e : i = as.length := by omega
      rw [e, List.getElem?_append_right (Nat.le_refl _), Nat.sub_self] at ha
      cases ha
      exact upd_same
theorem CellP.ne {H0 H : Hp} {as : List Addr} {t p : Nat → Int} (h : CellP H0 H as t p) {i k : Nat} {a c : Addr} (ha : as[i]? = some a) (hc : as[k]? = some c) (n : k ≠ i) : c ≠ a := fun z => by
  subst z
  have h1 := (List.getElem?_eq_some_iff.mp ha).1
  exact n ((List.getElem?_inj h1 h.nd).mp (ha.trans hc.symm)).symm
section
variable {K : PySem.W.Frag} {σ : L2.St} {H : Hp} {te : TE} {v : V} {Q : VK} {j : Nat} {vs : List Nat}
end
section
variable {K : PySem.W.Frag} {σ : L2.St} {H H0 : Hp} {tf tx tv : TE} {D : Ends} {fa a : Addr} {as : List Addr} {t p : Nat → Int} {i : Nat} {d : Int}
end
end HH
set_option maxHeartbeats 4000000
namespace HH
open PySem PySem.Spec PyProof.Rows L2 Evl
section
variable {e : List Nat} {rs ps : HH.Row} {i j n : Nat}
end
section
variable {K : PySem.W.Frag} {σ : L2.St} {H : Hp} {te t1 t2 : TE} {o : Addr} {l : List Nat} {j : Nat} {vs : List Nat}
end
end HH
set_option maxHeartbeats 4000000
namespace HH
open PySem PySem.Spec PyProof.Rows L2
section
variable {w : World} {P : Program} {s : Shared} {A : Around} {E : Value → Shared → Prop}
end
section
variable {X : Cx}
end
end HH
set_option maxHeartbeats 4000000
namespace HH
open PySem PySem.Spec PyProof.Rows L2 Evl RZ
noncomputable def lf (rs : HH.Row) (w k : Nat) : Int := by
  classical
  exact if h : ∃ F, LeastF rs w k F then Classical.choose h else 0
end HH
set_option maxHeartbeats 4000000
namespace HH
open PySem PySem.Spec PyProof.Rows L2 Evl RZ
structure Cells (H0 H : Hp) (as : List Addr) (ll : Nat → List Nat) : Prop where
  nd : as.Nodup
  old : ∀ a ∈ as, H0 a = none
  at' : ∀ (i : Nat) (a : Addr), as[i]? = some a → H a = some (.lst (natsV (ll i)))
theorem Cells.ex {H0 H H' : Hp} {as : List Addr} {ll : Nat → List Nat} (h : Cells H0 H as ll) (e : Ex H H') : Cells H0 H' as ll := ⟨h.nd, h.old, fun i a ha => e _ _ (h.at' i a ha)⟩
theorem Cells.congr {H0 H : Hp} {as : List Addr} {ll lm : Nat → List Nat} (h : Cells H0 H as ll) (e : ∀ i, i < as.length → lm i = ll i) : Cells H0 H as lm := ⟨h.nd, h.old, fun i a ha => by
  rw [e i (List.getElem?_eq_some_iff.mp ha).1]
  exact h.at' i a ha⟩
theorem Cells.put {H0 H : Hp} {as : List Addr} {ll lm : Nat → List Nat} {i : Nat} {a : Addr} {l : List Nat} (h : Cells H0 H as ll) (ha : as[i]? = some a) (h1 : lm i = l) (h2 : ∀ k, k ≠ i → lm k = ll k) : Cells H0 (upd H a (.lst (natsV l))) as lm := ⟨h.nd, h.old, fun k c hc => by
  by_cases z : k = i
  · subst z
    rw [ha] at hc
    cases hc
    rw [h1]
    exact upd_same
  · have ne : c ≠ a := fun e => by
      subst e
      obtain ⟨g1, g2⟩ := List.getElem?_eq_some_iff.mp hc
      exact z ((List.getElem?_inj g1 h.nd).mp (hc.trans ha.symm))
    rw [upd_ne ne, h2 k z]
    exact h.at' k c hc⟩
theorem Cells.app {H0 H : Hp} {as : List Addr} {p : Addr} (h : Cells H0 H as fun _ => []) (h0 : H0 p = none) (hp : H p = none) : Cells H0 (upd H p (.lst [])) (as ++ [p]) fun _ => [] := by
  have np : p ∉ as := fun z => by
    obtain ⟨i, hi⟩ := List.mem_iff_getElem?.mp z
    have := h.at' i p hi
    rw [hp] at this
    cases this
  refine ⟨?_, fun a ha => ?_, fun i a ha => ?_⟩
  · rw [List.nodup_append]
    exact ⟨h.nd, List.pairwise_singleton _ p, fun a ha b hb e => np (by rw [List.mem_singleton.mp hb] at e; rw [← e]; exact ha)⟩
  · rcases List.mem_append.mp ha with ha | ha
    · exact h.old a ha
    · rw [List.mem_singleton.mp ha]
      exact h0
  · by_cases hi : i < as.length
    · rw [List.getElem?_append_left hi] at ha
      have ne : a ≠ p := fun e => np (by rw [← e]; exact List.mem_of_getElem? ha)
      rw [upd_ne ne]
      exact h.at' i a ha
    · rw [List.getElem?_append_right (by omega)] at ha
      match e : i - as.length, ha with
      | 0, ha =>
        cases ha
        exact upd_same
      | k + 1, ha => cases ha
section
variable {K : PySem.W.Frag} {σ : L2.St} {H : Hp} {D : Ends} {tz tu : TS}
end
end HH
set_option maxHeartbeats 4000000
namespace HH
open PySem PySem.Spec PyProof.Rows L2 Evl RZ
structure WantsD (rs : HH.Row) (who m : Nat) (kvs : List (Key × V)) : Prop where
  val : ∀ j : Nat, who ≤ j + m → j < who → valV kvs (.inl (j : Int)) = some (.int (barN rs j (who - j - 1) + 1))
  key : ∀ kv ∈ kvs, ∃ j : Nat, kv.1 = .inl (j : Int) ∧ j < who ∧ who ≤ j + m
  len : kvs.length ≤ m
theorem WantsD.nil (rs : HH.Row) (who : Nat) : WantsD rs who 0 [] := ⟨fun j h1 h2 => by omega, (fun kv h => nomatch h), Nat.le_refl _⟩
theorem WantsD.put {rs : HH.Row} {who m : Nat} {kvs : List (Key × V)} (w : WantsD rs who m kvs) (hm : m < who) : WantsD rs who (m + 1) (putK kvs (.inl ((who - 1 - m : Nat) : Int)) (.int (barN rs (who - 1 - m) m + 1))) := by
  have no : valV kvs (.inl ((who - 1 - m : Nat) : Int)) = none := by
    cases c : valV kvs (.inl ((who - 1 - m : Nat) : Int)) with
    | none => rfl
    | some x =>
      exfalso
      have z := valV_any (Sum.inl ((who - 1 - m : Nat) : Int)) kvs
      rw [c] at z
      obtain ⟨kv, hkv, e⟩ := List.any_eq_true.mp z
      obtain ⟨j, e2, h1, h2⟩ := w.key kv hkv
      have e3 : kv.1 = .inl ((who - 1 - m : Nat) : Int) := of_decide_eq_true e
      rw [e2] at e3
      injection e3 with e3
      omega
  refine ⟨fun j h1 h2 => ?_, fun kv hkv => ?_, ?_⟩
  · rw [valV_put]
    by_cases c : j = who - 1 - m
    · rw [if_pos (by rw [c]), c, show who - (who - 1 - m) - 1 = m by omega]
    · rw [if_neg (fun z => c (by injection z with z; omega))]
      exact w.val j (by omega) h2
  · rw [putK_new _ no] at hkv
    rcases List.mem_append.mp hkv with h | h
    · obtain ⟨j, a, b, c⟩ := w.key kv h
      exact ⟨j, a, b, by omega⟩
    · rw [List.mem_singleton.mp h]
      exact ⟨who - 1 - m, rfl, by omega, by omega⟩
  · rw [putK_new _ no, List.length_append]
    have := w.len
    show kvs.length + 1 ≤ _
    omega
end HH
set_option maxHeartbeats 4000000
namespace HH
open PySem PySem.Spec PyProof.Rows L2 Evl RZ
section
variable {K : PySem.W.Frag} {σ : L2.St} {H H' : Hp} {ta tb te : TE} {v : V} {Q : VK}
theorem rv_neInts {a b : Addr} {ns : List Int} (ha : SqL K H a (ns.map V.int)) (hb : SqL K H b (ns.map V.int)) : RV (rNeD K) (.ref a) (.ref b) H (.bl false) := rv_neD (.lst ha (dp_ints ns)) (.lst hb (dp_ints ns)) (nice_list (nice_ints ns)) (by decide)
theorem el_sortedI {ns ms : List Int} (h : EvL ta σ H (ns.map V.int)) (pm : ns.Perm ms) (pw : ms.Pairwise (· ≤ ·)) : EvL (tCB (rSortedI K) (tCons ta tNil)) σ H (ms.map V.int) := fun H1 e1 Q q =>
  h H1 e1 _ fun a H2 ha e2 g2 => ⟨a, ns, rfl, sq_of g2, fun ns' p pm' srt hp => by
    rw [sorted_same (pm'.trans pm) srt pw]
    exact q p _ (fresh_back e2 hp) (e2.trans (Ex.new hp)) upd_same⟩
end
end HH
set_option maxHeartbeats 4000000
namespace HH
open PySem PySem.Spec PyProof.Rows L2 Evl RZ
section
variable {K : PySem.W.Frag} {σ : L2.St} {H : Hp} {te ta tb : TE} {t : TT}
end
end HH
namespace HH
open PySem PySem.Spec PyProof.Rows L2 Evl RZ
section
variable {K : PySem.W.Frag} {σ : L2.St} {H : Hp} {te : TE}
end
end HH
namespace HH
open PySem PySem.Spec PyProof.Rows L2 Evl RZ
end HH
namespace HH
open PySem PySem.Spec PyProof.Rows L2 Evl RZ
end HH
set_option maxHeartbeats 4000000
namespace HH
open PySem PySem.Spec PyProof.Rows L2 Evl
end HH
set_option maxHeartbeats 4000000
namespace HH
open PySem PySem.Spec PyProof.Rows Srt SrtO
def IsDeed (h : Heap) (v : Value) (b : Bool) (y : Int) : Prop := ∃ a o t u n, v = .ref a ∧ h.get? a = some o ∧ o.cls = .type "tuple" ∧ o.data = .seq #[.str (wordOf b) t, .int y u] n
theorem IsDeed.keeps {h h' : Heap} {v : Value} {b : Bool} {y : Int} (p : IsDeed h v b y) (k : ∀ b o, h.get? b = some o → o.cls = .type "tuple" → h'.get? b = some o) : IsDeed h' v b y := by
  obtain ⟨a, o, t, u, n, e, ho, hc, hd⟩ := p
  exact ⟨a, o, t, u, n, e, k _ _ ho hc, hc, hd⟩
section
variable {prog : Program} {w : World} {A : Around} {E : Value → Shared → Prop} {s : Shared}
end
open L2 Evl
open Classical in
section
variable {X : Cx}
end
end HH
set_option maxHeartbeats 4000000
namespace HH
open PySem PySem.Spec PyProof.Rows L2 Evl
end HH
set_option maxHeartbeats 4000000
namespace HH
open PySem PySem.Spec PyProof.Rows L2 Evl
def FrzT (H : Hp) (a : Addr) (xs : List V) : Prop := ∃ o, PlainT o ∧ H a = some (.frz o (.tup xs))
theorem FrzT.ex {H H' : Hp} {a : Addr} {xs : List V} (h : FrzT H a xs) (e : Ex H H') : FrzT H' a xs := by
  obtain ⟨o, h1, h2⟩ := h
  exact ⟨o, h1, e _ _ h2⟩
theorem FrzT.exB {H H' : Hp} {p a : Addr} {xs : List V} {n : Nat} (h : FrzT H a xs) (e : ExB p H H') (hb : Bx H p n) : FrzT H' a xs := by
  obtain ⟨o, h1, h2⟩ := h
  obtain ⟨l, hl⟩ := hb.lst
  refine ⟨o, h1, e _ _ (fun z => ?_) h2⟩
  rw [z, hl] at h2
  cases h2
theorem FrzT.sq {K : PySem.W.Frag} {H : Hp} {a : Addr} {xs : List V} (h : FrzT H a xs) : SqT K H a xs := by
  obtain ⟨o, _, h2⟩ := h
  exact .inl (.inr ⟨o, h2⟩)
section
variable {K : PySem.W.Frag} {σ : L2.St} {H : Hp} {te t1 t2 : TE} {tt : TT} {o : Addr} {l : List Nat} {j : Nat} {vs : List Nat}
end
section
variable {K : PySem.W.Frag} {σ : L2.St} {H : Hp} {te t1 : TE} {o : Addr} {l : List Nat} {j : Nat} {vs : List Nat}
theorem el_mapT (g : Nat → V) (ho : Ev te σ H (.ref o)) (hs : SqT K H o (natsV l)) (hl : l.length ≤ 1000) (hw : ∀ x, wipe ((wipe σ vs).set j (some x)) vs = wipe σ vs)
    (h1 : ∀ x ∈ l, ∀ H1, Ex H H1 → Ev t1 ((wipe σ vs).set j (some (.int (x : Int)))) H1 (g x)) : EvL (tLc (iTup K te) (gName j) tYes t1 vs) σ H (l.map g) := fun H0 e Q q =>
  ho H0 e _ fun H1 e1 => ⟨o, rfl, ⟨_, ex_t (e.trans e1) hs⟩, fun Dl hD => by
    refine lc_it (walk_tup (xs := natsV l)) (fun k H2 => Ex H1 H2 ∧ H2 Dl = some (.lst ((l.take k).map g))) ⟨Ex.new hD, upd_same⟩ (fun k H2 _ p => ex_t ((e.trans e1).trans p.1) hs) (fun k x H2 H3 hk p y => ?_) (fun H2 p => ?_)
    · obtain ⟨rfl, hx⟩ := y
      obtain ⟨p1, p2⟩ := p
      have hk' : k < l.length := by
        rw [natsV_len] at hk
        exact hk
      have hx' : x = .int (l[k] : Int) := by
        unfold natsV at hx
        rw [List.getElem?_map, List.getElem?_eq_getElem hk'] at hx
        exact (Option.some.inj hx).symm
      subst hx'
      have e2 := (e.trans e1).trans p1
      refine ⟨hw _, t_yes ((h1 _ (List.getElem_mem hk') H3 e2) H3 (Ex.refl H3) _ fun H4 e4 => ⟨_, e4 _ _ p2, sz_lt (by rw [List.length_map, List.length_take]; omega), Ex.mut (p1.trans e4) hD, ?_⟩)⟩
      rw [upd_same, List.take_add_one, List.getElem?_eq_getElem hk', List.map_append]
      rfl
    · obtain ⟨p1, p2⟩ := p
      rw [natsV_len, List.take_length] at p2
      exact q Dl H2 (fresh_back e1 hD) (e1.trans p1) p2⟩
end
theorem natsV_int (l : List Nat) : natsV l = (l.map fun (x : Nat) => (x : Int)).map V.int := by
  rw [List.map_map]
  rfl
end HH
set_option maxHeartbeats 4000000
namespace HH
open PySem PySem.Spec PyProof.Rows L2 Evl
def iEnumA (K : PySem.W.Frag) (ta : TA) : TI := fun σ H R => ta σ H fun vs H1 => ∃ a xs, vs = [.ref a] ∧ ((SqL K H1 a xs ∧ R (Ite K a) H1) ∨ (SqT K H1 a xs ∧ R (IteT K a) H1))
theorem pi_enumA {X : Cx} {e : Expr} {ta : TA} {p pos tpos : Pos} {elts : List Expr} {kk : Nat} (hg : Gl X "enumerate") (hm : X.mg "enumerate" = none) (ha : PA X [e] ta) (hs : starEach [e] X.env = [(false, eval e X.env)] := by rfl) :
    PI X (.Tuple elts kk tpos) (.Call (.Name "enumerate" p) [e] [] pos) (iEnumA X.K ta) := by
  refine ⟨fun pins s σ H R I h => ?_⟩
  refine Call_ (ld_blt I hg hm boot_enumerate (PyProof.Rows.callWith_type1 (thn (ha.run pos pins s σ H _ I h) fun us s1 ⟨vs, H1, I1, r1, q1⟩ => ?_) hs rfl))
  obtain ⟨a, xs, ex, q1⟩ := q1
  subst ex
  cases r1 with
  | cons r rr =>
    cases rr
    cases r
    have fp : ∀ b, b ∈ [s1.heap.objs.size + 1, s1.heap.objs.size] → FpOk X pins H1 b := fun b hb => by
      have e' : b = s1.heap.objs.size + 1 ∨ b = s1.heap.objs.size := by simpa using hb
      have hle : s1.heap.objs.size ≤ b := by
        rcases e' with z | z
        · rw [z]; exact Nat.le_add_right _ _
        · rw [z]; exact Nat.le_refl _
      exact I1.fpOk hle (I1.hok.fresh hle)
    rcases q1 with ⟨hq, q⟩ | ⟨hq, q⟩
    · obtain ⟨its, rv, p', hz⟩ := I1.list hq
      refine call_enumerate_list p'.isList fun h' he hit hsz hk => wpAny_pyIter_enum he ?_
      have I2 : Inv X pins σ H1 { s1 with heap := h' } := I1.kept (t' := s1.toks) hk
      exact ⟨s1.heap.objs.size + 1, [s1.heap.objs.size + 1, s1.heap.objs.size], _, _, H1, rfl, I2, turn_enum a (s1.heap.objs.size + 1) s1.heap.objs.size, ⟨⟨.none, he⟩, hit, Nat.succ_ne_self _⟩, fp, q⟩
    · obtain ⟨its, rv, p', hz⟩ := I1.tuple hq
      refine call_enum_tuple (show s1.heap.IsTuple a its.toArray from p') fun h' he hit hsz hk => wpAny_pyIter_enum he ?_
      have I2 : Inv X pins σ H1 { s1 with heap := h' } := I1.kept (t' := s1.toks) hk
      exact ⟨s1.heap.objs.size + 1, [s1.heap.objs.size + 1, s1.heap.objs.size], _, _, H1, rfl, I2, turn_enumT a (s1.heap.objs.size + 1) s1.heap.objs.size, ⟨⟨.none, he⟩, hit, Nat.succ_ne_self _⟩, fp, q⟩
def SqA (K : PySem.W.Frag) (H : Hp) (a : Addr) (xs : List V) : Prop := SqL K H a xs ∨ SqT K H a xs
theorem SqA.ex {K : PySem.W.Frag} {H H' : Hp} {a : Addr} {xs : List V} (h : SqA K H a xs) (e : Ex H H') : SqA K H' a xs := h.imp (ex_l e) (ex_t e)
end HH
namespace L2
open PySem PySem.Spec PyProof.Rows
structure HeldX (P : Program) (w : World) (K : PySem.W.Frag) (mg : Str → Option Value) (base : Heap) (k : Nat) (f : Addr) (sp : Sp) : Prop where
  ex : ∃ (fd : FuncData) (ps : List Str), FnOk P w K mg base (L2.CX P w) k f fd ps sp ∧ PySem.W.keepIn K (.ref f) = true ∧ Binds K fd ps []
section
variable {X : Cx} {k i : Nat} {E : L2.St → XK} {x : Str} {p pos : Pos} {e : Expr} {es : List Expr} {t : TA}
end
end L2
namespace HH
open PySem PySem.Spec PyProof.Rows L2 Evl
abbrev ZD := Bool × Int
def DeedZ (K : PySem.W.Frag) (H : Hp) (v : V) (d : ZD) : Prop := ∃ p, v = .ref p ∧ SqT K H p [.str (wordOf d.1), .int d.2]
theorem DeedZ.ex {K : PySem.W.Frag} {H H' : Hp} {v : V} {d : ZD} (h : DeedZ K H v d) (e : Ex H H') : DeedZ K H' v d := by
  obtain ⟨p, h1, h2⟩ := h
  exact ⟨p, h1, ex_t e h2⟩
abbrev DeedsZ (K : PySem.W.Frag) (H : Hp) : List V → List ZD → Prop := All2 (DeedZ K H)
theorem DeedsZ.ex' {K : PySem.W.Frag} {H H' : Hp} {us : List V} {ds : List ZD} (h : DeedsZ K H us ds) (e : Ex H H') : DeedsZ K H' us ds := All2.mono (fun _ _ r => r.ex e) h
theorem DeedsZ.exB' {K : PySem.W.Frag} {H H' : Hp} {us : List V} {ds : List ZD} {q : Addr} {ys : List V} (e : ExB q H H') (hq : H q = some (.lst ys)) (h : DeedsZ K H us ds) : DeedsZ K H' us ds := All2.mono (fun v d g => by
  obtain ⟨p, h1, h2⟩ := g
  exact ⟨p, h1, e.t hq h2⟩) h
def canZ (rs : HH.Row) (d : ZD) : Bool := if d.1 then letsZ rs d.2 else fallsZ rs d.2
def movZ (rs : HH.Row) (d : ZD) : HH.Row := if d.1 then passR rs d.2.toNat else fallR rs d.2.toNat
def atZ (d : ZD) : Nat := if d.1 then d.2.toNat - 1 else d.2.toNat
def swapL (l : List Nat) (p : Nat) : List Nat := l.take p ++ [ixN l (p + 1), ixN l p] ++ l.drop (p + 2)
abbrev StZ := HH.Row × List Nat
def ledK : StZ → List ZD → Nat → Nat ⊕ StZ
  | s, [], _ => .inr s
  | s, d :: ds, k => if canZ s.1 d = true then ledK (movZ s.1 d, swapL s.2 (atZ d)) ds (k + 1) else .inl k
theorem swapL_len {l : List Nat} {p : Nat} (h : p + 1 < l.length) : (swapL l p).length = l.length := by
  unfold swapL
  rw [List.length_append, List.length_append, List.length_take, List.length_drop]
  show min p l.length + 2 + (l.length - (p + 2)) = l.length
  omega
theorem canZ_at {rs : HH.Row} {d : ZD} (h : canZ rs d = true) : (d.1 = true ∧ ∃ j : Nat, d.2 = (j : Int) ∧ 0 < j ∧ j < rs.length ∧ letsN rs j = true) ∨ (d.1 = false ∧ ∃ j : Nat, d.2 = (j : Int) ∧ j + 1 < rs.length ∧ fallsN rs j = true) := by
  obtain ⟨b, p⟩ := d
  cases b with
  | true => exact .inl ⟨rfl, letsZ_at h⟩
  | false => exact .inr ⟨rfl, fallsZ_at h⟩
theorem mov_len {rs : HH.Row} {d : ZD} (h : canZ rs d = true) : (movZ rs d).length = rs.length ∧ atZ d + 1 < rs.length := by
  rcases canZ_at h with ⟨h1, j, h2, h3, h4, _⟩ | ⟨h1, j, h2, h3, _⟩
  · unfold movZ atZ
    rw [h1, h2, if_pos rfl, if_pos rfl, Int.toNat_natCast, passR_len h3 h4]
    omega
  · unfold movZ atZ
    rw [h1, h2, if_neg (by decide), if_neg (by decide), Int.toNat_natCast, fallR_len h3]
    omega
def spSwapO (K : PySem.W.Frag) : Sp := fun vs H Q _ => ∃ (o : Addr) (l : List Nat) (p : Nat), vs = [.ref o, .int (p : Int)] ∧ SqT K H o (natsV l) ∧ p + 1 < l.length ∧ l.length ≤ 1000 ∧ ∀ (t : Addr) (H' : Hp), Ex H H' → SqT K H' t (natsV (swapL l p)) → Q (.ref t) H'
def spCanDoZ (K : PySem.W.Frag) : Sp := fun vs H Q _ => ∃ (v : V) (rs : HH.Row) (d : ZD), vs = [v, .str (wordOf d.1), .int d.2] ∧ RowAt K H v rs ∧ RetV (.bl (canZ rs d)) H Q
def spLedX (K : PySem.W.Frag) (C : Addr) : Sp := fun vs H Q X => ∃ (v : V) (rs : HH.Row) (c : Addr) (us : List V) (ds : List ZD), vs = [v, .ref c] ∧ RowAt K H v rs ∧ rs.length ≤ 1000 ∧ SqA K H c us ∧ DeedsZ K H us ds ∧ ds.length ≤ 1000 ∧
  (∀ s, ledK (rs, List.range rs.length) ds 0 = .inr s → ∀ (q : Addr) (v' : V) (t : Addr) (H' : Hp), Ex H H' → H' q = some (.tup [v', .ref t]) → RowAt K H' v' s.1 → SqT K H' t (natsV s.2) → Q (.ref q) H') ∧
  ∀ k, ledK (rs, List.range rs.length) ds 0 = .inl k → ∀ d H', Ex H H' → H' d = none → X (.ref C) (some d) (upd H' d (.xd [(("number" : Str), .int (k : Int))]))
def Picked (K : PySem.W.Frag) (H : Hp) (pick : Bool) (v : V) (s : StZ) : Prop := if pick then RowAt K H v s.1 else ∃ t, v = .ref t ∧ SqT K H t (natsV s.2)
theorem Picked.ex {K : PySem.W.Frag} {H H' : Hp} {pick : Bool} {v : V} {s : StZ} (h : Picked K H pick v s) (e : Ex H H') : Picked K H' pick v s := by
  unfold Picked at h ⊢
  cases pick with
  | true => exact RowAt.ex h e
  | false =>
    obtain ⟨t, h1, h2⟩ := h
    exact ⟨t, h1, ex_t e h2⟩
end HH
namespace HH
open PySem PySem.Spec PyProof.Rows L2 Evl
section
variable {K : PySem.W.Frag} {σ : L2.St} {H : Hp} {te ta tb tc : TE} {D : Ends}
theorem s_enumA {H0 : Hp} {a : Addr} {xs : List V} {g : TG} {tu : TS} (h : Ev te σ H (.ref a)) (e0 : Ex H0 H) (hs : SqA K H0 a xs) (Pv : Nat → L2.St → Hp → Prop) (h0 : ∀ H1, Ex H H1 → Pv 0 σ H1) (hl : ∀ i σ' H', i ≤ xs.length → Pv i σ' H' → Ex H0 H')
    (hb : ∀ i x σ' H' T, xs[i]? = some x → Pv i σ' H' → H' T = none → g (.ref T) σ' (upd H' T (.tup [.int (i : Nat), x])) fun σ2 H2 => tu { D with nx := Pv (i + 1), ct := Pv (i + 1), bk := D.nx } σ2 H2) (hd : ∀ σ' H', Pv xs.length σ' H' → D.nx σ' H') :
    tFor (iEnumA K (tCons te tNil)) g tu D σ H := h H (Ex.refl H) _ fun H1 e1 => by
  rcases hs with hs | hs
  · exact ⟨a, xs, rfl, .inl ⟨ex_l (e0.trans e1) hs, for_it walk_enum Pv (h0 H1 e1) (fun i σ' H' hi p => ex_l (hl i σ' H' hi p) hs) (fun i x σ' H' H2 hi p y => by
      obtain ⟨T, x1, x2, rfl, hT, rfl, e1, e2⟩ := y
      cases e1
      exact hb i x2 σ' H' T e2 p hT) hd⟩⟩
  · exact ⟨a, xs, rfl, .inr ⟨ex_t (e0.trans e1) hs, for_it walk_enumT Pv (h0 H1 e1) (fun i σ' H' hi p => ex_t (hl i σ' H' hi p) hs) (fun i x σ' H' H2 hi p y => by
      obtain ⟨T, x1, x2, rfl, hT, rfl, e1, e2⟩ := y
      cases e1
      exact hb i x2 σ' H' T e2 p hT) hd⟩⟩
theorem q_enumA {H0 : Hp} {a : Addr} {xs : List V} {g : TG} {tu tz : TS} (h : Ev te σ H (.ref a)) (e0 : Ex H0 H) (hs : SqA K H0 a xs) (Pv : Nat → L2.St → Hp → Prop) (h0 : ∀ H1, Ex H H1 → Pv 0 σ H1) (hl : ∀ i σ' H', i ≤ xs.length → Pv i σ' H' → Ex H0 H')
    (hb : ∀ i x σ' H' T, xs[i]? = some x → Pv i σ' H' → H' T = none → g (.ref T) σ' (upd H' T (.tup [.int (i : Nat), x])) fun σ2 H2 => tu { D with nx := Pv (i + 1), ct := Pv (i + 1), bk := tz D } σ2 H2) (hd : ∀ σ' H', Pv xs.length σ' H' → tz D σ' H') :
    tSeq (tFor (iEnumA K (tCons te tNil)) g tu) tz D σ H := s_enumA (D := { D with nx := tz D }) h e0 hs Pv h0 hl hb hd
theorem led_drop {s0 s : StZ} {ds : List ZD} {i : Nat} {d : ZD} (h : ledK s0 ds 0 = ledK s (ds.drop i) i) (hd : ds[i]? = some d) : ledK s0 ds 0 = if canZ s.1 d = true then ledK (movZ s.1 d, swapL s.2 (atZ d)) (ds.drop (i + 1)) (i + 1) else .inl i := by
  rw [h]
  have : ds.drop i = d :: ds.drop (i + 1) := by
    obtain ⟨hi, e⟩ := List.getElem?_eq_some_iff.mp hd
    rw [← e]
    exact (List.drop_eq_getElem_cons hi)
  rw [this]
  rfl
end
end HH
namespace HH
open PySem PySem.Spec PyProof.Rows L2 Evl
end HH
namespace HH
open PySem PySem.Spec PyProof.Rows L2 Evl
section
variable {K : PySem.W.Frag} {σ : L2.St} {H : Hp} {te to ta tb tc : TE} {D : Ends}
theorem er_if {t : TT} {b : Bool} {rs : HH.Row} (h : EvT t σ H b) (h1 : b = true → EvR K ta σ H rs) (h2 : b = false → EvR K tb σ H rs) : EvR K (tIf t ta tb) σ H rs := fun H1 e1 Q q => h H1 e1 _ fun H2 e2 => by
  cases b with
  | true => exact h1 rfl H2 (e1.trans e2) Q fun v H3 e3 hv => q v H3 (e2.trans e3) hv
  | false => exact h2 rfl H2 (e1.trans e2) Q fun v H3 e3 hv => q v H3 (e2.trans e3) hv
end
end HH
set_option maxHeartbeats 4000000
namespace HH
open PySem PySem.Spec PyProof.Rows L2 Evl RZ
def EvDz (K : PySem.W.Frag) (te : TE) (σ : L2.St) (H : Hp) (d : ZD) : Prop := ∀ H1, Ex H H1 → ∀ Q : VK, (∀ v H2, Ex H1 H2 → DeedZ K H2 v d → Q v H2) → te σ H1 Q
def EvZ (K : PySem.W.Frag) (te : TE) (σ : L2.St) (H : Hp) (ds : List ZD) : Prop := ∀ H1, Ex H H1 → ∀ Q : VK, (∀ (q : Addr) (us : List V) (H2 : Hp), H1 q = none → Ex H1 H2 → H2 q = some (.lst us) → DeedsZ K H2 us ds → Q (.ref q) H2) → te σ H1 Q
section
variable {K : PySem.W.Frag} {σ : L2.St} {H : Hp} {te ta tb tc td : TE} {D : Ends}
theorem ez_tup {w : Bool} {i : Int} (h : Ev te σ H (.int i)) : EvDz K (tTup (tCons (tC (.str (wordOf w))) (tCons te tNil))) σ H (w, i) := fun H1 e1 Q q => h H1 e1 _ fun H2 e2 => ⟨by show 2 ≤ sizeLine; decide, fun p hp => q _ _ (e2.trans (Ex.new hp)) ⟨p, rfl, st_of upd_same⟩⟩
theorem ez_one {d : ZD} (h : EvDz K ta σ H d) : EvZ K (tLst (tCons ta tNil)) σ H [d] := fun H1 e1 Q q => h H1 e1 _ fun v H2 e2 hv => ⟨by show 1 ≤ sizeLine; decide, fun c hc => q c [v] _ (fresh_back e2 hc) (e2.trans (Ex.new hc)) upd_same (.cons (hv.ex (Ex.new hc)) .nil)⟩
theorem all2_take {α : Type} {R : V → α → Prop} : ∀ {us : List V} {xs : List α} (n : Nat), All2 R us xs → All2 R (us.take n) (xs.take n)
  | _, _, 0, _ => by rw [List.take_zero, List.take_zero]; exact .nil
  | _, _, _ + 1, .nil => .nil
  | _, _, n + 1, .cons a b => .cons a (all2_take n b)
theorem all2_drop {α : Type} {R : V → α → Prop} : ∀ {us : List V} {xs : List α} (n : Nat), All2 R us xs → All2 R (us.drop n) (xs.drop n)
  | _, _, 0, h => h
  | _, _, _ + 1, .nil => .nil
  | _, _, n + 1, .cons a b => all2_drop n b
end
end HH
set_option maxHeartbeats 4000000
namespace HH
open PySem PySem.Spec PyProof.Rows L2 Evl RZ
def DueV (K : PySem.W.Frag) (H : Hp) (y : V) : Nat ⊕ StZ → Prop
  | .inr s => ∃ (q : Addr) (v' : V) (t : Addr), y = .ref q ∧ H q = some (.tup [v', .ref t]) ∧ RowAt K H v' s.1 ∧ SqT K H t (natsV s.2)
  | .inl k => y = .int (k : Int)
def ToldV (K : PySem.W.Frag) (H : Hp) (pick : Bool) (y : V) : Nat ⊕ StZ → Prop
  | .inr s => Picked K H pick y s
  | .inl k => y = .int (k : Int)
theorem ToldV.ex {K : PySem.W.Frag} {H H' : Hp} {pick : Bool} {y : V} {r : Nat ⊕ StZ} (h : ToldV K H pick y r) (e : Ex H H') : ToldV K H' pick y r := by
  cases r with
  | inl k => exact h
  | inr s => exact Picked.ex h e
theorem DueV.ex {K : PySem.W.Frag} {H H' : Hp} {y : V} {r : Nat ⊕ StZ} (h : DueV K H y r) (e : Ex H H') : DueV K H' y r := by
  cases r with
  | inl k => exact h
  | inr s =>
    obtain ⟨q, v', t, h1, h2, h3, h4⟩ := h
    exact ⟨q, v', t, h1, e _ _ h2, h3.ex e, ex_t e h4⟩
section
variable {K : PySem.W.Frag} {σ : L2.St} {H : Hp} {te ta tb tc td : TE} {D : Ends}
end
end HH
namespace HH
open PySem PySem.Spec PyProof.Rows L2 Evl RZ
section
variable {K : PySem.W.Frag} {σ : L2.St} {H : Hp} {te ta tb tc td : TE} {D : Ends}
end
end HH
namespace HH
open PySem PySem.Spec PyProof.Rows L2 Evl RZ
end HH
namespace HH
open PySem PySem.Spec PyProof.Rows L2 Evl RZ
end HH
set_option maxHeartbeats 4000000
namespace HH
open PySem PySem.Spec PyProof.Rows L2 Evl RZ
def PairX (H : Hp) (x : V) (c : Addr × Str × V) : Prop := ∃ p a b d e : Addr, x = .ref p ∧ H p = some (.tup [.ref a, .ref b]) ∧ XIn H a d c.1 c.2.1 c.2.2 ∧ XIn H b e c.1 c.2.1 c.2.2
theorem PairX.ex {H H' : Hp} {x : V} {c : Addr × Str × V} (h : PairX H x c) (e : Ex H H') : PairX H' x c := by
  obtain ⟨p, a, b, d, f, h1, h2, h3, h4⟩ := h
  exact ⟨p, a, b, d, f, h1, e _ _ h2, h3.ex e, h4.ex e⟩
theorem exo_lst {e C : Addr} {d : Option Addr} {xs : List V} : HO.lst xs ≠ exo e C d := fun z => by
  have z' : HO.lst xs = HO.ext _ := z
  cases z'
theorem exd_lst {e : Addr} {fs : List (Str × V)} {xs : List V} : HO.lst xs ≠ exd e fs := fun z => by
  have z' : HO.lst xs = HO.ext _ := z
  cases z'
theorem XIn.app {H : Hp} {a d C : Addr} {f : Str} {v : V} {l : Addr} {xs ys : List V} (h : XIn H a d C f v) (g : H l = some (.lst xs)) : XIn (upd H l (.lst ys)) a d C f v :=
  ⟨by rw [upd_ne (at_ne g h.1 exo_lst)]; exact h.1, by rw [upd_ne (at_ne g h.2 exd_lst)]; exact h.2⟩
theorem PairX.app {H : Hp} {x : V} {c : Addr × Str × V} {l : Addr} {xs ys : List V} (h : PairX H x c) (g : H l = some (.lst xs)) : PairX (upd H l (.lst ys)) x c := by
  obtain ⟨p, a, b, d, f, h1, h2, h3, h4⟩ := h
  exact ⟨p, a, b, d, f, h1, by rw [upd_ne (at_ne g h2 (fun z => by cases z))]; exact h2, h3.app g, h4.app g⟩
def Pairs (H : Hp) (us : List V) (cs : List (Addr × Str × V)) : Prop := All2 (PairX H) us cs
section
variable {K : PySem.W.Frag} {σ : L2.St} {H : Hp} {te ta tb : TE} {C : Addr} {f : Str} {v : V} {D : Ends} {tz : TS}
theorem Pairs.len {us : List V} {cs : List (Addr × Str × V)} (h : Pairs H us cs) : us.length = cs.length := All2.len h
theorem Pairs.ex {H' : Hp} {us : List V} {cs : List (Addr × Str × V)} (h : Pairs H us cs) (e : Ex H H') : Pairs H' us cs := All2.mono (fun _ _ g => g.ex e) h
theorem Pairs.app {l : Addr} {xs ys : List V} {us : List V} {cs : List (Addr × Str × V)} (h : Pairs H us cs) (g : H l = some (.lst xs)) : Pairs (upd H l (.lst ys)) us cs := All2.mono (fun _ _ k => k.app g) h
end
section
variable {K : PySem.W.Frag} {σ : L2.St} {H : Hp} {ta : TA} {C fI : Addr} {f : Str} {b : Bk}
end
end HH
set_option maxHeartbeats 4000000
namespace HH
open PySem PySem.Spec PyProof.Rows L2 Evl RZ
def bl (n i : Nat) : List V := ((List.range n).map fun j => decide (j = i)).map V.bl
section
variable {K : PySem.W.Frag} {σ : L2.St} {H : Hp} {te ta tb : TE} {D : Ends} {tz : TS}
end
end HH
set_option maxHeartbeats 4000000
namespace HH
open PySem PySem.Spec PyProof.Rows L2 Evl RZ
def StrFit (s : Str) : Prop := PyData.strOk s = true ∧ (reprText s).length ≤ 40
def atomOk (c : Nat) : V → PyData → Prop
  | .non, .none => True
  | .bl b, .bool b' => b = b'
  | .int i, .int i' => i = i' ∧ i.natAbs ≤ 10 ^ 30 + c
  | .str s, .str s' => s = s' ∧ StrFit s
  | _, _ => False
def DaS (R : V → PyData → Prop) (xs : List V) (ds : List PyData) : Prop := xs.length = ds.length ∧ ∀ (i : Nat) (x : V) (e : PyData), xs[i]? = some x → ds[i]? = some e → R x e
def Da (P : Addr → Prop) (K : PySem.W.Frag) (c : Nat) (H : Hp) : Nat → V → PyData → Prop
  | 0, v, d => atomOk c v d
  | k + 1, v, d => atomOk c v d ∨ ∃ (a : Addr) (xs : List V) (ds : List PyData), v = .ref a ∧ ((¬ P a ∧ H a = some (.lst xs) ∧ d = .list ds) ∨ (SqT K H a xs ∧ d = .tuple ds)) ∧ DaS (Da P K c H k) xs ds
section
variable {P : Addr → Prop} {K : PySem.W.Frag} {c : Nat} {H H' : Hp}
theorem Da.ex (e : Ex H H') : ∀ {k : Nat} {v : V} {d : PyData}, Da P K c H k v d → Da P K c H' k v d
  | 0, _, _, h => h
  | k + 1, _, _, .inl h => .inl h
  | k + 1, _, _, .inr ⟨a, xs, ds, h1, h2, h3, h4⟩ => .inr ⟨a, xs, ds, h1, h2.imp (fun ⟨q1, q2, q3⟩ => ⟨q1, e _ _ q2, q3⟩) (fun ⟨q1, q2⟩ => ⟨ex_t e q1, q2⟩), h3, fun i x y hx hy => Da.ex e (h4 i x y hx hy)⟩
theorem Da.exB {p : Addr} {ys : List V} (hP : P p) (e : ExB p H H') (hp : H p = some (.lst ys)) : ∀ {k : Nat} {v : V} {d : PyData}, Da P K c H k v d → Da P K c H' k v d
  | 0, _, _, h => h
  | k + 1, _, _, .inl h => .inl h
  | k + 1, _, _, .inr ⟨a, xs, ds, h1, h2, h3, h4⟩ => .inr ⟨a, xs, ds, h1, h2.imp (fun ⟨q1, q2, q3⟩ => ⟨q1, e _ _ (fun z => q1 (by rw [z]; exact hP)) q2, q3⟩) (fun ⟨q1, q2⟩ => ⟨e.t hp q1, q2⟩), h3, fun i x y hx hy => Da.exB hP e hp (h4 i x y hx hy)⟩
theorem Da.sub {P' : Addr → Prop} (hs : ∀ a, P' a → P a) : ∀ {k : Nat} {v : V} {d : PyData}, Da P K c H k v d → Da P' K c H k v d
  | 0, _, _, h => h
  | k + 1, _, _, .inl h => .inl h
  | k + 1, _, _, .inr ⟨a, xs, ds, h1, h2, h3, h4⟩ => .inr ⟨a, xs, ds, h1, h2.imp (fun ⟨q1, q2, q3⟩ => ⟨fun z => q1 (hs a z), q2, q3⟩) (fun q => q), h3, fun i x y hx hy => Da.sub hs (h4 i x y hx hy)⟩
theorem Da.up : ∀ {k : Nat} {v : V} {d : PyData}, Da P K c H k v d → Da P K c H (k + 1) v d
  | 0, _, _, h => .inl h
  | k + 1, _, _, .inl h => .inl h
  | k + 1, _, _, .inr ⟨a, xs, ds, h1, h2, h3, h4⟩ => .inr ⟨a, xs, ds, h1, h2, h3, fun i x y hx hy => Da.up (h4 i x y hx hy)⟩
theorem Da.ups {k : Nat} {v : V} {d : PyData} (h : Da P K c H k v d) : ∀ j, Da P K c H (k + j) v d
  | 0 => h
  | j + 1 => (Da.ups h j).up
theorem Da.to {k k' : Nat} {v : V} {d : PyData} (h : Da P K c H k v d) (e : k ≤ k') : Da P K c H k' v d := by
  have := h.ups (k' - k)
  rw [show k + (k' - k) = k' by omega] at this
  exact this
theorem atomOk.cc {c' : Nat} (e : c ≤ c') {v : V} {d : PyData} (h : atomOk c v d) : atomOk c' v d := by
  unfold atomOk at h
  split at h
  · exact True.intro
  · exact h
  · exact ⟨h.1, by have := h.2; omega⟩
  · exact h
  · exact h.elim
theorem Da.cc {c' : Nat} (e : c ≤ c') : ∀ {k : Nat} {v : V} {d : PyData}, Da P K c H k v d → Da P K c' H k v d
  | 0, _, _, h => atomOk.cc e h
  | k + 1, _, _, .inl h => .inl (atomOk.cc e h)
  | k + 1, _, _, .inr ⟨a, xs, ds, h1, h2, h3, h4⟩ => .inr ⟨a, xs, ds, h1, h2, h3, fun i x y hx hy => Da.cc e (h4 i x y hx hy)⟩
end
mutual
def wtD : PyData → Nat
  | .none => 50
  | .bool _ => 50
  | .int _ => 50
  | .str _ => 50
  | .list xs => 10 + wtDs xs
  | .tuple xs => 10 + wtDs xs
  | .dict _ => 50
def wtDs : List PyData → Nat
  | [] => 0
  | x :: xs => wtD x + 2 + wtDs xs
end
def tyD : PyData → String
  | .none => "NoneType"
  | .bool _ => "bool"
  | .int _ => "int"
  | .str _ => "str"
  | .list _ => "list"
  | .tuple _ => "tuple"
  | .dict _ => "dict"
section
variable {P : Addr → Prop} {K : PySem.W.Frag} {c : Nat} {H H' : Hp}
theorem atomOk.ty {v : V} {d : PyData} (h : atomOk c v d) : TyN K H v (tyD d) := by
  unfold atomOk at h
  split at h
  · exact .non
  · exact .bl _
  · exact .int _
  · exact .str _
  · exact h.elim
theorem Da.ty {k : Nat} {v : V} {d : PyData} (h : Da P K c H k v d) : TyN K H v (tyD d) := by
  cases k with
  | zero => exact atomOk.ty h
  | succ k =>
    rcases h with h | ⟨a, xs, ds, rfl, h2, _⟩
    · exact atomOk.ty h
    · rcases h2 with ⟨_, h2, rfl⟩ | ⟨h2, rfl⟩
      · exact .lst (K := K) (sq_of h2)
      · exact .tup h2
theorem daS_all {R : V → PyData → Prop} (hR : ∀ v d, R v d → Dp K H v d) : ∀ {xs : List V} {ds : List PyData}, DaS R xs ds → DpAll K H xs ds
  | [], [], _ => .nil
  | [], _ :: _, h => by cases h.1
  | _ :: _, [], h => by cases h.1
  | x :: xs, d :: ds, h => .cons (hR _ _ (h.2 0 x d rfl rfl)) (daS_all hR ⟨Nat.succ.inj h.1, fun i y e hy he => h.2 (i + 1) y e hy he⟩)
theorem atomOk.dp {v : V} {d : PyData} (h : atomOk c v d) : Dp K H v d ∧ Nice 0 d := by
  unfold atomOk at h
  split at h
  · exact ⟨.non, by simp [PyData.canLay0], by simp [PyData.depth]⟩
  · subst h
    exact ⟨.bl _, by simp [PyData.canLay0], by simp [PyData.depth]⟩
  · obtain ⟨rfl, _⟩ := h
    exact ⟨.int _, by simp [PyData.canLay0], by simp [PyData.depth]⟩
  · obtain ⟨rfl, h⟩ := h
    exact ⟨.str _, by simp only [PyData.canLay0]; exact h.1, by simp [PyData.depth]⟩
  · exact h.elim
theorem Da.dp : ∀ {k : Nat} {v : V} {d : PyData}, Da P K c H k v d → Dp K H v d
  | 0, _, _, h => (atomOk.dp h).1
  | k + 1, _, _, .inl h => (atomOk.dp h).1
  | k + 1, _, _, .inr ⟨a, xs, ds, h1, h2, h3⟩ => by
    subst h1
    have := daS_all (K := K) (H := H) (fun v d h => Da.dp h) h3
    rcases h2 with ⟨_, h2, rfl⟩ | ⟨h2, rfl⟩
    · exact .lst (sq_of h2) this
    · exact .tup h2 this
end
end HH
set_option maxHeartbeats 4000000
namespace HH
open PySem PySem.Spec PyProof.Rows L2 Evl RZ
def isListB : PyData → Bool
  | .list _ => true
  | _ => false
def isTupB : PyData → Bool
  | .tuple _ => true
  | _ => false
section
variable {P : Addr → Prop} {K : PySem.W.Frag} {c k : Nat} {H H' : Hp} {σ : L2.St} {te ta tb : TE} {D : Ends} {v : V} {d : PyData}
theorem Da.cont (hd : Da P K c H (k + 1) v d) (h : (isListB d || isTupB d) = true) : ∃ (a : Addr) (xs : List V) (ds : List PyData), v = .ref a ∧ ((¬ P a ∧ H a = some (.lst xs) ∧ d = .list ds) ∨ (SqT K H a xs ∧ d = .tuple ds)) ∧ DaS (Da P K c H k) xs ds := by
  rcases hd with hd | hd
  · unfold atomOk at hd
    split at hd
    · cases h
    · cases h
    · cases h
    · cases h
    · exact hd.elim
  · exact hd
end
section
variable {P : Addr → Prop} {K : PySem.W.Frag} {c k : Nat} {H H' : Hp} {σ : L2.St} {te ta tb : TE} {D : Ends} {v : V} {d : PyData}
theorem DaS.ex {xs : List V} {ds : List PyData} (h : DaS (Da P K c H k) xs ds) (e : Ex H H') : DaS (Da P K c H' k) xs ds := ⟨h.1, fun i x y hx hy => (h.2 i x y hx hy).ex e⟩
theorem DaS.exB {p : Addr} {xs ys : List V} {ds : List PyData} (h : DaS (Da P K c H k) xs ds) (hP : P p) (e : ExB p H H') (hp : H p = some (.lst ys)) : DaS (Da P K c H' k) xs ds := ⟨h.1, fun i x y hx hy => (h.2 i x y hx hy).exB hP e hp⟩
theorem DaS.sub {P' : Addr → Prop} {xs : List V} {ds : List PyData} (h : DaS (Da P K c H k) xs ds) (hs : ∀ a, P' a → P a) : DaS (Da P' K c H k) xs ds := ⟨h.1, fun i x y hx hy => (h.2 i x y hx hy).sub hs⟩
theorem DaS.to {c' k' : Nat} {xs : List V} {ds : List PyData} (h : DaS (Da P K c H k) xs ds) (e : k ≤ k') (e2 : c ≤ c') : DaS (Da P K c' H k') xs ds := ⟨h.1, fun i x y hx hy => ((h.2 i x y hx hy).to e).cc e2⟩
theorem DaS.nil {R : V → PyData → Prop} : DaS R [] [] := ⟨rfl, fun i x e h => by simp at h⟩
theorem DaS.cons {R : V → PyData → Prop} {x : V} {d : PyData} {xs : List V} {ds : List PyData} (h : R x d) (g : DaS R xs ds) : DaS R (x :: xs) (d :: ds) := ⟨by rw [List.length_cons, List.length_cons, g.1], fun i y e hy he => by
  cases i with
  | zero =>
    cases hy
    cases he
    exact h
  | succ i => exact g.2 i y e hy he⟩
theorem DaS.app {R : V → PyData → Prop} {xs ys : List V} {ds es : List PyData} (h : DaS R xs ds) (g : DaS R ys es) : DaS R (xs ++ ys) (ds ++ es) := ⟨by rw [List.length_append, List.length_append, h.1, g.1], fun i y e hy he => by
  by_cases hi : i < xs.length
  · rw [List.getElem?_append_left hi] at hy
    rw [List.getElem?_append_left (by rw [← h.1]; exact hi)] at he
    exact h.2 i y e hy he
  · rw [List.getElem?_append_right (by omega)] at hy
    rw [List.getElem?_append_right (by rw [← h.1]; omega)] at he
    rw [← h.1] at he
    exact g.2 _ y e hy he⟩
theorem DaS.set {R : V → PyData → Prop} {xs : List V} {ds : List PyData} {i : Nat} {x : V} {d : PyData} (h : DaS R xs ds) (g : R x d) : DaS R (xs.set i x) (ds.set i d) := ⟨by rw [List.length_set, List.length_set, h.1], fun j y e hy he => by
  rw [List.getElem?_set] at hy he
  by_cases c : i = j
  · rw [if_pos c] at hy he
    by_cases c2 : j < xs.length
    · rw [if_pos (by omega)] at hy
      rw [if_pos (by rw [← h.1]; omega)] at he
      cases hy
      cases he
      exact g
    · rw [if_neg (by omega)] at hy
      cases hy
  · rw [if_neg c] at hy he
    exact h.2 j y e hy he⟩
theorem DaS.take {R : V → PyData → Prop} {xs : List V} {ds : List PyData} (n : Nat) (h : DaS R xs ds) : DaS R (xs.take n) (ds.take n) := ⟨by rw [List.length_take, List.length_take, h.1], fun j y e hy he => by
  rw [List.getElem?_take] at hy he
  by_cases c : j < n
  · rw [if_pos c] at hy he
    exact h.2 j y e hy he
  · rw [if_neg c] at hy
    cases hy⟩
theorem DaS.drop {R : V → PyData → Prop} {xs : List V} {ds : List PyData} (n : Nat) (h : DaS R xs ds) : DaS R (xs.drop n) (ds.drop n) := ⟨by rw [List.length_drop, List.length_drop, h.1], fun j y e hy he => by
  rw [List.getElem?_drop] at hy he
  exact h.2 _ y e hy he⟩
theorem DaS.at' {R : V → PyData → Prop} {xs : List V} {ds : List PyData} {i : Nat} (h : DaS R xs ds) (hi : i < xs.length) : ∃ x d, xs[i]? = some x ∧ ds[i]? = some d ∧ R x d := by
  have h2 : i < ds.length := by rw [← h.1]; exact hi
  exact ⟨_, _, List.getElem?_eq_getElem hi, List.getElem?_eq_getElem h2, h.2 i _ _ (List.getElem?_eq_getElem hi) (List.getElem?_eq_getElem h2)⟩
end
end HH
namespace HH
open PySem PySem.Spec PyProof.Rows L2 Evl RZ
section
variable {P : Addr → Prop} {K : PySem.W.Frag} {c k : Nat} {H H' : Hp} {σ : L2.St} {te te2 ta tb : TE} {D : Ends} {v : V} {d : PyData}
end
end HH
namespace HH
open PySem PySem.Spec PyProof.Rows L2 Evl RZ
end HH
namespace HH
open PySem PySem.Spec PyProof.Rows L2 Evl RZ
end HH
namespace HH
open PySem PySem.Spec PyProof.Rows L2 Evl RZ
section
variable {K : PySem.W.Frag} {σ : L2.St} {H : Hp} {t u : TT} {tu tw tz : TS} {D : Ends} {QB : Bool → Hp → Prop}
end
end HH
namespace HH
open PySem PySem.Spec PyProof.Rows L2 Evl RZ
end HH
set_option maxHeartbeats 4000000
namespace HH
open PySem PySem.Spec PyProof.Rows L2 Evl RZ
def ItA (P : Addr → Prop) (K : PySem.W.Frag) (H : Hp) (v : V) : Prop := ∃ d, Da P K 2 H 6 v d ∧ wtD d ≤ 20000
section
variable {P : Addr → Prop} {K : PySem.W.Frag} {c k n : Nat} {H H' : Hp} {σ : L2.St} {te ta tb : TE} {D : Ends} {v : V} {d : PyData} {rs : HH.Row}
theorem ItA.ex (e : Ex H H') (h : ItA P K H v) : ItA P K H' v := by
  obtain ⟨d, h, w⟩ := h
  exact ⟨d, h.ex e, w⟩
theorem ItA.exB {p : Addr} {ys : List V} (hP : P p) (e : ExB p H H') (hp : H p = some (.lst ys)) (h : ItA P K H v) : ItA P K H' v := by
  obtain ⟨d, h, w⟩ := h
  exact ⟨d, h.exB hP e hp, w⟩
theorem ItA.sub {P' : Addr → Prop} (hs : ∀ a, P' a → P a) (h : ItA P K H v) : ItA P' K H v := by
  obtain ⟨d, h, w⟩ := h
  exact ⟨d, h.sub hs, w⟩
end
end HH
namespace HH
end HH
set_option maxHeartbeats 4000000
namespace HH
open PySem PySem.Spec PyProof.Rows L2 Evl
end HH
set_option maxHeartbeats 4000000
namespace HH
open PySem PySem.Spec PyProof.Rows L2 Evl
structure OrdAt (K : PySem.W.Frag) (H : Hp) (v : V) (o : Addr) (rs : HH.Row) (l : List Nat) : Prop where
  row : RowAt K H v rs
  len : rs.length ≤ 30
  tl : ∀ b ∈ rs, 0 ≤ b.2
  ord : SqT K H o (natsV l)
  ids : l.Perm (List.range rs.length)
section
variable {K : PySem.W.Frag} {H H' : Hp} {v : V} {o : Addr} {rs : HH.Row} {l : List Nat}
theorem OrdAt.ex (h : OrdAt K H v o rs l) (e : Ex H H') : OrdAt K H' v o rs l := ⟨h.row.ex e, h.len, h.tl, ex_t e h.ord, h.ids⟩
theorem OrdAt.nd (h : OrdAt K H v o rs l) : l.Nodup := h.ids.nodup_iff.mpr List.nodup_range
theorem OrdAt.lenL (h : OrdAt K H v o rs l) : l.length = rs.length := by rw [h.ids.length_eq, List.length_range]
theorem OrdAt.all (h : OrdAt K H v o rs l) (x : Nat) (hx : x < l.length) : x ∈ l := h.ids.mem_iff.mpr (List.mem_range.mpr (by rw [← h.lenL]; exact hx))
end
end HH
set_option maxHeartbeats 4000000
namespace HH
open PySem PySem.Spec PyProof.Rows L2 Evl
section
variable {K : PySem.W.Frag} {σ : L2.St} {H : Hp} {te t1 t2 : TE} {tt : TT} {l : List Nat} {j : Nat} {vs : List Nat}
end
end HH
set_option maxHeartbeats 4000000
namespace HH
open PySem PySem.Spec PyProof.Rows L2 Evl
section
variable {K : PySem.W.Frag} {σ : L2.St} {H H0 : Hp} {tf tx tv : TE} {D : Ends} {fa a : Addr} {as : List Addr} {t p : Nat → Int} {i : Nat} {d : Int}
end
end HH
set_option maxHeartbeats 4000000
namespace HH
open PySem PySem.Spec PyProof.Rows L2 Evl
section
variable {K : PySem.W.Frag} {σ : L2.St} {H : Hp} {te te2 : TE} {i j : Nat} {vs : List Nat} {a : Addr} {us : List V} {ps : HH.Row}
end
end HH
set_option maxHeartbeats 4000000
namespace HH
open PySem PySem.Spec PyProof.Rows L2 Evl
structure WanF (K : PySem.W.Frag) (H H' : Hp) (p : Addr) (q : Addr) (v' : V) (ot lp : Addr) (us : List V) (L : List Cow) (ds : List Deed) (n m : Nat) : Prop where
  ex : ExB p H H'
  bx : Bx H' p (n + m)
  q : H' q = some (.tup [v', .ref ot, .ref lp])
  row : RowAt K H' v' (rowsOf L)
  ord : FrzT H' ot (natsV (L.map (·.1)))
  lst : H' lp = some (.lst us)
  prs : All2 (DeedAt K H') us ds
def spFirstF (K : PySem.W.Frag) : Sp := fun vs H Q _ => ∃ (v : V) (rs : HH.Row), vs = [v] ∧ RowAt K H v rs ∧ rs.length ≤ 1000 ∧ (∀ b ∈ rs, 0 ≤ b.2) ∧ ∀ q H' (L : List Cow), Ex H H' → LastAtF K H' q L → FSteps (tag 0 rs) L → FfR L → Q (.ref q) H'
end HH
set_option maxHeartbeats 4000000
namespace HH
open PySem PySem.Spec PyProof.Rows L2 Evl RZ
def Sm0 : PyData → Prop
  | .none => True
  | .bool _ => True
  | .int i => i.natAbs ≤ 10 ^ 30
  | _ => False
theorem Sm0.at' {d : PyData} (h : Sm0 d) : ∃ v, atomOk 0 v d := by
  unfold Sm0 at h
  split at h
  · exact ⟨.non, True.intro⟩
  · exact ⟨.bl _, rfl⟩
  · exact ⟨.int _, rfl, h⟩
  · exact h.elim
def NLst (K : PySem.W.Frag) (H : Hp) (v : V) : Prop := Flat v ∨ ∃ a xs, v = .ref a ∧ SqT K H a xs
def lenD : PyData → Nat
  | .list ds => ds.length
  | _ => 0
def AskIt (K : PySem.W.Frag) (H1 H2 : Hp) (v : V) (d : PyData) : Prop := Dp K H2 v d ∧ ((∃ a xs, v = .ref a ∧ H1 a = none ∧ H2 a = some (.lst xs) ∧ xs.length = lenD d) ∨ NLst K H2 v)
section
variable {K : PySem.W.Frag} {H H' H0 H1 H2 : Hp} {σ : L2.St} {te ta tb : TE} {D : Ends} {v : V} {d : PyData} {rs : HH.Row}
theorem NLst.ex (e : Ex H H') (h : NLst K H v) : NLst K H' v := h.imp id fun ⟨a, xs, h1, h2⟩ => ⟨a, xs, h1, ex_t e h2⟩
theorem AskIt.ex (e : Ex H2 H') (h : AskIt K H1 H2 v d) : AskIt K H1 H' v d := ⟨dp_ex e h.1, h.2.imp (fun ⟨a, xs, h1, h2, h3, h4⟩ => ⟨a, xs, h1, h2, e _ _ h3, h4⟩) (NLst.ex e)⟩
theorem AskIt.back (e : Ex H0 H1) (h : AskIt K H1 H2 v d) : AskIt K H0 H2 v d := ⟨h.1, h.2.imp (fun ⟨a, xs, h1, h2, h3, h4⟩ => ⟨a, xs, h1, fresh_back e h2, h3, h4⟩) id⟩
def flatD : V → PyData
  | .int i => .int i
  | .bl b => .bool b
  | _ => .none
end
def AskP (K : PySem.W.Frag) (H1 H3 : Hp) (q : Addr) (v : V) (d : PyData) : Prop := Dp K H3 v d ∧ ((∃ a xs, v = .ref a ∧ a ≠ q ∧ H1 a = none ∧ H3 a = some (.lst xs) ∧ xs.length = lenD d) ∨ NLst K H3 v)
def AskQ (K : PySem.W.Frag) (H1 : Hp) (q : Addr) (H2 : Hp) (v : V) (d : PyData) : Prop := ∀ H3, ExB q H2 H3 → AskP K H1 H3 q v d
section
variable {K : PySem.W.Frag} {H H' H0 H1 H2 : Hp} {σ : L2.St} {te ta tb : TE} {D : Ends} {v : V} {d : PyData} {rs : HH.Row} {q : Addr}
theorem AskIt.put {o : HO} (h : AskIt K H1 H2 v d) (hq : H2 q = none) : AskQ K H1 q (upd H2 q o) v d := fun H3 x => by
  have e : Ex H2 H3 := fun a u ha => x a u (ne_of_none ha hq) (by rw [upd_ne (ne_of_none ha hq)]; exact ha)
  refine ⟨dp_ex e h.1, h.2.imp (fun ⟨a, xs, h1, h2, h3, h4⟩ => ⟨a, xs, h1, ne_of_none h3 hq, h2, e _ _ h3, h4⟩) (NLst.ex e)⟩
theorem AskQ.x (h : AskQ K H1 q H2 v d) (x : ExB q H2 H') : AskQ K H1 q H' v d := fun H3 y => h H3 (x.trans y)
theorem AskQ.it (h : AskQ K H1 q H2 v d) : AskIt K H1 H2 v d := by
  obtain ⟨h1, h2⟩ := h H2 (ExB.refl _ _)
  exact ⟨h1, h2.imp (fun ⟨a, xs, g1, _, g2, g3, g4⟩ => ⟨a, xs, g1, g2, g3, g4⟩) id⟩
end
structure Knows (rs : HH.Row) (L F : List Cow) (z : V) (i : Nat) : Prop where
  len : rs.length ≤ 30
  lt : i < rs.length
  tl : ∀ b ∈ rs, 0 ≤ b.2
  low : ∀ b ∈ rs, Low b
  last : ∀ M, Steps (tag 0 rs) M → NfR M → M = L
  first : ∀ M, FSteps (tag 0 rs) M → FfR M → M = F
  stop : ∀ (M : List Cow) (j : Nat), Steps (tag 0 (rs.take (i + 1))) M → Nf M → (M.map (·.1))[j]? = some i → stopAt (M.map (·.1)) j = z
  flat : Flat z
  dp : ∀ (K : PySem.W.Frag) H', Dp K H' z (flatD z)
section
variable {K : PySem.W.Frag} {H : Hp} {σ : L2.St} {te ta tb tc : TE} {v : V} {rs : HH.Row}
end
end HH
set_option maxHeartbeats 4000000
namespace HH
open PySem PySem.Spec PyProof.Rows L2 Evl RZ
section
variable {P : Addr → Prop} {K : PySem.W.Frag} {c k : Nat} {H : Hp}
end
end HH
namespace HH
open PySem PySem.Spec PyProof.Rows L2 Evl RZ
end HH
namespace HH
open PySem PySem.Spec PyProof.Rows L2 Evl RZ
end HH
set_option maxHeartbeats 4000000
namespace HH
open PySem PySem.Spec PyProof.Rows L2 Evl RZ
end HH
namespace HH
open PySem PySem.Spec PyProof.Rows L2 Evl RZ
end HH
set_option maxHeartbeats 4000000
namespace HH
open PySem PySem.Spec PyProof.Rows L2 Evl RZ
section
variable {K : PySem.W.Frag} {H H' H0 H1 H2 : Hp} {σ : L2.St} {te ta tb : TE} {D : Ends} {v : V} {d : PyData} {rs : HH.Row} {tz : TS}
def Spt (K : PySem.W.Frag) (H0 : Hp) (q : Addr) (n : Nat) (H : Hp) (v : V) : Prop := (∃ a xs, v = .ref a ∧ a ≠ q ∧ H0 a = none ∧ H a = some (.lst xs) ∧ xs.length ≤ n) ∨ NLst K H v
theorem NLst.mut {b : Addr} {xs ys : List V} (h : NLst K H v) (hb : H b = some (.lst xs)) : NLst K (upd H b (.lst ys)) v := h.imp id fun ⟨a, zs, h1, h2⟩ => ⟨a, zs, h1, ((ExB.refl b H).upd (o := .lst ys)).t hb h2⟩
theorem Spt.mut {b q : Addr} {n : Nat} {xs ys : List V} (h : Spt K H0 q n H v) (hb : H b = some (.lst xs)) (hy : ys.length ≤ n + 1) : Spt K H0 q (n + 1) (upd H b (.lst ys)) v := by
  rcases h with ⟨a, zs, rfl, h1, h2, h3, h4⟩ | h
  · by_cases e : a = b
    · subst e
      exact .inl ⟨a, ys, rfl, h1, h2, upd_same, hy⟩
    · exact .inl ⟨a, zs, rfl, h1, h2, by rw [upd_ne e]; exact h3, by omega⟩
  · exact .inr (h.mut hb)
theorem Spt.up {q : Addr} {n : Nat} (h : Spt K H0 q n H v) (e : Ex H H') : Spt K H0 q (n + 1) H' v := by
  rcases h with ⟨a, zs, rfl, h1, h2, h3, h4⟩ | h
  · exact .inl ⟨a, zs, rfl, h1, h2, e _ _ h3, by omega⟩
  · exact .inr (h.ex e)
theorem NLst.ty (h : NLst K H v) : ∃ T, TyN K H v T ∧ kitB T "list" = some false := by
  rcases h with h | ⟨a, xs, rfl, h⟩
  · unfold Flat at h
    split at h
    · exact ⟨"int", .int _, rfl⟩
    · exact ⟨"bool", .bl _, rfl⟩
    · exact ⟨"str", .str _, rfl⟩
    · exact ⟨"NoneType", .non, rfl⟩
    · exact h.elim
  · exact ⟨"tuple", .tup h, rfl⟩
end
end HH
set_option maxHeartbeats 4000000
namespace HH
open PySem PySem.Spec PyProof.Rows L2 Evl RZ
end HH
set_option maxHeartbeats 4000000
namespace HH
open PySem PySem.Spec PyProof.Rows L2 Evl RZ
theorem ListsF.exB {H0 H H' : Hp} {us : List V} {ll : List (List Nat)} {p : Addr} {o : HO} (h : ListsF H0 H us ll) (e : ExB p H H') (hp : H0 p = some o) : ListsF H0 H' us ll := ⟨h.len, fun i l hl => by
  obtain ⟨c, h1, h2, h3⟩ := h.at' i l hl
  exact ⟨c, h1, h2, e _ _ (Ne.symm (ne_of_none hp h2)) h3⟩⟩
end HH
set_option maxHeartbeats 4000000
namespace HH
open PySem PySem.Spec PyProof.Rows L2 Evl RZ
section
variable {K : PySem.W.Frag} {σ : L2.St} {H H' : Hp} {ta tb te te2 : TE} {t : TT} {v : V}
end
end HH
set_option maxHeartbeats 4000000
namespace HH
open PySem PySem.Spec PyProof.Rows L2 Evl RZ
def At0 : PyData → Prop
  | .none => True
  | .bool _ => True
  | .int _ => True
  | .str _ => True
  | _ => False
def okV : Nat → PyData → Prop
  | 0, d => At0 d
  | k + 1, d => At0 d ∨ ∃ ds, (d = .list ds ∨ d = .tuple ds) ∧ ds.length ≤ 40000 ∧ ∀ e ∈ ds, okV k e
theorem at0_up {d : PyData} (h : At0 d) : ∀ k, okV k d
  | 0 => h
  | k + 1 => .inl h
theorem dps_at {K : PySem.W.Frag} {H : Hp} : ∀ {xs : List V} {ds : List PyData} {i : Nat} {u : V}, DpAll K H xs ds → xs[i]? = some u → ∃ d, ds[i]? = some d ∧ Dp K H u d
  | _, _, i, u, .nil, h => by simp at h
  | _, _, 0, u, .cons h g, e => by
    cases Option.some.inj e
    exact ⟨_, rfl, h⟩
  | _, _, i + 1, u, .cons h g, e => dps_at (i := i) g e
theorem alike_dp {K : PySem.W.Frag} {H : Hp} : ∀ {k : Nat} {d : PyData} {u v : V}, okV k d → Dp K H u d → Dp K H v d → Alike K H (k + 1) u v := by
  have atom : ∀ {k : Nat} {d : PyData} {u v : V}, At0 d → Dp K H u d → Dp K H v d → Alike K H (k + 1) u v := fun {k d u v} o h g => by
    cases h <;> cases g
    · exact .inl ⟨rfl, True.intro⟩
    · exact .inl ⟨rfl, True.intro⟩
    · exact .inl ⟨rfl, True.intro⟩
    · exact .inl ⟨rfl, True.intro⟩
    · exact o.elim
    · exact o.elim
  intro k
  induction k with
  | zero => exact fun {d u v} o h g => atom o h g
  | succ k ih =>
    intro d u v o h g
    rcases o with o | ⟨ds, o1, o2, o3⟩
    · exact atom o h g
    · rcases o1 with rfl | rfl
      · cases h with
        | lst s1 a1 => cases g with
          | lst s2 a2 =>
            refine .inr ⟨_, _, _, _, rfl, rfl, .inl ⟨s1, s2⟩, by rw [dps_len a1, dps_len a2], by rw [dps_len a1]; exact o2, fun i x y hx hy => ?_⟩
            obtain ⟨d1, e1, g1⟩ := dps_at a1 hx
            obtain ⟨d2, e2, g2⟩ := dps_at a2 hy
            rw [e1] at e2
            cases e2
            exact ih (o3 _ (List.mem_of_getElem? e1)) g1 g2
      · cases h with
        | tup s1 a1 => cases g with
          | tup s2 a2 =>
            refine .inr ⟨_, _, _, _, rfl, rfl, .inr ⟨s1, s2⟩, by rw [dps_len a1, dps_len a2], by rw [dps_len a1]; exact o2, fun i x y hx hy => ?_⟩
            obtain ⟨d1, e1, g1⟩ := dps_at a1 hx
            obtain ⟨d2, e2, g2⟩ := dps_at a2 hy
            rw [e1] at e2
            cases e2
            exact ih (o3 _ (List.mem_of_getElem? e1)) g1 g2
def EvX (K : PySem.W.Frag) (te : TE) (σ : L2.St) (H : Hp) (d : PyData) : Prop := ∀ H1, Ex H H1 → ∀ Q : VK, (∀ v H2, Ex H1 H2 → Dp K H2 v d → Q v H2) → te σ H1 Q
section
variable {K : PySem.W.Frag} {H H' H0 H1 H2 : Hp} {σ : L2.St} {te ta tb tc : TE} {D : Ends} {v : V} {d : PyData} {rs : HH.Row} {tz : TS}
theorem ex_row (h : EvR K te σ H rs) : EvX K te σ H (rowD rs) := fun H1 e1 Q q => h H1 e1 _ fun v H2 e2 hv => by
  obtain ⟨a, rfl, hd⟩ := hv.dp
  exact q _ H2 e2 hd
theorem ev_sameX {k : Nat} {E : XK} (h1 : EvX K ta σ H d) (h2 : EvX K tb σ H d) (ok : okV k d) : Ev (tCall (spSame K (k + 1)) [] E (tCons ta (tCons tb tNil))) σ H (.bl true) := fun H1 e Q q =>
  h1 H1 e _ fun u H2 e2 d1 => h2 H2 (e.trans e2) _ fun w H3 e3 d2 => ⟨u, w, rfl, alike_dp ok (dp_ex e3 d1) d2, fun H4 e4 => q H4 ((e2.trans e3).trans e4)⟩
theorem okV_ints {k : Nat} {ns : List Int} (h : ns.length ≤ 40000) : okV (k + 1) (.list (ns.map PyData.int)) ∧ okV (k + 1) (.tuple (ns.map PyData.int)) := by
  have a : ∀ e ∈ ns.map PyData.int, okV k e := fun e he => by
    obtain ⟨n, _, rfl⟩ := List.mem_map.mp he
    exact at0_up (d := .int n) True.intro k
  exact ⟨.inr ⟨_, .inl rfl, by rw [List.length_map]; exact h, a⟩, .inr ⟨_, .inr rfl, by rw [List.length_map]; exact h, a⟩⟩
theorem okV_beast {k : Nat} (b : Int × Int) : okV (k + 1) (beastD b) := .inr ⟨_, .inr rfl, by show 2 ≤ 40000; decide, fun e he => by
  rcases List.mem_cons.mp he with rfl | he
  · exact at0_up (d := .int b.1) True.intro k
  · cases List.mem_singleton.mp he
    exact at0_up (d := .int b.2) True.intro k⟩
theorem okV_beasts {k : Nat} {ps : HH.Row} : ∀ e ∈ ps.map beastD, okV (k + 1) e := fun e he => by
  obtain ⟨b, _, rfl⟩ := List.mem_map.mp he
  exact okV_beast b
theorem okV_row {k : Nat} {ps : HH.Row} (h : ps.length ≤ 40000) : okV (k + 2) (rowD ps) ∧ okV (k + 2) (.list (ps.map beastD)) := ⟨.inr ⟨_, .inr rfl, by rw [List.length_map]; exact h, okV_beasts⟩, .inr ⟨_, .inl rfl, by rw [List.length_map]; exact h, okV_beasts⟩⟩
end
end HH
set_option maxHeartbeats 4000000
namespace HH
open PySem PySem.Spec PyProof.Rows L2 Evl
end HH
set_option maxHeartbeats 4000000
namespace HH
open PySem PySem.Spec PyProof.Rows L2 Evl
section
variable {K : PySem.W.Frag} {σ : L2.St} {H H' : Hp} {ta tb te to ts : TE} {v : V}
theorem ev_index {o : Addr} {l : List Nat} {k x : Nat} (ho : Ev to σ H (.ref o)) (fo : FrzT H o (natsV l)) (nd : l.Nodup) (hx : Ev te σ H (.int (x : Int))) (hk : l[k]? = some x) : Ev (tBMF (rTIdx K) to (tCons te tNil)) σ H (.int (k : Int)) := fun H1 e1 Q q =>
  ho H1 e1 _ fun H2 e2 => by
    obtain ⟨ob, pt, hbf⟩ := fo.ex (e1.trans e2)
    refine ⟨⟨o, ob, _, rfl, hbf, pt⟩, hx H2 (e1.trans e2) _ fun H3 e3 => ⟨o, l.map fun (x : Nat) => (x : Int), (x : Int), k, rfl, rfl, ?_, ?_, fun m hm z => ?_, q H3 (e2.trans e3)⟩⟩
    · rw [← natsV_int]
      exact (fo.ex (e1.trans (e2.trans e3))).sq
    · rw [List.getElem?_map, hk]
      rfl
    · rw [List.getElem?_map] at z
      cases c : l[m]? with
      | none =>
        rw [c] at z
        cases z
      | some y =>
        rw [c] at z
        have : y = x := by
          have z' : (y : Int) = (x : Int) := Option.some.inj z
          omega
        rw [this] at c
        have := nd_at nd c hk
        omega
section
variable {rs : HH.Row} {L E Y M : List Cow} {d1 d2 : List Deed} {px : Nat → Nat} {tT tB tO tN t8 t9 : TE} {vT : V} {bk oT : Addr}
end
end
end HH
set_option maxHeartbeats 4000000
namespace HH
open PySem PySem.Spec PyProof.Rows L2 Evl RZ
theorem FrzT.exL {H H' : Hp} {p a : Addr} {xs ys : List V} (h : FrzT H a xs) (e : ExB p H H') (hp : H p = some (.lst ys)) : FrzT H' a xs := by
  obtain ⟨o, po, h⟩ := h
  refine ⟨o, po, e _ _ (fun z => ?_) h⟩
  rw [z, hp] at h
  cases h
section
variable {X : Cx} {es : List Expr} {t : TA} {pos : Pos}
end
end HH
namespace HH
open PySem PySem.Spec PyProof.Rows L2 Evl RZ
end HH
set_option maxHeartbeats 4000000
namespace HH
open PySem PySem.Spec PyProof.Rows L2 Evl RZ
structure KnownEnd (r e : HH.Row) (o : List Nat) (tb : List (List Nat)) : Prop where
  len : r.length ≤ 10
  tl : ∀ b ∈ r, 0 ≤ b.2
  end_ : ∃ L, Steps (tag 0 r) L ∧ NfR L ∧ rowsOf L = e ∧ L.map (·.1) = o
  nev : nevT r = tb
  prs : tabP (fun i k => !decide ((i + 1 + k) ∈ tb.getD i [])) r.length r.length = tab o r.length r.length
section
variable {K : PySem.W.Frag} {H H' H0 H1 H2 : Hp} {σ : L2.St} {te ta tb tc : TE} {D : Ends} {v : V} {d : PyData} {rs : HH.Row} {tz : TS}
def ListsA (K : PySem.W.Frag) (H : Hp) : List V → List (List Nat) → Prop := fun us ll => us.length = ll.length ∧ ∀ (i : Nat) (l : List Nat), ll[i]? = some l → ∃ p, us[i]? = some (.ref p) ∧ SqL K H p (natsV l)
theorem ListsA.ex {us : List V} {ll : List (List Nat)} (h : ListsA K H us ll) (e : Ex H H') : ListsA K H' us ll := ⟨h.1, fun i l hl => by
  obtain ⟨p, p1, p2⟩ := h.2 i l hl
  exact ⟨p, p1, ex_l e p2⟩⟩
theorem ListsA.cons {us : List V} {ll : List (List Nat)} {a : Addr} {l : List Nat} (h : ListsA K H us ll) (g : SqL K H a (natsV l)) : ListsA K H (.ref a :: us) (l :: ll) := ⟨by rw [List.length_cons, List.length_cons, h.1], fun i m hm => by
  cases i with
  | zero =>
    cases Option.some.inj hm
    exact ⟨a, rfl, g⟩
  | succ i => exact h.2 i m hm⟩
theorem ex_L {ns : List Int} (h : EvL te σ H (ns.map V.int)) : EvX K te σ H (.list (ns.map PyData.int)) := fun H1 e1 Q q => h H1 e1 _ fun p H2 hp e2 g => q _ H2 e2 (.lst (sq_of g) (dp_ints ns))
end
def dear : HH.Row := [(0, 10), (5, 1), (20, 2)]
abbrev Item := Int × HH.Row × List Nat × List (List Nat)
section
variable {K : PySem.W.Frag} {H H' H0 H1 H2 : Hp} {σ : L2.St} {te ta tb tc td : TE} {D : Ends} {v : V} {d : PyData} {rs : HH.Row} {tz : TS}
def ItemAt (K : PySem.W.Frag) (H : Hp) (x : V) (it : Item) : Prop := ∃ a ve oa ta, x = .ref a ∧ SqT K H a [.int it.1, ve, .ref oa, .ref ta] ∧ RowAt K H ve it.2.1 ∧ FrzT H oa (natsV it.2.2.1) ∧ TabAt K H ta it.2.2.2
theorem ItemAt.ex {x : V} {it : Item} (h : ItemAt K H x it) (e : Ex H H') : ItemAt K H' x it := by
  obtain ⟨a, ve, oa, ta, rfl, h1, h2, ⟨o, h3, h4⟩, h5⟩ := h
  exact ⟨a, ve, oa, ta, rfl, ex_t e h1, h2.ex e, ⟨o, h3, e _ _ h4⟩, h5.mono e⟩
end
end HH
set_option maxHeartbeats 4000000
namespace HH
open PySem PySem.Spec PyProof.Rows L2 Evl RZ
abbrev Lot := Int × Int × Int
def LotAt (K : PySem.W.Frag) (H : Hp) (v : V) (l : Lot) : Prop := ∃ p, v = .ref p ∧ SqT K H p [.int l.1, .int l.2.1, .int l.2.2]
abbrev LotsA (K : PySem.W.Frag) (H : Hp) : List V → List Lot → Prop := All2 (LotAt K H)
def HerdAt (K : PySem.W.Frag) (H : Hp) (v : V) (ls : List Lot) : Prop := ∃ a us, v = .ref a ∧ SqT K H a us ∧ LotsA K H us ls
section
variable {K : PySem.W.Frag} {H H' : Hp} {v : V} {l : Lot} {ls : List Lot} {us : List V}
theorem LotAt.ex (h : LotAt K H v l) (e : Ex H H') : LotAt K H' v l := by
  obtain ⟨p, h1, h2⟩ := h
  exact ⟨p, h1, ex_t e h2⟩
theorem LotAt.exB {q : Addr} {ys : List V} (h : LotAt K H v l) (e : ExB q H H') (hq : H q = some (.lst ys)) : LotAt K H' v l := by
  obtain ⟨p, h1, h2⟩ := h
  exact ⟨p, h1, e.t hq h2⟩
theorem LotsA.ex' (h : LotsA K H us ls) (e : Ex H H') : LotsA K H' us ls := All2.mono (fun _ _ r => r.ex e) h
theorem LotsA.exB' {q : Addr} {ys : List V} (h : LotsA K H us ls) (e : ExB q H H') (hq : H q = some (.lst ys)) : LotsA K H' us ls := All2.mono (fun _ _ r => r.exB e hq) h
theorem HerdAt.ex (h : HerdAt K H v ls) (e : Ex H H') : HerdAt K H' v ls := by
  obtain ⟨a, us, h1, h2, h3⟩ := h
  exact ⟨a, us, h1, ex_t e h2, LotsA.ex' h3 e⟩
theorem HerdAt.exB {q : Addr} {n : Nat} (h : HerdAt K H v ls) (e : ExB q H H') (hq : Bx H q n) : HerdAt K H' v ls := by
  obtain ⟨a, us, h1, h2, h3⟩ := h
  obtain ⟨xs, hx⟩ := hq.lst
  exact ⟨a, us, h1, e.t hx h2, LotsA.exB' h3 e hx⟩
end
section
variable {K : PySem.W.Frag} {σ : L2.St} {H H' : Hp} {te : TE} {v : V} {Q : VK}
theorem ev_lenTup {p : Addr} {xs : List V} (h : Ev te σ H (.ref p)) (sq : SqT K H p xs) : Ev (tCB (rLenS K) (tCons te tNil)) σ H (.int (xs.length : Int)) := fun H1 e1 Q q =>
  h H1 e1 _ fun H2 e2 => ⟨p, xs, rfl, .inr (ex_t (e1.trans e2) sq), q H2 e2⟩
theorem dp_lots : ∀ {us : List V} {ls : List Lot}, LotsA K H us ls → DpAll K H us (ls.map fun l => .tuple [.int l.1, .int l.2.1, .int l.2.2])
  | _, _, .nil => .nil
  | _, _, .cons ⟨p, e, sq⟩ h => by
    subst e
    exact .cons (.tup sq (.cons (.int _) (.cons (.int _) (.cons (.int _) .nil)))) (dp_lots h)
end
section
variable {X : Cx}
end
end HH
set_option maxHeartbeats 4000000
namespace HH
open PySem PySem.Spec PyProof.Rows L2 Evl RZ
def lS (ls : List Lot) (i : Nat) : Int := (ls[i]?.getD (0, 0, 0)).1
def lT (ls : List Lot) (i : Nat) : Int := (ls[i]?.getD (0, 0, 0)).2.1
def lM (ls : List Lot) (i : Nat) : Int := (ls[i]?.getD (0, 0, 0)).2.2
def Fit (ls : List Lot) : Prop := ls.length ≤ 100 ∧ ∀ l ∈ ls, 0 ≤ l.2.1 ∧ l.2.1 < 1152921504606846976 ∧ 0 ≤ l.2.2 ∧ l.2.2 < 1152921504606846976
theorem lot_get {ls : List Lot} {i : Nat} (h : i < ls.length) : ls[i]? = some (lS ls i, lT ls i, lM ls i) := by
  unfold lS lT lM
  rw [List.getElem?_eq_getElem h]
  rfl
theorem Fit.at' {ls : List Lot} (h : Fit ls) {i : Nat} (hi : i < ls.length) : 0 ≤ lT ls i ∧ lT ls i < 1152921504606846976 ∧ 0 ≤ lM ls i ∧ lM ls i < 1152921504606846976 := h.2 _ (List.mem_of_getElem? (lot_get hi))
def Bel (w : Nat) (line : HH.Row) : Prop := ∀ x ∈ line, ∃ j : Nat, x.1 = (j : Int) ∧ j < w
theorem Bel.app {w : Nat} {a b : HH.Row} (h : Bel w a) (g : Bel w b) : Bel w (a ++ b) := fun x hx => (List.mem_append.mp hx).elim (h x) (g x)
theorem Bel.up {w : Nat} {a : HH.Row} (h : Bel w a) : Bel (w + 1) a := fun x hx => by
  obtain ⟨j, e, hj⟩ := h x hx
  exact ⟨j, e, by omega⟩
end HH
set_option maxHeartbeats 4000000
namespace HH
open PySem PySem.Spec PyProof.Rows L2 Evl RZ
section
variable {K : PySem.W.Frag} {H H' H0 H1 H2 : Hp} {σ : L2.St} {te ta tb tc ti : TE} {D : Ends} {v : V} {ls : List Lot} {tz : TS}
theorem HerdAt.exL {q : Addr} {ys : List V} (h : HerdAt K H v ls) (e : ExB q H H') (hq : H q = some (.lst ys)) : HerdAt K H' v ls := by
  obtain ⟨a, us, h1, h2, h3⟩ := h
  exact ⟨a, us, h1, e.t hq h2, LotsA.exB' h3 e hq⟩
theorem ExB2.of {a b : Addr} (e : Ex H H') : ExB2 a b H H' := fun c o _ _ h => e c o h
theorem ExB2.trans {a b : Addr} (x : ExB2 a b H H1) (y : ExB2 a b H1 H2) : ExB2 a b H H2 := fun c o n1 n2 h => y c o n1 n2 (x c o n1 n2 h)
theorem ExB2.fst {a b : Addr} {o : HO} (x : ExB2 a b H H') : ExB2 a b H (upd H' a o) := fun c u n1 n2 h => by
  rw [upd_ne n1]
  exact x c u n1 n2 h
theorem ExB2.snd {a b : Addr} {o : HO} (x : ExB2 a b H H') : ExB2 a b H (upd H' b o) := fun c u n1 n2 h => by
  rw [upd_ne n2]
  exact x c u n1 n2 h
end
end HH
set_option maxHeartbeats 4000000
namespace HH
open PySem PySem.Spec PyProof.Rows L2 Evl RZ
section
variable {K : PySem.W.Frag} {σ : L2.St} {H : Hp} {te ta tb : TE} {D : Ends} {tz : TS}
end
end HH
set_option maxHeartbeats 4000000
namespace HH
open PySem PySem.Spec PyProof.Rows L2 Evl RZ
def MixSw (z TI TO i1 i2 a b : Addr) (i : Nat) (h : Heap) : Prop := IsZip h z TI TO .none ∧ IsTupOf2 h TI (.ref i1) (.ref i2) ∧ (∃ x y, IsTupOf2 h TO x y) ∧ h.IsTupleIter i1 a i ∧ h.IsListIter i2 b i
theorem MixSw.objs {z TI TO i1 i2 a b : Addr} {i : Nat} {h : Heap} (m : MixSw z TI TO i1 i2 a b i h) : ∀ c ∈ [z, TI, TO, i1, i2], ∃ ob, h.get? c = some ob ∧ ∀ v, ob.data ≠ .cell v := fun c hc => by
  obtain ⟨m1, m2, ⟨_, _, m3⟩, ⟨p1, g1, _, d1⟩, ⟨p2, g2, _, d2⟩⟩ := m
  rcases five hc with rfl | rfl | rfl | rfl | rfl
  · exact ⟨_, m1, fun v q => by cases q⟩
  · exact ⟨_, m2, fun v q => by cases q⟩
  · exact ⟨_, m3, fun v q => by cases q⟩
  · exact ⟨p1, g1, fun v q => by rw [d1] at q; cases q⟩
  · exact ⟨p2, g2, fun v q => by rw [d2] at q; cases q⟩
end HH
set_option maxHeartbeats 4000000
namespace HH
open PySem PySem.Spec PyProof.Rows L2 Evl RZ
end HH
set_option maxHeartbeats 4000000
namespace HH
open PySem PySem.Spec PyProof.Rows L2 Evl RZ
def lotD (l : Lot) : PyData := .tuple [.int l.1, .int l.2.1, .int l.2.2]
def herdD (ls : List Lot) : PyData := .tuple (ls.map lotD)
section
variable {K : PySem.W.Frag} {H H' H0 H1 H2 : Hp} {σ : L2.St} {te ta tb tc td ti : TE} {D : Ends} {v : V} {ls : List Lot} {tz : TS}
theorem HerdAt.dp (h : HerdAt K H v ls) : ∃ a, v = .ref a ∧ Dp K H (.ref a) (herdD ls) := by
  obtain ⟨a, us, rfl, h2, h3⟩ := h
  exact ⟨a, rfl, .tup h2 (dp_lots h3)⟩
theorem dps_app {xs ys : List V} {as bs : List PyData} (h : DpAll K H xs as) (g : DpAll K H ys bs) : DpAll K H (xs ++ ys) (as ++ bs) := by
  induction xs generalizing as with
  | nil =>
    cases h
    exact g
  | cons x xs ih =>
    cases h with
    | cons h1 h2 => exact .cons h1 (ih h2)
end
end HH
namespace HH
open PySem PySem.Spec PyProof.Rows L2 Evl RZ
section
variable {K : PySem.W.Frag} {H : Hp} {σ : L2.St} {te : TE} {D : Ends} {tz : TS}
end
end HH
set_option maxHeartbeats 4000000
namespace HT
open PySem PySem.Spec PyProof.Rows
section
variable {prog : Program} {w : World} {A : Around} {E : Value → Shared → Prop} {s : Shared}
end
end HT
namespace HH
open PySem PySem.Spec PyProof.Rows L2 Evl RZ
section
variable {K : PySem.W.Frag} {σ : L2.St} {H : Hp} {te : TE}
def wiD (d : Str × Int) : PyData := .tuple [.str d.1, .int d.2]
def TwoAt (K : PySem.W.Frag) (H : Hp) (v : V) (d : Str × Int) : Prop := ∃ t, v = .ref t ∧ SqT K H t [.str d.1, .int d.2]
theorem TwoAt.dp {v : V} {d : Str × Int} (h : TwoAt K H v d) : Dp K H v (wiD d) := by
  obtain ⟨t, rfl, h⟩ := h
  exact .tup h (.cons (.str _) (.cons (.int _) .nil))
end
end HH
set_option maxHeartbeats 4000000
namespace HH
open PySem PySem.Spec PyProof.Rows L2 Evl RZ
section
variable {X : Cx} {CX : CXT} {k n : Nat} {f C : Addr} {fd : FuncData} {ps ks : List Str} {sp : Sp} {E : XK} {m : Str} {p pos apos : Pos} {e o : Expr} {es : List Expr} {kws : List Keyword} {ta : TE} {t tk : TA} {g : List Value → List Value → List Value} {gV : List V → List V → List V}
def gFld (K : PySem.W.Frag) (to : TE) (f : Str) : TG := fun v σ H Q => to σ H fun x H1 => ∃ (a C dx : Addr) (fs : List (Str × V)), x = .ref a ∧ H1 a = some (.ins C dx fs) ∧ Cls K C ∧ NoAttr K C f ∧ fs.length < 1000 ∧ Q σ (upd H1 a (.ins C dx (putF f v fs)))
theorem pg_fld {f : Str} (ho : PE X o ta) : PG X (.Attribute o f pos) (gFld X.K ta f) := by
  refine ⟨fun pins s σ H v u Q I r h => ?_⟩
  rw [assign_Attribute]
  refine wpAny_bind (wpAny_holding (thn (ho.run pins s σ H _ I h) fun ov s2 ⟨x, H2, I2, rx, a, C, dx, fs, ex, ea, c, n, l, q2⟩ => ?_))
  subst ex
  obtain rfl : ov = Value.ref a := rx
  refine wpAny_bind (wpAny_standAt (wpAny_bind (wpAny_holding ?_)))
  exact setattr_ok I2 ea c n l r fun s3 I3 => wpAny_release ⟨σ, _, I3, q2⟩
def tMethN (C : Addr) (m : Str) (n j : Nat) (sp : Sp) (gV : List V → List V → List V) (E : XK) (ta : TE) (t tk : TA) : TE := fun σ H Q => ta σ H fun x H1 => ∃ (a dx : Addr) (fs : List (Str × V)), x = .ref a ∧ H1 a = some (.ins C dx fs) ∧ fs.lookup m = none ∧
  t σ H1 fun vs H2 => tk σ H2 fun zs H3 => vs.length = n ∧ zs.length = j ∧ sp (gV (x :: vs) zs) H3 Q E
end
end HH
set_option maxHeartbeats 4000000
namespace HH
open PySem PySem.Spec PyProof.Rows L2 Evl RZ
abbrev Fb := Int × Int × Int × Int
abbrev FoldS := List Fb × Int × List (List Fb × Int)
def FbAt (K : PySem.W.Frag) (H : Hp) (v : V) (b : Fb) : Prop := ∃ t, v = .ref t ∧ SqT K H t [.int b.1, .int b.2.1, .int b.2.2.1, .int b.2.2.2]
def LineAt (K : PySem.W.Frag) (H : Hp) (v : V) (l : List Fb) : Prop := ∃ a us, v = .ref a ∧ SqT K H a us ∧ All2 (FbAt K H) us l
def PastAt (K : PySem.W.Frag) (H : Hp) (v : V) (p : List Fb × Int) : Prop := ∃ t lv, v = .ref t ∧ SqT K H t [lv, .int p.2] ∧ LineAt K H lv p.1
def rowF (l : List Fb) : HH.Row := l.map fun b => (b.2.1, b.2.2.1)
def namesF (l : List Fb) : List Int := l.map (·.1)
def fldF (lv : V) (c : Int) (pl ml : Addr) : List (Str × V) := [("line", lv), ("coming", .int c), ("past", .ref pl), ("marks", .ref ml)]
def FoldAt (K : PySem.W.Frag) (H : Hp) (C a dx pl ml : Addr) (st : FoldS) : Prop := ∃ lv ps, H a = some (.ins C dx (fldF lv st.2.1 pl ml)) ∧ LineAt K H lv st.1 ∧ H pl = some (.lst ps) ∧ All2 (PastAt K H) ps st.2.2 ∧ ∃ ms, H ml = some (.lst ms)
def ExF (a pl : Addr) (H H' : Hp) : Prop := ∀ c o, c ≠ a → c ≠ pl → H c = some o → H' c = some o
structure FoldC (K : PySem.W.Frag) (C : Addr) : Prop where
  c : Cls K C
  l : NoAttr K C "line"
  n : NoAttr K C "coming"
  p : NoAttr K C "past"
  m : NoAttr K C "marks"
structure HasM (P : Program) (w : World) (K : PySem.W.Frag) (mg : Str → Option Value) (base : Heap) (CX : CXT) (k : Nat) (C : Addr) (m : Str) (ps : List Str) (ds : List Value) (dv : List V) (sp : Sp) (f : Addr) (fd : FuncData) : Prop where
  G : FnOk P w K mg base CX k f fd ps sp
  c : Cls K C
  m : Meth K C m f
  b : Binds K fd ps ds
  d : Vals dv ds
theorem ExF.refl {a pl : Addr} {H : Hp} : ExF a pl H H := fun _ _ _ _ h => h
theorem ExF.trans {a pl : Addr} {H H' H'' : Hp} (h : ExF a pl H H') (g : ExF a pl H' H'') : ExF a pl H H'' := fun c o n1 n2 e => g c o n1 n2 (h c o n1 n2 e)
theorem ExF.of {a pl : Addr} {H H' : Hp} (e : Ex H H') : ExF a pl H H' := fun c o _ _ h => e c o h
section
variable {K : PySem.W.Frag} {H H' : Hp} {v : V} {l : List Fb} {us : List V} {st : FoldS} {C a dx pl ml : Addr}
theorem fbs_ex (e : Ex H H') {us : List V} {l : List Fb} (h : All2 (FbAt K H) us l) : All2 (FbAt K H') us l := All2.mono (fun _ _ ⟨t, z, g⟩ => ⟨t, z, ex_t e g⟩) h
theorem LineAt.ex (h : LineAt K H v l) (e : Ex H H') : LineAt K H' v l := by
  obtain ⟨a, us, h1, h2, h3⟩ := h
  exact ⟨a, us, h1, ex_t e h2, fbs_ex e h3⟩
theorem PastAt.ex {p : List Fb × Int} (h : PastAt K H v p) (e : Ex H H') : PastAt K H' v p := by
  obtain ⟨t, lv, h1, h2, h3⟩ := h
  exact ⟨t, lv, h1, ex_t e h2, h3.ex e⟩
theorem FoldAt.ex (h : FoldAt K H C a dx pl ml st) (e : Ex H H') : FoldAt K H' C a dx pl ml st := by
  obtain ⟨lv, ps, h1, h2, h3, h4, ms, h5⟩ := h
  exact ⟨lv, ps, e _ _ h1, h2.ex e, e _ _ h3, All2.mono (fun _ _ g => g.ex e) h4, ms, e _ _ h5⟩
theorem sqt_exF {c : Addr} {xs zs : List V} {fs : List (Str × V)} (h : SqT K H c xs) (e : ExF a pl H H') (ha : H a = some (.ins C dx fs)) (hp : H pl = some (.lst zs)) : SqT K H' c xs := by
  rcases h with h | h
  · rcases h with h | ⟨o, h⟩
    · exact .inl (.inl (e _ _ (fun z => by rw [z, ha] at h; cases h) (fun z => by rw [z, hp] at h; cases h) h))
    · exact .inl (.inr ⟨o, e _ _ (fun z => by rw [z, ha] at h; cases h) (fun z => by rw [z, hp] at h; cases h) h⟩)
  · exact .inr h
theorem LineAt.exF {zs : List V} {fs : List (Str × V)} (h : LineAt K H v l) (e : ExF a pl H H') (ha : H a = some (.ins C dx fs)) (hp : H pl = some (.lst zs)) : LineAt K H' v l := by
  obtain ⟨a, us, h1, h2, h3⟩ := h
  exact ⟨a, us, h1, sqt_exF h2 e ha hp, All2.mono (fun _ _ ⟨t, z, g⟩ => ⟨t, z, sqt_exF g e ha hp⟩) h3⟩
theorem PastAt.exF {p : List Fb × Int} {zs : List V} {fs : List (Str × V)} (h : PastAt K H v p) (e : ExF a pl H H') (ha : H a = some (.ins C dx fs)) (hp : H pl = some (.lst zs)) : PastAt K H' v p := by
  obtain ⟨t, lv, h1, h2, h3⟩ := h
  exact ⟨t, lv, h1, sqt_exF h2 e ha hp, h3.exF e ha hp⟩
end
section
variable {K : PySem.W.Frag} {σ : L2.St} {H : Hp} {te ta tb : TE} {D : Ends} {v : V} {l : List Fb} {C a dx : Addr} {fs : List (Str × V)} {f : Str}
theorem ev_fld (h : Ev te σ H (.ref a)) (ha : H a = some (.ins C dx fs)) (c : Cls K C) (n : NoAttr K C f) (e : fs.lookup f = some v) : Ev (tFld K te f) σ H v := fun H1 e1 Q q =>
  h H1 e1 _ fun H2 e2 => ⟨a, C, dx, fs, v, rfl, (e1.trans e2) _ _ ha, c, n, e, q H2 e2⟩
theorem el_line {t : TE} {i j k m : Nat} {vs : List Nat} (g : Fb → V) (h : Ev te σ H v) (hv : LineAt K H v l) (hl : l.length ≤ 1000) (hw : ∀ x y z u, wipe (((((wipe σ vs).set i (some x)).set j (some y)).set k (some z)).set m (some u)) vs = wipe σ vs)
    (h1 : ∀ (b : Fb) H1, Ex H H1 → b ∈ l → Ev t (((((wipe σ vs).set i (some (.int b.1))).set j (some (.int b.2.1))).set k (some (.int b.2.2.1))).set m (some (.int b.2.2.2))) H1 (g b)) :
    EvL (tLc (iTup K te) (gTup K 4 (gCons (gName i) (gCons (gName j) (gCons (gName k) (gCons (gName m) gNil))))) tYes t vs) σ H (l.map g) := fun H0 e0 Q q => by
  obtain ⟨a, us, rfl, hs, la⟩ := hv
  refine h H0 e0 _ fun H1 e1 => ⟨a, rfl, ⟨us, ex_t (e0.trans e1) hs⟩, fun D hD => ?_⟩
  have e01 := e0.trans e1
  have hs := ex_t e01 hs
  have la := fbs_ex e01 la
  have ul := All2.len la
  refine in_it (walk_tup (xs := us)) (fun n H2 => Ex H1 H2 ∧ H2 D = some (.lst ((l.take n).map g))) ⟨Ex.new hD, upd_same⟩ (fun n H2 _ z => ex_t z.1 hs) (fun n x H2 H3 hn z y => ?_) (fun H2 z => ?_)
  · obtain ⟨rfl, hx⟩ := y
    obtain ⟨z1, z2⟩ := z
    obtain ⟨b, hb, pp, rfl, hpp⟩ := All2.get la hx
    have hm := List.mem_of_getElem? hb
    refine ⟨pp, _, rfl, ex_t z1 hpp, rfl, _, _, rfl, _, _, rfl, _, _, rfl, _, _, rfl, rfl, hw _ _ _ _, ?_⟩
    refine t_yes ?_
    refine (h1 b _ (e01.trans z1) hm) _ (Ex.refl _) _ fun H4 e4 => ?_
    refine ⟨_, e4 _ _ z2, sz_lt (by rw [List.length_map, List.length_take]; omega), Ex.mut (z1.trans e4) hD, ?_⟩
    rw [List.take_add_one, hb, List.map_append]
    exact upd_same
  · obtain ⟨z1, z2⟩ := z
    rw [ul, List.take_length] at z2
    exact q D H2 (fresh_back e1 hD) (e1.trans z1) z2
theorem er_line {i j k m : Nat} {vs : List Nat} (h : Ev te σ H v) (hv : LineAt K H v l) (hl : l.length ≤ 1000) (hw : ∀ x y z u, wipe (((((wipe σ vs).set i (some x)).set j (some y)).set k (some z)).set m (some u)) vs = wipe σ vs)
    (h1 : ∀ (b : Fb) H1, Ex H H1 → b ∈ l → Ev ta (((((wipe σ vs).set i (some (.int b.1))).set j (some (.int b.2.1))).set k (some (.int b.2.2.1))).set m (some (.int b.2.2.2))) H1 (.int b.2.1))
    (h2 : ∀ (b : Fb) H1, Ex H H1 → b ∈ l → Ev tb (((((wipe σ vs).set i (some (.int b.1))).set j (some (.int b.2.1))).set k (some (.int b.2.2.1))).set m (some (.int b.2.2.2))) H1 (.int b.2.2.1)) :
    EvR K (tThen (tLc (iTup K te) (gTup K 4 (gCons (gName i) (gCons (gName j) (gCons (gName k) (gCons (gName m) gNil))))) tYes (tTup (tCons ta (tCons tb tNil))) vs) (kTup K)) σ H (rowF l) := fun H0 e0 Q q => by
  obtain ⟨a, us, rfl, hs, la⟩ := hv
  refine h H0 e0 _ fun H1 e1 => ⟨a, rfl, ⟨us, ex_t (e0.trans e1) hs⟩, fun D hD => ?_⟩
  have e01 := e0.trans e1
  have hs := ex_t e01 hs
  have la := fbs_ex e01 la
  have ul := All2.len la
  refine in_it (walk_tup (xs := us)) (fun n H2 => Ex H1 H2 ∧ ∃ ws, H2 D = some (.lst ws) ∧ All2 (BeastAt K H2) ws ((l.take n).map fun b => (b.2.1, b.2.2.1))) ⟨Ex.new hD, [], upd_same, .nil⟩ (fun n H2 _ z => ex_t z.1 hs) (fun n x H2 H3 hn z y => ?_) (fun H2 z => ?_)
  · obtain ⟨rfl, hx⟩ := y
    obtain ⟨z1, ws, z2, z3⟩ := z
    obtain ⟨b, hb, pp, rfl, hpp⟩ := All2.get la hx
    have hm := List.mem_of_getElem? hb
    refine ⟨pp, _, rfl, ex_t z1 hpp, rfl, _, _, rfl, _, _, rfl, _, _, rfl, _, _, rfl, rfl, hw _ _ _ _, ?_⟩
    refine t_yes ?_
    refine (h1 b _ (e01.trans z1) hm) _ (Ex.refl _) _ fun H4 e4 => ?_
    refine (h2 b _ ((e01.trans z1).trans e4) hm) _ (Ex.refl _) _ fun H5 e5 => ⟨sz_of (by show 2 ≤ 100000; decide), fun T hT => ?_⟩
    have e25 := (e4.trans e5).trans (Ex.new (o := .tup [V.int b.2.1, V.int b.2.2.1]) hT)
    have gT : (upd H5 T (.tup [V.int b.2.1, V.int b.2.2.1])) T = some (.tup [V.int b.2.1, V.int b.2.2.1]) := upd_same
    generalize upd H5 T (.tup [V.int b.2.1, V.int b.2.2.1]) = H6 at e25 gT ⊢
    have eb : ∀ ys, ExB D H6 (upd H6 D (.lst ys)) := fun ys a o ne h => by
      rw [upd_ne ne]
      exact h
    refine ⟨ws, e25 _ _ z2, sz_lt (by rw [All2.len z3, List.length_map, List.length_take]; omega), Ex.mut (z1.trans e25) hD, ws ++ [.ref T], upd_same, ?_⟩
    rw [List.take_add_one, hb, List.map_append]
    exact All2.app (All2.mono (fun _ _ ⟨p, z, g⟩ => ⟨p, z, (eb _).t (e25 _ _ z2) (ex_t e25 g)⟩) z3) (.cons ⟨T, rfl, (eb _).t (e25 _ _ z2) (st_of gT)⟩ .nil)
  · obtain ⟨z1, ws, z2, z3⟩ := z
    rw [ul, List.take_length] at z3
    refine .inl ⟨D, ws, rfl, sq_of z2, fun p hp => ?_⟩
    have e2 := Ex.new (o := .tup ws) hp
    refine q _ _ ((e1.trans z1).trans e2) ⟨p, ws, rfl, st_of upd_same, ?_⟩
    exact all2_b (All2.mono (fun _ _ g => BeastAt.ex e2 g) z3)
end
end HH
set_option maxHeartbeats 4000000
namespace HH
open PySem PySem.Spec PyProof.Rows L2 Evl RZ
def spRowM (K : PySem.W.Frag) : Sp := fun vs H Q _ => ∃ (C a dx pl ml : Addr) (st : FoldS), vs = [.ref a] ∧ FoldC K C ∧ FoldAt K H C a dx pl ml st ∧ st.1.length ≤ 1000 ∧ ∀ v' H', Ex H H' → RowAt K H' v' (rowF st.1) → Q v' H'
def spNamesM (K : PySem.W.Frag) : Sp := fun vs H Q _ => ∃ (C a dx pl ml : Addr) (st : FoldS), vs = [.ref a] ∧ FoldC K C ∧ FoldAt K H C a dx pl ml st ∧ st.1.length ≤ 1000 ∧ ∀ p H', H p = none → Ex H H' → H' p = some (.lst ((namesF st.1).map V.int)) → Q (.ref p) H'
def spLenM (K : PySem.W.Frag) : Sp := fun vs H Q _ => ∃ (C a dx pl ml : Addr) (st : FoldS), vs = [.ref a] ∧ FoldC K C ∧ FoldAt K H C a dx pl ml st ∧ st.1.length ≤ 1000 ∧ RetV (.int (st.1.length : Int)) H Q
def spDeedsM (K : PySem.W.Frag) : Sp := fun vs H Q _ => ∃ (C a dx pl ml : Addr) (st : FoldS), vs = [.ref a] ∧ FoldC K C ∧ FoldAt K H C a dx pl ml st ∧ st.2.2.length ≤ 1000 ∧ RetV (.int (st.2.2.length : Int)) H Q
def turnF (st : FoldS) (l : List Fb) (c : Int) : FoldS := (l, c, st.2.2 ++ [(st.1, st.2.1)])
def spTurnM (K : PySem.W.Frag) : Sp := fun vs H Q _ => ∃ (C a dx pl ml : Addr) (st : FoldS) (lv : V) (l : List Fb) (c : Int), vs = [.ref a, lv, .int c] ∧ FoldC K C ∧ FoldAt K H C a dx pl ml st ∧ a ≠ pl ∧ ml ≠ pl ∧ ml ≠ a ∧ LineAt K H lv l ∧ st.2.2.length ≤ 1000 ∧ ∀ H', ExF a pl H H' → FoldAt K H' C a dx pl ml (turnF st l c) → Q .non H'
def putF' (st : FoldS) (i : Nat) (ps : List Fb) : FoldS := turnF st (st.1.take i ++ ps ++ st.1.drop (i + 1)) st.2.1
def spPutM (K : PySem.W.Frag) (C : Addr) : Sp := fun vs H Q _ => ∃ (a dx pl ml : Addr) (st : FoldS) (pv : V) (ps : List Fb) (i : Nat), vs = [.ref a, .int (i : Int), pv] ∧ FoldC K C ∧ FoldAt K H C a dx pl ml st ∧ a ≠ pl ∧ ml ≠ pl ∧ ml ≠ a ∧ LineAt K H pv ps ∧ i < st.1.length ∧ st.1.length ≤ 1000 ∧ ps.length ≤ 1000 ∧ st.2.2.length ≤ 1000 ∧ ∀ H', ExF a pl H H' → FoldAt K H' C a dx pl ml (putF' st i ps) → Q .non H'
def spPlaceM (K : PySem.W.Frag) (C CN : Addr) : Sp := fun vs H Q X => ∃ (a dx pl ml : Addr) (st : FoldS) (n : Int), vs = [.ref a, .int n] ∧ FoldC K C ∧ FoldAt K H C a dx pl ml st ∧ st.1.length ≤ 1000 ∧
  (∀ i : Nat, (namesF st.1)[i]? = some n → (∀ j < i, (namesF st.1)[j]? ≠ some n) → RetV (.int (i : Int)) H Q) ∧ (n ∉ namesF st.1 → ∀ d H', Ex H H' → H' d = none → X (.ref CN) (some d) (upd H' d (.xd [(("name" : Str), .int n)])))
def spNamedM (K : PySem.W.Frag) (C CN a pl dx ml : Addr) (st : FoldS) (n : Int) (go : Nat → FoldS) (H : Hp) (Q : VK) (X : XK) : Prop :=
  (∀ i : Nat, (namesF st.1)[i]? = some n → (∀ j < i, (namesF st.1)[j]? ≠ some n) → ∀ H', ExF a pl H H' → FoldAt K H' C a dx pl ml (go i) → Q .non H') ∧ (n ∉ namesF st.1 → ∀ d H', Ex H H' → H' d = none → X (.ref CN) (some d) (upd H' d (.xd [(("name" : Str), .int n)])))
def spLeaveM (K : PySem.W.Frag) (C CN : Addr) : Sp := fun vs H Q X => ∃ (a dx pl ml : Addr) (st : FoldS) (n : Int), vs = [.ref a, .int n] ∧ FoldC K C ∧ FoldAt K H C a dx pl ml st ∧ a ≠ pl ∧ ml ≠ pl ∧ ml ≠ a ∧ st.1.length ≤ 1000 ∧ st.2.2.length ≤ 1000 ∧ spNamedM K C CN a pl dx ml st n (fun i => putF' st i []) H Q X
theorem first_at {l : List Int} {n : Int} (h : n ∈ l) : ∃ i : Nat, l[i]? = some n ∧ ∀ j < i, l[j]? ≠ some n := by
  induction l with
  | nil => cases h
  | cons x l ih =>
    by_cases c : x = n
    · exact ⟨0, by rw [c]; rfl, fun j hj => absurd hj (Nat.not_lt_zero j)⟩
    · obtain ⟨i, h1, h2⟩ := ih ((List.mem_cons.mp h).resolve_left fun z => c z.symm)
      refine ⟨i + 1, h1, fun j hj => ?_⟩
      cases j with
      | zero => simpa using c
      | succ j => exact h2 j (by omega)
section
variable {K : PySem.W.Frag} {H H' : Hp} {σ : L2.St} {te ta tb : TE} {v : V} {l m : List Fb} {st : FoldS} {C a dx pl ml : Addr} {D : Ends}
def EvLn (K : PySem.W.Frag) (te : TE) (σ : L2.St) (H : Hp) (l : List Fb) : Prop := ∀ H1, Ex H H1 → ∀ Q : VK, (∀ v H2, Ex H1 H2 → LineAt K H2 v l → Q v H2) → te σ H1 Q
theorem ln_val (h : Ev te σ H v) (hv : LineAt K H v l) : EvLn K te σ H l := fun H1 e1 Q q => h H1 e1 _ fun H2 e2 => q v H2 e2 (hv.ex (e1.trans e2))
theorem ln_cat (ha : EvLn K ta σ H l) (hb : EvLn K tb σ H m) (hl : l.length + m.length ≤ 100000) : EvLn K (tOp (rCatA K) ta tb) σ H (l ++ m) := fun H1 e Q q =>
  ha H1 e _ fun v H2 e2 hv => hb H2 (e.trans e2) _ fun u H3 e3 hu => by
    obtain ⟨a, vs, rfl, h1, h2⟩ := hv.ex e3
    obtain ⟨b, us, rfl, g1, g2⟩ := hu
    have l1 := All2.len h2
    have l2 := All2.len g2
    refine ⟨a, b, vs, us, rfl, rfl, h1, g1, by rw [l1, l2]; exact sz_of hl, fun z => ?_, fun _ z => ?_, fun _ _ p hp => ?_⟩
    · subst z
      have e0 : l = [] := List.length_eq_zero_iff.mp l1.symm
      subst e0
      exact q _ H3 (e2.trans e3) ⟨b, us, rfl, g1, g2⟩
    · subst z
      have e0 : m = [] := List.length_eq_zero_iff.mp l2.symm
      subst e0
      rw [List.append_nil] at q
      exact q _ H3 (e2.trans e3) ⟨a, vs, rfl, h1, h2⟩
    · exact q _ _ ((e2.trans e3).trans (Ex.new hp)) ⟨p, _, rfl, st_of upd_same, fbs_ex (Ex.new hp) (All2.app h2 g2)⟩
theorem ln_to {ti : TE} {j : Nat} (h : EvLn K te σ H l) (hi : Ev ti σ H (.int (j : Int))) : EvLn K (tSl (rSlA K) te tNoPart (tPart ti)) σ H (l.take j) := fun H1 e Q q =>
  h H1 e _ fun v H2 e2 hv => hi H2 (e.trans e2) _ fun H3 e3 => by
    obtain ⟨a, vs, rfl, h1, h2⟩ := hv.ex e3
    refine ⟨(j : Int), rfl, a, vs, rfl, h1, fun z => ?_, fun _ p hp => ?_⟩
    · have e0 := cut_all z
      rw [cut_to] at e0
      refine q _ H3 (e2.trans e3) ⟨a, vs, rfl, h1, ?_⟩
      have h3 := all2_take j h2
      rw [e0] at h3
      exact h3
    · refine q _ _ ((e2.trans e3).trans (Ex.new hp)) ⟨p, _, rfl, st_of upd_same, ?_⟩
      rw [cut_to]
      exact fbs_ex (Ex.new hp) (all2_take j h2)
theorem ln_from {ti : TE} {j : Nat} (h : EvLn K te σ H l) (hi : Ev ti σ H (.int (j : Int))) : EvLn K (tSl (rSlA K) te (tPart ti) tNoPart) σ H (l.drop j) := fun H1 e Q q =>
  h H1 e _ fun v H2 e2 hv => hi H2 (e.trans e2) _ fun H3 e3 => by
    obtain ⟨a, vs, rfl, h1, h2⟩ := hv.ex e3
    refine ⟨(j : Int), rfl, a, vs, rfl, h1, fun z => ?_, fun _ p hp => ?_⟩
    · have e0 := cut_all z
      rw [cut_from] at e0
      refine q _ H3 (e2.trans e3) ⟨a, vs, rfl, h1, ?_⟩
      have h3 := all2_drop j h2
      rw [e0] at h3
      exact h3
    · refine q _ _ ((e2.trans e3).trans (Ex.new hp)) ⟨p, _, rfl, st_of upd_same, ?_⟩
      rw [cut_from]
      exact fbs_ex (Ex.new hp) (all2_drop j h2)
theorem ln_one {t1 t2 t3 t4 : TE} {b : Fb} (h1 : Ev t1 σ H (.int b.1)) (h2 : Ev t2 σ H (.int b.2.1)) (h3 : Ev t3 σ H (.int b.2.2.1)) (h4 : Ev t4 σ H (.int b.2.2.2)) : EvLn K (tTup (tCons (tTup (tCons t1 (tCons t2 (tCons t3 (tCons t4 tNil))))) tNil)) σ H [b] := fun H1 e1 Q q =>
  h1 H1 e1 _ fun H2 e2 => h2 H2 (e1.trans e2) _ fun H3 e3 => h3 H3 ((e1.trans e2).trans e3) _ fun H4 e4 => h4 H4 (((e1.trans e2).trans e3).trans e4) _ fun H5 e5 => ⟨sz_of (by show 4 ≤ 100000; decide), fun p hp => ⟨sz_of (by show 1 ≤ 100000; decide), fun T hT => q _ _ (((((e2.trans e3).trans e4).trans e5).trans (Ex.new hp)).trans (Ex.new hT)) ⟨T, _, rfl, st_of upd_same, .cons ⟨p, rfl, st_of (Ex.new hT _ _ upd_same)⟩ .nil⟩⟩⟩
theorem ln_nil : EvLn K (tTup tNil) σ H [] := fun H1 e1 Q q => ⟨sz_of (by show 0 ≤ 100000; decide), fun T hT => q _ _ (Ex.new hT) ⟨T, [], rfl, st_of upd_same, .nil⟩⟩
end
end HH
set_option maxHeartbeats 4000000
namespace HH
open PySem PySem.Spec PyProof.Rows L2 Evl RZ
section
variable {X : Cx} {CX : CXT} {k n : Nat} {f C : Addr} {fd : FuncData} {ps ks : List Str} {ds : List Value} {dvs : List V} {sp : Sp} {E : L2.St → XK} {m : Str} {p pos apos : Pos} {e o : Expr} {es : List Expr} {kws : List Keyword} {ta : TE} {t tk : TA} {g : List Value → List Value → List Value} {gV : List V → List V → List V}
def tMethX (C : Addr) (m : Str) (sp : Sp) (dvs : List V) (E : L2.St → XK) (ta : TE) (t : TA) : TE := fun σ H Q => ta σ H fun x H1 => ∃ (a dx : Addr) (fs : List (Str × V)), x = .ref a ∧ H1 a = some (.ins C dx fs) ∧ fs.lookup m = none ∧ t σ H1 fun vs H2 => sp (x :: (vs ++ dvs)) H2 Q (E σ)
theorem pe_methX {pl : Sem Bool} (he : PE X o ta) (c : Cls X.K C) (hm : Meth X.K C m f) (F : FnOk X.prog X.w X.K X.mg X.base CX k f fd ps sp) (hr : Room k X.A) (hb : Binds X.K fd ps ds) (hd : Vals dvs ds) (hx : ∀ σ, PassesAt CX X σ (E σ)) (ha : PA X (e :: es) t)
    (hst : starEach (e :: es) X.env = (false, eval e X.env) :: starEach es X.env := by rfl) (hpl : (backTo pos (starEach es X.env)).any (·.1) = false := by rfl)
    (ht : eval (.Call (.Attribute o m apos) (e :: es) [] pos) X.env = (do
      let ov ← eval o X.env
      standAt apos.atName
      let (f, first) ← holding [ov] (getMethod ov m pl)
      callWith pos f first (backTo pos (starEach (e :: es) X.env)) (backToKw pos (keywordEach [] X.env))) := by rfl) :
    PE X (.Call (.Attribute o m apos) (e :: es) [] pos) (tMethX C m sp dvs E ta t) := by
  refine ⟨fun pins s σ H Q I h => ?_⟩
  refine PySem.W.methodCall_KW (pl := pl) (thn (he.run pins s σ H _ I h) fun u s1 ⟨x, H1, I1, rx, a, dx, fs, ex, ea, l, q⟩ => ?_) ht
  subst ex
  obtain rfl : u = Value.ref a := rx
  refine getmeth_ok I1 ea c hm l ?_
  refine PySem.W.callWith_K (first := [.ref a]) (h₀ := X.base) I.ok.mod.kin hm.kp (thn (ha.run pos pins s1 σ H1 _ I1 q) fun us s2 ⟨vs, H2, I2, r, q2⟩ => ⟨I2.kIn, ?_⟩) hst hpl
  exact run_fnSD (us := .ref a :: us) (vs := .ref a :: vs) F hr hb hd (hx σ) I2 (.cons rfl r) q2
end
section
variable {K : PySem.W.Frag} {σ : L2.St} {H H' : Hp} {ta tb te : TE} {v : V}
theorem ev_notInI {l : List Int} {n : Int} {q : Addr} (h1 : Ev ta σ H (.int n)) (h2 : Ev tb σ H (.ref q)) (hq : SqL K H q (l.map V.int)) : Ev (tOp (rNotInD K) ta tb) σ H (.bl (!decide (n ∈ l))) := fun H1 e1 Q k1 =>
  h1 H1 e1 _ fun H2 e2 => h2 H2 (e1.trans e2) _ fun H3 e3 => by
    have hs := ex_l ((e1.trans e2).trans e3) hq
    have nn : Nice 1 (.list (l.map PyData.int)) := nice_list (nice_ints _)
    refine ⟨.int n, l.map PyData.int, .int _, .lst hs (dp_ints _), (nice_int 0 _).shaped (by decide), nn.shaped (by decide), ?_⟩
    rw [any_ints]
    exact k1 H3 (e2.trans e3)
theorem ev_indexI {l : List Int} {n : Int} {j : Nat} {a : Addr} (ha : Ev ta σ H (.ref a)) (hb : Ev tb σ H (.int n)) (hl : SqL K H a (l.map V.int)) (hj : l[j]? = some n) (no : ∀ m < j, l[m]? ≠ some n) : Ev (tBM K "list" (rIndex K) ta (tCons tb tNil)) σ H (.int (j : Int)) := fun H1 e1 Q q =>
  ha H1 e1 _ fun H2 e2 => ⟨.inl ⟨rfl, _, ex_l (e1.trans e2) hl⟩, hb H2 (e1.trans e2) _ fun H3 e3 => by
    refine ⟨a, l.map V.int, .int n, j, .int n, rfl, rfl, ex_l ((e1.trans e2).trans e3) hl, rfl, ?_, by rw [List.getElem?_map, hj]; rfl, by simp [eqV], fun m z hm hz => ?_, q H3 (e2.trans e3)⟩
    · rw [List.all_eq_true]
      intro x hx
      obtain ⟨y, _, rfl⟩ := List.mem_map.mp hx
      rfl
    · rw [List.getElem?_map, Option.map_eq_some_iff] at hz
      obtain ⟨y, hy, rfl⟩ := hz
      have : y ≠ n := fun z => no m hm (by rw [hy, z])
      simpa [eqV] using this⟩
end
def onF (st : FoldS) (i : Nat) (g : Fb → Fb) : FoldS := putF' st i ((st.1[i]?).toList.map g)
def spFeedM (K : PySem.W.Frag) (C CN : Addr) : Sp := fun vs H Q X => ∃ (a dx pl ml : Addr) (st : FoldS) (n d : Int), vs = [.ref a, .int n, .int d] ∧ FoldC K C ∧ FoldAt K H C a dx pl ml st ∧ a ≠ pl ∧ ml ≠ pl ∧ ml ≠ a ∧ st.1.length ≤ 1000 ∧ st.2.2.length ≤ 1000 ∧ spNamedM K C CN a pl dx ml st n (fun i => onF st i fun b => (n, b.2.1 + d, b.2.2.1, b.2.2.2)) H Q X
def spAskM (K : PySem.W.Frag) (C CN : Addr) : Sp := fun vs H Q X => ∃ (a dx pl ml : Addr) (st : FoldS) (n d : Int), vs = [.ref a, .int n, .int d] ∧ FoldC K C ∧ FoldAt K H C a dx pl ml st ∧ a ≠ pl ∧ ml ≠ pl ∧ ml ≠ a ∧ st.1.length ≤ 1000 ∧ st.2.2.length ≤ 1000 ∧ spNamedM K C CN a pl dx ml st n (fun i => onF st i fun b => (n, b.2.1, d, b.2.2.2)) H Q X
def spPaidM (K : PySem.W.Frag) (C CN : Addr) : Sp := fun vs H Q X => ∃ (a dx pl ml : Addr) (st : FoldS) (n : Int), vs = [.ref a, .int n] ∧ FoldC K C ∧ FoldAt K H C a dx pl ml st ∧ st.1.length ≤ 1000 ∧
  (∀ (i : Nat) (b : Fb), st.1[i]? = some b → b.1 = n → (∀ j < i, (namesF st.1)[j]? ≠ some n) → RetV (.int b.2.2.2) H Q) ∧ (n ∉ namesF st.1 → ∀ d H', Ex H H' → H' d = none → X (.ref CN) (some d) (upd H' d (.xd [(("name" : Str), .int n)])))
theorem name_at {l : List Fb} {i : Nat} {n : Int} (h : (namesF l)[i]? = some n) : ∃ b, l[i]? = some b ∧ b.1 = n := by
  rw [namesF, List.getElem?_map, Option.map_eq_some_iff] at h
  exact h
theorem all2_at {R : V → Fb → Prop} {us : List V} {l : List Fb} {i : Nat} {b : Fb} (h : All2 R us l) (hb : l[i]? = some b) : ∃ u, us[i]? = some u ∧ R u b := by
  have hi : i < us.length := by
    rw [All2.len h]
    exact (List.getElem?_eq_some_iff.mp hb).1
  obtain ⟨x, hx, r⟩ := All2.get h (List.getElem?_eq_getElem hi)
  rw [hb] at hx
  cases hx
  exact ⟨_, List.getElem?_eq_getElem hi, r⟩
theorem ev_lineIx {K : PySem.W.Frag} {σ : L2.St} {H : Hp} {te ti : TE} {v : V} {l : List Fb} {i : Nat} {b : Fb} (h : Ev te σ H v) (hv : LineAt K H v l) (hi : Ev ti σ H (.int (i : Int))) (hb : l[i]? = some b) : ∃ t, SqT K H t [.int b.1, .int b.2.1, .int b.2.2.1, .int b.2.2.2] ∧ Ev (tOp (rIxT K) te ti) σ H (.ref t) := by
  obtain ⟨a, us, rfl, h1, h2⟩ := hv
  obtain ⟨u, hu, t, rfl, ht⟩ := all2_at h2 hb
  exact ⟨t, ht, ev_op h hi (rv_ixT h1 (atI_nat hu))⟩
theorem pe_gint {X : Cx} {x : Str} {i : Int} {p : Pos} (hg : Gl X x) (h : ∃ t, X.mg x = some (.int i t)) (hdb : (x == ("__debug__" : Str)) = false := by decide) : PE X (.Name x p) (tC (.int i)) := by
  obtain ⟨t, h⟩ := h
  exact pe_glob (v := .int i) hg h ⟨t, rfl⟩ hdb
def placeV : Option Int → V
  | none => .non
  | some p => .int p
def comeF (st : FoldS) (i : Nat) (s t : Int) : FoldS := turnF st (st.1.take i ++ [(st.2.1, s, t, 0)] ++ st.1.drop i) (st.2.1 + 1)
def spComeM (K : PySem.W.Frag) (C CF CP : Addr) : Sp := fun vs H Q X => ∃ (a dx pl ml : Addr) (st : FoldS) (s t : Int) (o : Option Int), vs = [.ref a, .int s, .int t, placeV o] ∧ FoldC K C ∧ FoldAt K H C a dx pl ml st ∧ a ≠ pl ∧ ml ≠ pl ∧ ml ≠ a ∧ st.1.length ≤ 1000 ∧ st.2.2.length ≤ 1000 ∧
  (24 ≤ st.1.length → ∀ d H', Ex H H' → H' d = none → X (.ref CF) (some d) (upd H' d (.xd [(("many" : Str), .int 24)]))) ∧
  (st.1.length < 24 → (o.getD st.1.length < 0 ∨ (st.1.length : Int) < o.getD st.1.length) → ∀ d H', Ex H H' → H' d = none → X (.ref CP) (some d) (upd H' d (.xd [(("place" : Str), placeV o)]))) ∧
  (st.1.length < 24 → ∀ i : Nat, o.getD st.1.length = (i : Int) → i ≤ st.1.length → ∀ H', ExF a pl H H' → FoldAt K H' C a dx pl ml (comeF st i s t) → Q (.int st.2.1) H')
def mvF (l : List Fb) (w : Nat) (b : Int × Int) : Fb := match l[w]? with
  | some x => (x.1, b.1, b.2, x.2.2.2 + x.2.1 - b.1)
  | none => (0, 0, 0, 0)
def movedF (l : List Fb) (rs : HH.Row) (os : List Nat) : List Fb := List.zipWith (mvF l) os rs
def EndOf (K : PySem.W.Frag) (H : Hp) (v : V) (rs : HH.Row) (os : List Nat) : Prop := ∃ e rv o, v = .ref e ∧ SqT K H e [rv, .ref o] ∧ RowAt K H rv rs ∧ SqT K H o (natsV os)
def spMovedM (K : PySem.W.Frag) : Sp := fun vs H Q _ => ∃ (lv ev : V) (l : List Fb) (rs : HH.Row) (os : List Nat), vs = [lv, ev] ∧ LineAt K H lv l ∧ EndOf K H ev rs os ∧ os.length = l.length ∧ rs.length = l.length ∧ l.length ≤ 1000 ∧ (∀ w ∈ os, w < l.length) ∧ ∀ v' H', Ex H H' → LineAt K H' v' (movedF l rs os) → Q v' H'
def spMoveM (K : PySem.W.Frag) (C : Addr) : Sp := fun vs H Q _ => ∃ (a dx pl ml : Addr) (st : FoldS) (ev : V) (rs : HH.Row) (os : List Nat), vs = [.ref a, ev] ∧ FoldC K C ∧ FoldAt K H C a dx pl ml st ∧ a ≠ pl ∧ ml ≠ pl ∧ ml ≠ a ∧ EndOf K H ev rs os ∧ os.length = st.1.length ∧ rs.length = st.1.length ∧ st.1.length ≤ 30 ∧ os.Nodup ∧ (∀ w ∈ os, w < st.1.length) ∧ (∀ x, x < os.length → x ∈ os) ∧ st.2.2.length ≤ 1000 ∧
  ∀ H', ExF a pl H H' → FoldAt K H' C a dx pl ml (turnF st (movedF st.1 rs os) st.2.1) → Q (.int ((tab os os.length os.length).length : Nat)) H'
def spUndoM (K : PySem.W.Frag) (C : Addr) : Sp := fun vs H Q _ => ∃ (a dx pl ml : Addr) (st : FoldS), vs = [.ref a] ∧ FoldC K C ∧ FoldAt K H C a dx pl ml st ∧ a ≠ pl ∧ ml ≠ pl ∧ ml ≠ a ∧ st.2.2.length ≤ 1000 ∧ (st.2.2 = [] → RetV (.bl false) H Q) ∧
  ∀ ps l c, st.2.2 = ps ++ [(l, c)] → ∀ H', ExF a pl H H' → FoldAt K H' C a dx pl ml (l, c, ps) → Q (.bl true) H'
theorem ev_eqI {σ : L2.St} {H : Hp} {ta tb : TE} {i j : Int} {r : Bool} (h1 : Ev ta σ H (.int i)) (h2 : Ev tb σ H (.int j)) (e : decide (i = j) = r) : Ev (tOp rEq ta tb) σ H (.bl r) := by
  subst e
  have := ev_op (r := rEq) h1 h2 (rv_eq (x := .int i) (y := .int j) rfl)
  rw [show decide (V.int i = V.int j) = decide (i = j) from decide_eq_decide.mpr ⟨fun h => by injection h, fun h => by rw [h]⟩] at this
  exact this
def startF (rs : HH.Row) : List Fb := (List.range rs.length).map fun (n : Nat) => ((n : Int), sS rs n, tS rs n, 0)
theorem ln_init {K : PySem.W.Frag} {σ : L2.St} {H : Hp} {te : TE} {v : V} {rs : HH.Row} {i j k : Nat} {vs : List Nat} (h : Ev te σ H v) (hv : RowAt K H v rs) (hl : rs.length ≤ 1000) (hw : ∀ x y z, wipe ((((wipe σ vs).set i (some x)).set j (some y)).set k (some z)) vs = wipe σ vs)
    (hi : ∀ x y z : V, ((((wipe σ vs).set i (some x)).set j (some y)).set k (some z))[i]? = some (some x)) (hj : ∀ x y z : V, ((((wipe σ vs).set i (some x)).set j (some y)).set k (some z))[j]? = some (some y)) (hk : ∀ x y z : V, ((((wipe σ vs).set i (some x)).set j (some y)).set k (some z))[k]? = some (some z)) :
    EvLn K (tThen (tLc (iEnumT K (tCons te tNil)) (gTup K 2 (gCons (gName i) (gCons (gTup K 2 (gCons (gName j) (gCons (gName k) gNil))) gNil))) tYes (tTup (tCons (tVar i) (tCons (tVar j) (tCons (tVar k) (tCons (tC (.int 0)) tNil))))) vs) (kTup K)) σ H (startF rs) := fun H0 e0 Q q => by
  obtain ⟨a, us, rfl, hs, bs⟩ := hv
  refine h H0 e0 _ fun H1 e1 => ⟨a, us, rfl, ex_t (e0.trans e1) hs, fun D hD => ?_⟩
  have e01 := e0.trans e1
  have hs := ex_t e01 hs
  have bs := bs.ex e01
  refine in_it (walk_enumT (xs := us)) (fun n H2 => Ex H1 H2 ∧ ∃ ws, H2 D = some (.lst ws) ∧ All2 (FbAt K H2) ws ((startF rs).take n)) ⟨Ex.new hD, [], upd_same, .nil⟩ (fun n H2 _ z => ex_t z.1 hs) (fun n x H2 H3 hn z y => ?_) (fun H2 z => ?_)
  · obtain ⟨T, x1, x2, rfl, hT, rfl, hx1, hx2⟩ := y
    dsimp only at hx1 hx2
    cases hx1
    obtain ⟨z1, ws, z2, z3⟩ := z
    have hnr : n < rs.length := by
      have := bs.1
      omega
    obtain ⟨u, hu, bt, rfl, hbt⟩ := bs.2 n _ (row_get hnr)
    rw [hu] at hx2
    cases hx2
    have nT := Ex.new (o := .tup [.int (n : Nat), .ref bt]) hT
    have gT : (upd H2 T (.tup [.int (n : Nat), .ref bt])) T = some (.tup [.int (n : Nat), .ref bt]) := upd_same
    generalize upd H2 T (.tup [.int (n : Nat), .ref bt]) = H4 at nT gT ⊢
    refine ⟨T, _, rfl, st_of gT, rfl, _, _, rfl, _, _, rfl, ⟨bt, _, rfl, ex_t (z1.trans nT) hbt, rfl, _, _, rfl, _, _, rfl, rfl, rfl, hw _ _ _, ?_⟩⟩
    refine t_yes ?_
    refine (eu_tup (ea_cons (ev_var (hi _ _ _)) (ea_cons (ev_var (hj _ _ _)) (ea_cons (ev_var (hk _ _ _)) (ea_cons ev_c ea_nil)))) (by show 4 ≤ 100000; decide)) H4 (Ex.refl _) _ fun p H5 hp e5 g5 => ?_
    have e25 := nT.trans e5
    have xq : ∀ ys, ExB D H5 (upd H5 D (.lst ys)) := fun ys a o ne h => by
      rw [upd_ne ne]
      exact h
    refine ⟨ws, e25 _ _ z2, sz_lt (by rw [All2.len z3, List.length_take, startF, List.length_map, List.length_range]; omega), Ex.mut (z1.trans e25) hD, ws ++ [.ref p], upd_same, ?_⟩
    have hm : (startF rs)[n]? = some ((n : Int), sS rs n, tS rs n, 0) := by
      rw [startF, List.getElem?_map, List.getElem?_range hnr]
      rfl
    rw [List.take_add_one, hm]
    exact All2.app (All2.mono (fun _ _ ⟨t, z, g⟩ => ⟨t, z, (xq _).t (e25 _ _ z2) (ex_t e25 g)⟩) z3) (.cons ⟨p, rfl, (xq _).t (e25 _ _ z2) (st_of g5)⟩ .nil)
  · obtain ⟨z1, ws, z2, z3⟩ := z
    have ul : us.length = (startF rs).length := by rw [startF, List.length_map, List.length_range]; exact bs.1
    rw [ul, List.take_length] at z3
    refine .inl ⟨D, ws, rfl, sq_of z2, fun p hp => ?_⟩
    have e2 := Ex.new (o := .tup ws) hp
    exact q _ _ ((e1.trans z1).trans e2) ⟨p, ws, rfl, st_of upd_same, fbs_ex e2 z3⟩
section
variable {K : PySem.W.Frag} {σ : L2.St} {H : Hp} {ta tv : TE} {D : Ends} {tz : TS} {a C dx : Addr} {fs : List (Str × V)} {f : Str} {v : V} {l : List Fb}
theorem q_fldLn (h : EvLn K tv σ H l) (ho : ∀ H1, Ev ta σ H1 (.ref a)) (ha : H a = some (.ins C dx fs)) (c : Cls K C) (n : NoAttr K C f) (hl : fs.length < 1000) (k : ∀ v H1, Ex H H1 → LineAt K H1 v l → tz D σ (upd H1 a (.ins C dx (putF f v fs)))) : tSeq (sFld K ta tv f) tz D σ H :=
  h H (Ex.refl H) _ fun v H1 e1 hv => ho H1 H1 (Ex.refl _) _ fun H2 e2 => ⟨a, C, dx, fs, rfl, (e1.trans e2) _ _ ha, c, n, hl, k v H2 (e1.trans e2) (hv.ex e2)⟩
theorem q_fldV (h : Ev tv σ H v) (ho : ∀ H1, Ev ta σ H1 (.ref a)) (ha : H a = some (.ins C dx fs)) (c : Cls K C) (n : NoAttr K C f) (hl : fs.length < 1000) (k : ∀ H1, Ex H H1 → tz D σ (upd H1 a (.ins C dx (putF f v fs)))) : tSeq (sFld K ta tv f) tz D σ H :=
  h H (Ex.refl H) _ fun H1 e1 => ho H1 H1 (Ex.refl _) _ fun H2 e2 => ⟨a, C, dx, fs, rfl, (e1.trans e2) _ _ ha, c, n, hl, k H2 (e1.trans e2)⟩
theorem s_fldL {xs : List V} (h : EvL tv σ H xs) (ho : ∀ H1, Ev ta σ H1 (.ref a)) (ha : H a = some (.ins C dx fs)) (c : Cls K C) (n : NoAttr K C f) (hl : fs.length < 1000) (k : ∀ p H1, H p = none → Ex H H1 → H1 p = some (.lst xs) → D.nx σ (upd H1 a (.ins C dx (putF f (.ref p) fs)))) : sFld K ta tv f D σ H :=
  h H (Ex.refl H) _ fun p H1 hp e1 g => ho H1 H1 (Ex.refl _) _ fun H2 e2 => ⟨a, C, dx, fs, rfl, (e1.trans e2) _ _ ha, c, n, hl, k p H2 hp (e1.trans e2) (e2 _ _ g)⟩
theorem q_fldL {xs : List V} (h : EvL tv σ H xs) (ho : ∀ H1, Ev ta σ H1 (.ref a)) (ha : H a = some (.ins C dx fs)) (c : Cls K C) (n : NoAttr K C f) (hl : fs.length < 1000) (k : ∀ p H1, H p = none → Ex H H1 → H1 p = some (.lst xs) → tz D σ (upd H1 a (.ins C dx (putF f (.ref p) fs)))) : tSeq (sFld K ta tv f) tz D σ H :=
  s_fldL (D := { D with nx := tz D }) h ho ha c n hl k
end
def spSettleM (K : PySem.W.Frag) (C : Addr) (M : List Cow → List Cow → Prop) : Sp := fun vs H Q _ => ∃ (a dx pl ml : Addr) (st : FoldS), vs = [.ref a] ∧ FoldC K C ∧ FoldAt K H C a dx pl ml st ∧ a ≠ pl ∧ ml ≠ pl ∧ ml ≠ a ∧ st.1.length ≤ 30 ∧ (∀ b ∈ rowF st.1, 0 ≤ b.2) ∧ st.2.2.length ≤ 1000 ∧
  ∀ (L : List Cow) H', M (tag 0 (rowF st.1)) L → ExF a pl H H' → FoldAt K H' C a dx pl ml (turnF st (movedF st.1 (rowsOf L) (L.map (·.1))) st.2.1) → Q (.int ((tab (L.map (·.1)) (L.map (·.1)).length (L.map (·.1)).length).length : Nat)) H'
theorem ids_facts {L : List Cow} {n : Nat} (h : (L.map (·.1)).Perm (List.range n)) : (L.map (·.1)).Nodup ∧ (∀ w ∈ L.map (·.1), w < n) ∧ (L.map (·.1)).length = n ∧ ∀ x, x < n → x ∈ L.map (·.1) :=
  ⟨h.nodup_iff.mpr List.nodup_range, fun w hw => List.mem_range.mp (h.mem_iff.mp hw), by rw [h.length_eq, List.length_range], fun x hx => h.mem_iff.mpr (List.mem_range.mpr hx)⟩
theorem swapL_perm {l : List Nat} {p : Nat} (h : p + 1 < l.length) : (swapL l p).Perm l := by
  have h1 : l.drop p = l[p] :: l.drop (p + 1) := List.drop_eq_getElem_cons (by omega)
  have h2 : l.drop (p + 1) = l[p + 1] :: l.drop (p + 1 + 1) := List.drop_eq_getElem_cons (by omega)
  have e1 : ixN l p = l[p] := by
    unfold ixN
    first | rw [List.getElem?_eq_getElem (by omega)]; rfl | simp [List.getD, List.getElem?_eq_getElem (show p < l.length by omega)]
  have e2 : ixN l (p + 1) = l[p + 1] := by
    unfold ixN
    first | rw [List.getElem?_eq_getElem (by omega)]; rfl | simp [List.getD, List.getElem?_eq_getElem h]
  have e3 : l = l.take p ++ (l[p] :: l[p + 1] :: l.drop (p + 2)) := by
    rw [← h2, ← h1, List.take_append_drop]
  unfold swapL
  rw [e1, e2, List.append_assoc]
  refine List.Perm.trans ?_ (List.Perm.of_eq e3.symm)
  exact List.Perm.append_left _ (List.Perm.swap ..)
def stepF (st : FoldS) (w : Bool) (i : Nat) : FoldS := turnF st (movedF st.1 (movZ (rowF st.1) (w, (i : Int))) (swapL (List.range st.1.length) (atZ (w, (i : Int))))) st.2.1
def nextF (w : Bool) (i : Nat) : Nat := if w then i - 1 else i + 1
def spOverM (K : PySem.W.Frag) (C CN CM : Addr) (w : Bool) : Sp := fun vs H Q X => ∃ (a dx pl ml : Addr) (st : FoldS) (n : Int), vs = [.ref a, .int n] ∧ FoldC K C ∧ FoldAt K H C a dx pl ml st ∧ a ≠ pl ∧ ml ≠ pl ∧ ml ≠ a ∧ st.1.length ≤ 30 ∧ st.2.2.length ≤ 1000 ∧
  (∀ i : Nat, (namesF st.1)[i]? = some n → (∀ j < i, (namesF st.1)[j]? ≠ some n) → canZ (rowF st.1) (w, (i : Int)) = false → ∀ d H', Ex H H' → H' d = none → X (.ref CM) (some d) (upd H' d (.xd [(("place" : Str), .int n)]))) ∧
  (∀ (i : Nat) (x : Int), (namesF st.1)[i]? = some n → (∀ j < i, (namesF st.1)[j]? ≠ some n) → canZ (rowF st.1) (w, (i : Int)) = true → (namesF st.1)[nextF w i]? = some x → ∀ H', ExF a pl H H' → FoldAt K H' C a dx pl ml (stepF st w i) → Q (.int x) H') ∧
  (n ∉ namesF st.1 → ∀ d H', Ex H H' → H' d = none → X (.ref CN) (some d) (upd H' d (.xd [(("name" : Str), .int n)])))
theorem s_retT0 {K : PySem.W.Frag} {σ : L2.St} {H : Hp} {te t2 : TE} {g : TG} {t : TT} {vs : List Nat} {D : Ends} (h : te σ H fun x H1 => tRet (tLc (iTup K (tC x)) g t t2 vs) D σ H1) : tRet (tLc (iTup K te) g t t2 vs) D σ H := h
def spLastNamesM (K : PySem.W.Frag) (C : Addr) : Sp := fun vs H Q _ => ∃ (a dx pl ml : Addr) (st : FoldS), vs = [.ref a] ∧ FoldC K C ∧ FoldAt K H C a dx pl ml st ∧ st.1.length ≤ 30 ∧ (∀ b ∈ rowF st.1, 0 ≤ b.2) ∧
  ∀ (L : List Cow) p H', Steps (tag 0 (rowF st.1)) L → NfR L → H p = none → Ex H H' → H' p = some (.lst ((L.map fun c => (namesF st.1).getD c.1 0).map V.int)) → Q (.ref p) H'
theorem el_enumI {K : PySem.W.Frag} {σ : L2.St} {H : Hp} {te : TE} {t : TT} {i1 i2 : Nat} {vs : List Nat} {l : List Int} (f : Nat → Bool) (h : EvL te σ H (l.map V.int)) (hl : l.length ≤ 40000) (hw : ∀ x y, wipe (((wipe σ vs).set i1 (some x)).set i2 (some y)) vs = wipe σ vs) (c1 : ∀ x y : V, (((wipe σ vs).set i1 (some x)).set i2 (some y))[i2]? = some (some y))
    (ht : ∀ (k : Nat) (x : Int) H1, Ex H H1 → l[k]? = some x → EvT t (((wipe σ vs).set i1 (some (.int (k : Int)))).set i2 (some (.int x))) H1 (f k)) : EvL (tLc (iEnum K (tCons te tNil)) (gTup K 2 (gCons (gName i1) (gCons (gName i2) gNil))) t (tVar i2) vs) σ H (given l.length f (fun k => .int (l.getD k 0))) := fun H0 e0 Q q => by
  refine h H0 e0 _ fun a H1 na e1 ha => ⟨a, l.map V.int, rfl, sq_of ha, fun D hD => ?_⟩
  have e01 := e0.trans e1
  have ln : (l.map V.int).length = l.length := List.length_map ..
  refine in_it (walk_enum (xs := l.map V.int)) (fun k H2 => Ex H1 H2 ∧ H2 D = some (.lst (given k f (fun k => .int (l.getD k 0))))) ⟨Ex.new hD, upd_same⟩ (fun k H2 _ p => sq_of (p.1 _ _ ha)) (fun k x H2 H3 hk p y => ?_) (fun H2 p => ?_)
  · obtain ⟨T, u, z, rfl, nT, rfl, hu, hz⟩ := y
    cases hu
    obtain ⟨p1, p2⟩ := p
    have hk' : k < l.length := by omega
    have hz : (l.map V.int)[k]? = some z := hz
    rw [List.getElem?_map, List.getElem?_eq_getElem hk'] at hz
    cases hz
    have n1 := Ex.new (o := .tup [V.int (k : Nat), .int l[k]]) nT
    have hd : l.getD k 0 = l[k] := by rw [List.getD_eq_getElem?_getD, List.getElem?_eq_getElem hk']; rfl
    refine ⟨T, _, rfl, st_of upd_same, rfl, _, _, rfl, _, _, rfl, rfl, hw _ _, ?_⟩
    refine t_ev (ht k _ _ ((e01.trans p1).trans n1) (List.getElem?_eq_getElem hk')) fun H4 e4 => ?_
    cases c : f k with
    | true =>
      refine ⟨_, c1 _ _, _, e4 _ _ (n1 _ _ p2), sz_lt (by have := given_len k f (fun k => V.int (l.getD k 0)); omega), Ex.mut ((p1.trans n1).trans e4) hD, ?_⟩
      rw [upd_same, given_yes c, hd]
    | false =>
      refine ⟨(p1.trans n1).trans e4, ?_⟩
      rw [given_no c]
      exact e4 _ _ (n1 _ _ p2)
  · obtain ⟨p1, p2⟩ := p
    rw [ln] at p2
    exact q D H2 (fresh_back e1 hD) (e1.trans p1) p2
def mayF (l : List Fb) (may : HH.Row → Int → Bool) : List Int := ((List.range l.length).filter fun (k : Nat) => may (rowF l) (k : Int)).map fun (k : Nat) => (namesF l).getD k 0
def spMayM (K : PySem.W.Frag) (C : Addr) (may : HH.Row → Int → Bool) : Sp := fun vs H Q _ => ∃ (a dx pl ml : Addr) (st : FoldS), vs = [.ref a] ∧ FoldC K C ∧ FoldAt K H C a dx pl ml st ∧ st.1.length ≤ 1000 ∧
  ∀ (ms : List Int) p H', (mayF st.1 may).Perm ms → ms.Pairwise (· ≤ ·) → H p = none → Ex H H' → H' p = some (.lst (ms.map V.int)) → Q (.ref p) H'
theorem some_sort (l : List Int) : ∃ ms, l.Perm ms ∧ ms.Pairwise (· ≤ ·) := by
  refine ⟨l.mergeSort (fun a b => decide (a ≤ b)), (List.mergeSort_perm _ _).symm, ?_⟩
  have := List.pairwise_mergeSort (le := fun a b : Int => decide (a ≤ b)) (fun a b c h1 h2 => by
    have := of_decide_eq_true h1
    have := of_decide_eq_true h2
    exact decide_eq_true (by omega)) (fun a b => by
    rcases Int.le_total a b with h | h
    · simp [h]
    · simp [h]) l
  exact this.imp fun h => of_decide_eq_true h
def fbD (b : Fb) : PyData := .tuple [.int b.1, .int b.2.1, .int b.2.2.1, .int b.2.2.2]
def lineD (l : List Fb) : PyData := .tuple (l.map fbD)
theorem fbs_dp {K : PySem.W.Frag} {H : Hp} : ∀ {us : List V} {l : List Fb}, All2 (FbAt K H) us l → DpAll K H us (l.map fbD)
  | _, _, .nil => .nil
  | _, _, .cons ⟨t, e, g⟩ h => by
    subst e
    exact .cons (.tup g (.cons (.int _) (.cons (.int _) (.cons (.int _) (.cons (.int _) .nil))))) (fbs_dp h)
theorem LineAt.dp {K : PySem.W.Frag} {H : Hp} {v : V} {l : List Fb} (h : LineAt K H v l) : Dp K H v (lineD l) := by
  obtain ⟨a, us, rfl, h1, h2⟩ := h
  exact .tup h1 (fbs_dp h2)
end HH
set_option maxHeartbeats 4000000
namespace HH
open PySem PySem.Spec PyProof.Rows L2 Evl RZ
def DpF (K : PySem.W.Frag) (a pl : Addr) (H : Hp) (v : V) (d : PyData) : Prop := ∀ H', ExF a pl H H' → Dp K H' v d
section
variable {K : PySem.W.Frag} {C a dx pl ml : Addr} {σ : L2.St} {te ta : TE} {tr : TA} {st st1 st2 : FoldS} {d : PyData} {ds : List PyData} {H H' : Hp} {v : V} {D : Ends} {tz : TS}
theorem DpF.exF (h : DpF K a pl H v d) (e : ExF a pl H H') : DpF K a pl H' v d := fun H2 e2 => h H2 (e.trans e2)
variable {E : XK}
end
theorem kb_kwo {K : PySem.W.Frag} {x qual : Str} {params : Arguments} {body : List Stmt} {scope : Scope} {kws : List (Str × V)} {f : Addr} {fd : FuncData} {ps : List Str} {n : Nat} {g : Str} (F : FunD K x qual params body scope [] kws f fd)
    (h : ∀ (kV doc pm : Value) (an : Option Addr) (cdv ct : Value) (us : List Value) (w : Value), us.length = n → bindArgs (PySem.W.fnOf x qual params body scope .none kV doc pm an cdv ct) ⟨us, [(g, w)]⟩ = pure (ps.zip (us ++ [w]))) : KBn K fd ps n [g] (fun us ws => us ++ ws) (fun us ws => us ++ ws) := by
  obtain ⟨oc, od, dV, kV, doc, pm, an, cdv, ct, osl, rfl, lk, hcd, hD, hK⟩ := F.ex
  rcases hD with ⟨_, rfl⟩ | ⟨e, _⟩
  · refine ⟨fun s us ws _ h0 hl => ?_, fun h1 h2 => h1.append h2⟩
    obtain ⟨z, rfl⟩ : ∃ z, ws = [z] := by
      match ws, hl with
      | [z], _ => exact ⟨z, rfl⟩
    exact .of_eq (h kV doc pm an cdv ct us z h0)
  · exact absurd rfl e
end HH
set_option maxHeartbeats 4000000
namespace HH
open PySem PySem.Spec PyProof.Rows L2 Evl RZ
structure HasI (P : Program) (w : World) (K : PySem.W.Frag) (mg : Str → Option Value) (base : Heap) (k : Nat) (x : Str) (C : Addr) (ps : List Str) (sp : Sp) (f : Addr) (fd : FuncData) : Prop where
  m : Mk K C f
  G : FnOk P w K mg base CX0 k f fd ps sp
  g : mg x = some (.ref C)
  b : Binds K fd ps []
  d : Vals [] []
section
variable {K : PySem.W.Frag} {C a dx pl ml : Addr} {σ : L2.St} {te ta : TE} {st st' : FoldS} {d : PyData} {H H' H0 H1 H2 : Hp} {v : V} {D : Ends} {tz : TS} {E : XK} {rs : HH.Row}
theorem ex_rowM (fc : FoldC K C) (hf : FoldAt K H C a dx pl ml st) (h : ∀ H1, Ev ta σ H1 (.ref a)) (hl : st.1.length ≤ 1000) : EvX K (tMeth C "row" (spRowM K) [] E ta tNil) σ H (rowD (rowF st.1)) := fun H0 e0 Q q => by
  obtain ⟨lv, ps, h1, h2, h3, h4⟩ := id hf
  exact h H0 H0 (Ex.refl _) _ fun H1 e1 => ⟨a, dx, _, rfl, (e0.trans e1) _ _ h1, rfl, C, a, dx, pl, ml, st, rfl, fc, hf.ex (e0.trans e1), hl, fun v H2 e2 hv => by
    obtain ⟨c, rfl, hd⟩ := hv.dp
    exact q _ H2 (e1.trans e2) hd⟩
end
section
variable {K : PySem.W.Frag} {C a dx pl ml : Addr} {σ : L2.St} {te ta : TE} {tr : TA} {d : PyData} {ds : List PyData} {H H' : Hp} {v : V} {D : Ends} {tz : TS} {l l1 l2 : List Fb} {c c1 c2 : Int} {k k1 k2 : Nat} {z : List (List Fb × Int)}
theorem DpF.now (h : DpF K a pl H v d) : Dp K H v d := h H ExF.refl
end
section
variable {K : PySem.W.Frag} {C a dx pl ml : Addr} {σ : L2.St} {te ta tb : TE} {tr : TA} {d : PyData} {ds ds2 : List PyData} {H H' : Hp} {v : V} {D : Ends} {tz : TS} {l l1 l2 : List Fb} {c c1 c2 : Int} {k k1 k2 : Nat} {z : List (List Fb × Int)} {st : FoldS} {rs : HH.Row} {E : XK}
end
end HH
set_option maxHeartbeats 4000000
namespace HH
open PySem PySem.Spec PyProof.Rows L2 Evl RZ
section
open PySem.W
variable {K : PySem.W.Frag} {M : Model} {h : Heap}
end
section
variable {X : Cx} {x1 x2 x3 x4 x5 : Str} {c1 c2 c3 c4 c5 : Value} {p1 p2 p3 p4 p5 tp : Pos} {kk : Nat}
end
end HH
set_option maxHeartbeats 4000000
namespace HH
open PySem PySem.Spec PyProof.Rows L2 Evl RZ
inductive FD where
  | come (s t : Int) (o : Option Int)
  | leave (n : Int)
  | over (w : Bool) (n : Int)
  | feed (n d : Int)
  | ask (n t : Int)
  | settle (w : Bool)
def wordO (w : Bool) : Str := if w then "overtake" else "fall_back"
def wordS (w : Bool) : Str := if w then "settle" else "unsettle"
def fdV : FD → List V
  | .come s t o => [.str "come", .int s, .int t, placeV o]
  | .leave n => [.str "leave", .int n]
  | .over w n => [.str (wordO w), .int n]
  | .feed n d => [.str "feed", .int n, .int d]
  | .ask n t => [.str "ask", .int n, .int t]
  | .settle w => [.str (wordS w)]
def FDAt (K : PySem.W.Frag) (H : Hp) (v : V) (d : FD) : Prop := ∃ p, v = .ref p ∧ SqT K H p (fdV d)
def tollOk : FD → Prop
  | .come _ t _ => 0 ≤ t
  | .ask _ t => 0 ≤ t
  | _ => True
theorem FDAt.ex {K : PySem.W.Frag} {H H' : Hp} {v : V} {d : FD} (h : FDAt K H v d) (e : Ex H H') : FDAt K H' v d := by
  obtain ⟨p, h1, h2⟩ := h
  exact ⟨p, h1, ex_t e h2⟩
def mvC (l : List Fb) (c : Cow) : Fb := mvF l c.1 c.2
theorem moved_map (l : List Fb) : ∀ L : List Cow, movedF l (rowsOf L) (L.map (·.1)) = L.map (mvC l)
  | [] => rfl
  | c :: L => by
    show mvF l c.1 c.2 :: movedF l (rowsOf L) (L.map (·.1)) = mvC l c :: L.map (mvC l)
    rw [moved_map l L]
    rfl
theorem moved_tag (l : List Fb) : (tag 0 (rowF l)).map (mvC l) = l := by
  refine List.ext_getElem? fun i => ?_
  rw [List.getElem?_map, tag_at, rowF, List.getElem?_map, Option.map_map, Option.map_map]
  cases h : l[i]? with
  | none => rfl
  | some x =>
    show some (mvF l (0 + i) (x.2.1, x.2.2.1)) = some x
    unfold mvF
    rw [Nat.zero_add, h]
    obtain ⟨a, b, c, d⟩ := x
    show some (a, b, c, d + b - b) = some (a, b, c, d)
    rw [Int.add_sub_cancel]
def turnL (w : Bool) (l : List Fb) (i : Nat) : List Fb := movedF l (movZ (rowF l) (w, (i : Int))) (swapL (List.range l.length) (atZ (w, (i : Int))))
theorem swapL_split (p q : List Nat) (u v : Nat) : swapL (p ++ u :: v :: q) p.length = p ++ v :: u :: q := by
  unfold swapL ixN
  rw [List.take_left, List.getElem?_append_right (by omega), List.getElem?_append_right (by omega), Nat.sub_self, Nat.add_sub_cancel_left]
  have : (p ++ u :: v :: q).drop (p.length + 2) = q := by
    rw [← List.drop_drop, List.drop_left]
    rfl
  rw [this]
  simp
theorem tag_cut {l : List Fb} {pre post : List Fb} {x y : Fb} (h : l = pre ++ x :: y :: post) : ∃ (A B : List Cow) (a b : Cow), tag 0 (rowF l) = A ++ a :: b :: B ∧ A.map (mvC l) = pre ∧ mvC l a = x ∧ mvC l b = y ∧ B.map (mvC l) = post ∧ A.length = pre.length ∧ a.2 = (x.2.1, x.2.2.1) ∧ b.2 = (y.2.1, y.2.2.1) ∧ l[a.1]? = some x ∧ l[b.1]? = some y := by
  have e := moved_tag l
  have e2 := e.trans h
  obtain ⟨A, Z, e3, e4, e5⟩ := List.map_eq_append_iff.mp e2
  obtain ⟨a, Y, e6, e7, e8⟩ := List.map_eq_cons_iff.mp e5
  obtain ⟨b, B, e9, e10, e11⟩ := List.map_eq_cons_iff.mp e8
  subst e9 e6
  have la : A.length = pre.length := by rw [← e4, List.length_map]
  have ga : (tag 0 (rowF l))[A.length]? = some a := by
    rw [e3, List.getElem?_append_right (Nat.le_refl _), Nat.sub_self]
    rfl
  have gb : (tag 0 (rowF l))[A.length + 1]? = some b := by
    rw [e3, List.getElem?_append_right (by omega), Nat.add_sub_cancel_left]
    rfl
  have lx : l[A.length]? = some x := by
    rw [la, h, List.getElem?_append_right (Nat.le_refl _), Nat.sub_self]
    rfl
  have ly : l[A.length + 1]? = some y := by
    rw [la, h, List.getElem?_append_right (by omega), Nat.add_sub_cancel_left]
    rfl
  rw [tag_at, rowF, List.getElem?_map, lx] at ga
  rw [tag_at, rowF, List.getElem?_map, ly] at gb
  have ga : (0 + A.length, (x.2.1, x.2.2.1)) = a := Option.some.inj ga
  have gb : (0 + (A.length + 1), (y.2.1, y.2.2.1)) = b := Option.some.inj gb
  refine ⟨A, B, a, b, e3, e4, e7, e10, e11, la, by rw [← ga], by rw [← gb], by rw [← ga, Nat.zero_add]; exact lx, by rw [← gb, Nat.zero_add]; exact ly⟩
theorem turnL_pass (pre post : List Fb) (x y : Fb) : turnL true (pre ++ x :: y :: post) (pre.length + 1) = pre ++ (y.1, y.2.1 - x.2.2.1, y.2.2.1, y.2.2.2 + x.2.2.1) :: x :: post := by
  obtain ⟨A, B, a, b, h1, h2, h3, h4, h5, h6, h7, h8, h9, h10⟩ := tag_cut (l := pre ++ x :: y :: post) rfl
  generalize hl : pre ++ x :: y :: post = l at *
  have er : rowF l = rowsOf A ++ a.2 :: b.2 :: rowsOf B := by
    rw [← tag_snd 0 (rowF l), h1, List.map_append]
    rfl
  have ei : List.range l.length = A.map (·.1) ++ a.1 :: b.1 :: B.map (·.1) := by
    have := tag_ids (rowF l)
    rw [h1, rowF, List.length_map] at this
    rw [← this, List.map_append]
    rfl
  have la : (rowsOf A).length = pre.length := by rw [rowsOf, List.length_map, h6]
  have li : (A.map (·.1)).length = pre.length := by rw [List.length_map, h6]
  unfold turnL
  have e1 : movZ (rowF l) (true, ((pre.length + 1 : Nat) : Int)) = rowsOf (A ++ (b.1, (b.2.1 - a.2.2, b.2.2)) :: a :: B) := by
    show passR (rowF l) ((pre.length + 1 : Nat) : Int).toNat = _
    rw [Int.toNat_natCast, er, ← la, pass_split, rowsOf, rowsOf, rowsOf, List.map_append]
    rfl
  have e2 : swapL (List.range l.length) (atZ (true, ((pre.length + 1 : Nat) : Int))) = (A ++ (b.1, (b.2.1 - a.2.2, b.2.2)) :: a :: B).map (·.1) := by
    have : atZ (true, ((pre.length + 1 : Nat) : Int)) = (A.map (·.1)).length := by
      show ((pre.length + 1 : Nat) : Int).toNat - 1 = _
      rw [Int.toNat_natCast, li]
      rfl
    rw [this, ei, swapL_split, List.map_append]
    rfl
  rw [e1, e2, moved_map, List.map_append, h2]
  show pre ++ mvC l (b.1, (b.2.1 - a.2.2, b.2.2)) :: mvC l a :: B.map (mvC l) = _
  rw [h3, h5]
  congr 2
  show mvF l b.1 (b.2.1 - a.2.2, b.2.2) = _
  unfold mvF
  rw [h10, h7, h8]
  show (y.1, y.2.1 - x.2.2.1, y.2.2.1, y.2.2.2 + y.2.1 - (y.2.1 - x.2.2.1)) = _
  rw [show y.2.2.2 + y.2.1 - (y.2.1 - x.2.2.1) = y.2.2.2 + x.2.2.1 by omega]
theorem turnL_fall (pre post : List Fb) (x y : Fb) : turnL false (pre ++ x :: y :: post) pre.length = pre ++ y :: (x.1, x.2.1 + y.2.2.1, x.2.2.1, x.2.2.2 - y.2.2.1) :: post := by
  obtain ⟨A, B, a, b, h1, h2, h3, h4, h5, h6, h7, h8, h9, h10⟩ := tag_cut (l := pre ++ x :: y :: post) rfl
  generalize hl : pre ++ x :: y :: post = l at *
  have er : rowF l = rowsOf A ++ a.2 :: b.2 :: rowsOf B := by
    rw [← tag_snd 0 (rowF l), h1, List.map_append]
    rfl
  have ei : List.range l.length = A.map (·.1) ++ a.1 :: b.1 :: B.map (·.1) := by
    have := tag_ids (rowF l)
    rw [h1, rowF, List.length_map] at this
    rw [← this, List.map_append]
    rfl
  have la : (rowsOf A).length = pre.length := by rw [rowsOf, List.length_map, h6]
  have li : (A.map (·.1)).length = pre.length := by rw [List.length_map, h6]
  unfold turnL
  have e1 : movZ (rowF l) (false, (pre.length : Int)) = rowsOf (A ++ b :: (a.1, (a.2.1 + b.2.2, a.2.2)) :: B) := by
    show fallR (rowF l) (pre.length : Int).toNat = _
    rw [Int.toNat_natCast, er, ← la, fall_split, rowsOf, rowsOf, rowsOf, List.map_append]
    rfl
  have e2 : swapL (List.range l.length) (atZ (false, (pre.length : Int))) = (A ++ b :: (a.1, (a.2.1 + b.2.2, a.2.2)) :: B).map (·.1) := by
    have : atZ (false, (pre.length : Int)) = (A.map (·.1)).length := by
      show (pre.length : Int).toNat = _
      rw [Int.toNat_natCast, li]
    rw [this, ei, swapL_split, List.map_append]
    rfl
  rw [e1, e2, moved_map, List.map_append, h2]
  show pre ++ mvC l b :: mvC l (a.1, (a.2.1 + b.2.2, a.2.2)) :: B.map (mvC l) = _
  rw [h4, h5]
  congr 3
  show mvF l a.1 (a.2.1 + b.2.2, a.2.2) = _
  unfold mvF
  rw [h9, h7, h8]
  show (x.1, x.2.1 + y.2.2.1, x.2.2.1, x.2.2.2 + x.2.1 - (x.2.1 + y.2.2.1)) = _
  rw [show x.2.2.2 + x.2.1 - (x.2.1 + y.2.2.1) = x.2.2.2 - y.2.2.1 by omega]
theorem line_cut {l : List Fb} {j : Nat} (h : j + 1 < l.length) : ∃ (pre post : List Fb) (x y : Fb), l = pre ++ x :: y :: post ∧ pre.length = j := by
  refine ⟨l.take j, l.drop (j + 2), l[j], l[j + 1], ?_, by rw [List.length_take]; omega⟩
  rw [← List.drop_eq_getElem_cons (by omega), ← List.drop_eq_getElem_cons (by omega), List.take_append_drop]
end HH
set_option maxHeartbeats 4000000
namespace HH
open PySem PySem.Spec PyProof.Rows L2 Evl RZ
def placesL (w : Bool) (l : List Fb) : List Nat := (List.range l.length).filter fun k => canZ (rowF l) (w, (k : Int))
theorem rowF_len (l : List Fb) : (rowF l).length = l.length := List.length_map ..
theorem can_cut {w : Bool} {l : List Fb} {k : Nat} (h : canZ (rowF l) (w, (k : Int)) = true) : ∃ (pre post : List Fb) (x y : Fb), l = pre ++ x :: y :: post ∧ k = (if w then pre.length + 1 else pre.length) ∧ (if w then y.2.1 - x.2.2.1 > x.2.1 else x.2.1 > y.2.1) := by
  cases w with
  | true =>
    obtain ⟨j, hj, j0, jl, hz⟩ := letsZ_at h
    have : j = k := by omega
    subst this
    rw [rowF_len] at jl
    obtain ⟨pre, post, x, y, e, hp⟩ := line_cut (l := l) (j := j - 1) (by omega)
    refine ⟨pre, post, x, y, e, by rw [if_pos rfl]; omega, ?_⟩
    rw [if_pos rfl]
    have er : rowF l = rowF pre ++ (x.2.1, x.2.2.1) :: (y.2.1, y.2.2.1) :: rowF post := by rw [e, rowF, List.map_append]; rfl
    rw [er, show j = (rowF pre).length + 1 by rw [rowF_len]; omega, lets_split] at hz
    exact of_decide_eq_true hz
  | false =>
    obtain ⟨j, hj, jl, hz⟩ := fallsZ_at h
    have : j = k := by omega
    subst this
    rw [rowF_len] at jl
    obtain ⟨pre, post, x, y, e, hp⟩ := line_cut (l := l) (j := j) (by omega)
    refine ⟨pre, post, x, y, e, by rw [if_neg (by decide)]; omega, ?_⟩
    rw [if_neg (by decide)]
    have er : rowF l = rowF pre ++ (x.2.1, x.2.2.1) :: (y.2.1, y.2.2.1) :: rowF post := by rw [e, rowF, List.map_append]; rfl
    rw [er, show j = (rowF pre).length by rw [rowF_len]; omega, falls_split] at hz
    exact of_decide_eq_true hz
theorem turnL_names {w : Bool} {l : List Fb} {k : Nat} (h : canZ (rowF l) (w, (k : Int)) = true) : (namesF (turnL w l k)).Perm (namesF l) ∧ (turnL w l k).length = l.length ∧ ((∀ b ∈ rowF l, 0 ≤ b.2) → ∀ b ∈ rowF (turnL w l k), 0 ≤ b.2) := by
  obtain ⟨pre, post, x, y, rfl, rfl, hz⟩ := can_cut h
  cases w with
  | true =>
    rw [if_pos rfl] at h ⊢
    rw [turnL_pass]
    refine ⟨?_, by simp, fun ht b hb => ?_⟩
    · unfold namesF
      rw [List.map_append, List.map_append]
      exact List.Perm.append_left _ (List.Perm.swap ..)
    · obtain ⟨z, hz, rfl⟩ := List.mem_map.mp hb
      have key : ∀ u ∈ pre ++ x :: y :: post, 0 ≤ u.2.2.1 := fun u hu => ht _ (List.mem_map_of_mem (f := fun b : Fb => (b.2.1, b.2.2.1)) hu)
      rcases List.mem_append.mp hz with hz | hz
      · exact key z (List.mem_append_left _ hz)
      rcases List.mem_cons.mp hz with rfl | hz
      · exact key y (by simp)
      rcases List.mem_cons.mp hz with rfl | hz
      · exact key z (by simp)
      · exact key z (by simp [hz])
  | false =>
    rw [if_neg (by decide)] at h ⊢
    rw [turnL_fall]
    refine ⟨?_, by simp, fun ht b hb => ?_⟩
    · unfold namesF
      rw [List.map_append, List.map_append]
      exact List.Perm.append_left _ (List.Perm.swap ..)
    · obtain ⟨z, hz, rfl⟩ := List.mem_map.mp hb
      have key : ∀ u ∈ pre ++ x :: y :: post, 0 ≤ u.2.2.1 := fun u hu => ht _ (List.mem_map_of_mem (f := fun b : Fb => (b.2.1, b.2.2.1)) hu)
      rcases List.mem_append.mp hz with hz | hz
      · exact key z (List.mem_append_left _ hz)
      rcases List.mem_cons.mp hz with rfl | hz
      · exact key z (by simp)
      rcases List.mem_cons.mp hz with rfl | hz
      · exact key x (by simp)
      · exact key z (by simp [hz])
def RunW (w : Bool) (L0 L : List Cow) (ps : List (Int × Int)) : Prop := if w then PRun L0 L ps else FRun L0 L ps
theorem RunW.told {w : Bool} {rs : HH.Row} {L : List Cow} {ps : List (Int × Int)} (r : RunW w (tag 0 rs) L ps) (ht : ∀ b ∈ rs, 0 ≤ b.2) : Told rs.length (L.map (·.1)) ps ∧ Facts rs.length L ps ∧ (L.map (·.1)).Perm (List.range rs.length) := by
  cases w with
  | true =>
    obtain ⟨h1, h2, _⟩ := PRun.told r ht
    refine ⟨h1, h2, ?_⟩
    have := (PRun.steps r).ids
    rwa [tag_ids] at this
  | false =>
    obtain ⟨h1, h2, _⟩ := FRun.told r ht
    refine ⟨h1, h2, ?_⟩
    have := (FRun.steps r).ids
    rwa [tag_ids] at this
theorem row_moved {l : List Fb} {L : List Cow} (h : ∀ x ∈ L.map (·.1), x < l.length) : rowF (L.map (mvC l)) = rowsOf L := by
  unfold rowF rowsOf
  rw [List.map_map]
  refine List.map_congr_left fun c hc => ?_
  have := h c.1 (List.mem_map_of_mem (f := (·.1)) hc)
  show ((mvF l c.1 c.2).2.1, (mvF l c.1 c.2).2.2.1) = c.2
  unfold mvF
  rw [List.getElem?_eq_getElem this]
theorem RunW.step {w : Bool} {l : List Fb} {L : List Cow} {ps : List (Int × Int)} (r : RunW w (tag 0 (rowF l)) L ps) (hi : ∀ x ∈ L.map (·.1), x < l.length) {k : Nat} (h : canZ (rowF (L.map (mvC l))) (w, (k : Int)) = true) : ∃ L' p, RunW w (tag 0 (rowF l)) L' (ps ++ [p]) ∧ turnL w (L.map (mvC l)) k = L'.map (mvC l) := by
  obtain ⟨pre, post, x, y, e, rfl, hz⟩ := can_cut h
  obtain ⟨A, Z, rfl, rfl, e5⟩ := List.map_eq_append_iff.mp e
  obtain ⟨a, Y, rfl, rfl, e8⟩ := List.map_eq_cons_iff.mp e5
  obtain ⟨b, B, rfl, rfl, rfl⟩ := List.map_eq_cons_iff.mp e8
  have ia := hi a.1 (by simp)
  have ib := hi b.1 (by simp)
  have ma : mvC l a = (l[a.1].1, a.2.1, a.2.2, l[a.1].2.2.2 + l[a.1].2.1 - a.2.1) := by
    show mvF l a.1 a.2 = _
    unfold mvF
    rw [List.getElem?_eq_getElem ia]
  have mb : mvC l b = (l[b.1].1, b.2.1, b.2.2, l[b.1].2.2.2 + l[b.1].2.1 - b.2.1) := by
    show mvF l b.1 b.2 = _
    unfold mvF
    rw [List.getElem?_eq_getElem ib]
  cases w with
  | true =>
    rw [if_pos rfl] at hz ⊢
    rw [ma, mb] at hz
    refine ⟨_, _, PRun.step (pre := A) (post := B) r hz, ?_⟩
    rw [e, turnL_pass, List.map_append]
    congr 1
    show _ = mvC l (b.1, (b.2.1 - a.2.2, b.2.2)) :: mvC l a :: B.map (mvC l)
    congr 1
    rw [ma, mb]
    show _ = mvF l b.1 (b.2.1 - a.2.2, b.2.2)
    unfold mvF
    rw [List.getElem?_eq_getElem ib]
    dsimp only
    rw [show l[b.1].2.2.2 + l[b.1].2.1 - b.2.1 + a.2.2 = l[b.1].2.2.2 + l[b.1].2.1 - (b.2.1 - a.2.2) by omega]
  | false =>
    rw [if_neg (by decide)] at hz ⊢
    rw [ma, mb] at hz
    refine ⟨_, _, FRun.step (pre := A) (post := B) r hz, ?_⟩
    rw [e, turnL_fall, List.map_append]
    congr 1
    show _ = mvC l b :: mvC l (a.1, (a.2.1 + b.2.2, a.2.2)) :: B.map (mvC l)
    congr 2
    rw [ma, mb]
    show _ = mvF l a.1 (a.2.1 + b.2.2, a.2.2)
    unfold mvF
    rw [List.getElem?_eq_getElem ia]
    dsimp only
    rw [show l[a.1].2.2.2 + l[a.1].2.1 - a.2.1 - b.2.2 = l[a.1].2.2.2 + l[a.1].2.1 - (a.2.1 + b.2.2) by omega]
def EndW (w : Bool) (L0 L : List Cow) : Prop := if w then Steps L0 L ∧ Nf L else FSteps L0 L ∧ Ff L
theorem RunW.end {w : Bool} {l : List Fb} {L : List Cow} {ps : List (Int × Int)} (r : RunW w (tag 0 (rowF l)) L ps) (hi : ∀ x ∈ L.map (·.1), x < l.length) (h : placesL w (L.map (mvC l)) = []) : EndW w (tag 0 (rowF l)) L := by
  have no : ∀ k < (L.map (mvC l)).length, canZ (rowsOf L) (w, (k : Int)) = false := fun k hk => by
    have := List.filter_eq_nil_iff.mp h k (List.mem_range.mpr hk)
    rw [row_moved hi] at this
    simpa using this
  rw [List.length_map] at no
  cases w with
  | true =>
    refine ⟨PRun.steps r, fun M s => ?_⟩
    obtain ⟨pre, post, x, y, rfl, g, rfl⟩ := s
    have n1 := no (pre.length + 1) (by simp)
    have : canZ (rowsOf (pre ++ x :: y :: post)) (true, ((pre.length + 1 : Nat) : Int)) = true := by
      show letsZ _ _ = true
      rw [letsZ_nat (by rw [rowsOf, List.length_map]; simp), show rowsOf (pre ++ x :: y :: post) = rowsOf pre ++ x.2 :: y.2 :: rowsOf post by rw [rowsOf, List.map_append]; rfl, show pre.length = (rowsOf pre).length by rw [rowsOf, List.length_map], lets_split]
      exact decide_eq_true g
    rw [n1] at this
    cases this
  | false =>
    refine ⟨FRun.steps r, fun M s => ?_⟩
    obtain ⟨pre, post, x, y, rfl, g, rfl⟩ := s
    have n1 := no pre.length (by simp)
    have : canZ (rowsOf (pre ++ x :: y :: post)) (false, (pre.length : Int)) = true := by
      show fallsZ _ _ = true
      unfold fallsZ
      rw [decide_eq_true (by refine ⟨by omega, ?_⟩; rw [rowsOf, List.length_map]; simp; omega), Bool.true_and, Int.toNat_natCast, show rowsOf (pre ++ x :: y :: post) = rowsOf pre ++ x.2 :: y.2 :: rowsOf post by rw [rowsOf, List.map_append]; rfl, show pre.length = (rowsOf pre).length by rw [rowsOf, List.length_map], falls_split]
      exact decide_eq_true g
    rw [n1] at this
    cases this
def cntL (L : List Cow) : Nat := (tab (L.map (·.1)) (L.map (·.1)).length (L.map (·.1)).length).length
theorem EndW.one {w : Bool} {rs : HH.Row} {L L' : List Cow} (ht : ∀ b ∈ rs, 0 ≤ b.2) (h : EndW w (tag 0 rs) L) (h' : if w then Steps (tag 0 rs) L' ∧ NfR L' else FSteps (tag 0 rs) L' ∧ FfR L') : L' = L := by
  cases w with
  | true => exact one_nf _ (good_tag ht) (Nat.le_refl _) h'.1 (nfr_nf h'.2) h.1 h.2
  | false => exact one_ff _ (fgood_tag ht) (Nat.le_refl _) h'.1 (ffr_ff h'.2) h.1 h.2
end HH
set_option maxHeartbeats 4000000
namespace HH
open PySem PySem.Spec PyProof.Rows L2 Evl RZ
section
variable {X : Cx} {CX : CXT} {k n : Nat} {f C : Addr} {fd : FuncData} {ps ks : List Str} {sp : Sp} {E : L2.St → XK} {m : Str} {p pos apos : Pos} {e o : Expr} {es : List Expr} {kws : List Keyword} {ta : TE} {t tk : TA} {g : List Value → List Value → List Value} {gV : List V → List V → List V}
def tMethNX (C : Addr) (m : Str) (n j : Nat) (sp : Sp) (gV : List V → List V → List V) (E : L2.St → XK) (ta : TE) (t tk : TA) : TE := fun σ H Q => tMethN C m n j sp gV (E σ) ta t tk σ H Q
theorem run_fnNS {pins : List (Addr × Obj)} {σ : L2.St} {H : Hp} {s : Shared} {Q : VK} {us ws : List Value} {vs zs : List V} (F : FnOk X.prog X.w X.K X.mg X.base CX k f fd ps sp) (hr : Room k X.A) (hb : KBn X.K fd ps n ks g gV) (hx : PassesAt CX X σ (E σ)) (I : Inv X pins σ H s) (r : Vals vs us) (rz : Vals zs ws) (l1 : vs.length = n) (l2 : zs.length = ks.length) (h : sp (gV vs zs) H Q (E σ)) : wpAny (model X.prog X.w) X.A (call (.ref f) us (ks.zip ws)) (EP X pins σ Q) X.xe s := by
  have b := hb.to s us ws I.kIn (r.length.symm.trans l1) (rz.length.symm.trans l2)
  refine wpAny_call (codeAny_mono (F.run X.A X.stack s H ⟨us, ks.zip ws⟩ (g us ws) (gV vs zs) Q (E σ) hr I.env0 b (hb.rel r rz) h) fun w s' hq => ?_)
  match w, hq with
  | .error e, hq => exact hx pins H s e s' I hq
  | .ok (.ret _), hq => exact I.after hq
  | .ok .next, hq => exact hq.elim
  | .ok .brk, hq => exact hq.elim
  | .ok .cont, hq => exact hq.elim
theorem pe_methNX {pl : Sem Bool} (he : PE X o ta) (c : Cls X.K C) (hm : Meth X.K C m f) (F : FnOk X.prog X.w X.K X.mg X.base CX k f fd ps sp) (hr : Room k X.A) (hb : KBn X.K fd ps (n + 1) ks g gV) (hx : ∀ σ, PassesAt CX X σ (E σ)) (ha : PA X (e :: es) t) (hkw : PK X kws tk)
    (hall : (backToKw pos (keywordEach kws X.env)).all (·.1.isSome) = true := by rfl) (hks : (backToKw pos (keywordEach kws X.env)).filterMap (·.1) = ks := by rfl)
    (hst : starEach (e :: es) X.env = (false, eval e X.env) :: starEach es X.env := by rfl) (hpl : ((backTo pos (starEach (e :: es) X.env)).any (·.1) || (backToKw pos (keywordEach kws X.env)).any (·.1.isNone)) = false := by rfl)
    (ht : eval (.Call (.Attribute o m apos) (e :: es) kws pos) X.env = (do
      let ov ← eval o X.env
      standAt apos.atName
      let (f, first) ← holding [ov] (getMethod ov m pl)
      callWith pos f first (backTo pos (starEach (e :: es) X.env)) (backToKw pos (keywordEach kws X.env))) := by rfl) :
    PE X (.Call (.Attribute o m apos) (e :: es) kws pos) (tMethNX C m n ks.length sp gV E ta t tk) := by
  refine ⟨fun pins s σ H Q I h => ?_⟩
  refine PySem.W.methodCall_KW (pl := pl) (thn (he.run pins s σ H _ I h) fun u s1 ⟨x, H1, I1, rx, a, dx, fs, ex, ea, l, q⟩ => ?_) ht
  subst ex
  obtain rfl : u = Value.ref a := rx
  refine getmeth_ok I1 ea c hm l ?_
  refine PySem.W.callWith_KW (first := [.ref a]) (h₀ := X.base) I1.ok.mod.kin hm.kp hall (thn (ha.run pos pins s1 σ H1 _ I1 q) fun us s2 ⟨vs, H2, I2, r, q2⟩ => ?_) hpl hst
  refine thn (hkw.run pos pins s2 σ H2 _ I2 q2) fun ws s3 ⟨zs, H3, I3, rz, l1, l2, q3⟩ => ⟨I3.kIn, ?_⟩
  rw [hks]
  exact run_fnNS (us := .ref a :: us) (vs := .ref a :: vs) F hr hb (hx σ) I3 (.cons rfl r) rz (by rw [List.length_cons, l1]) l2 q3
end
inductive RD where
  | told (x : Option Int)
  | full
  | noPlace (p : Int)
  | noBeast (n : Int)
  | mayNot (n : Int)
def rdW : RD → Str
  | .told _ => "told"
  | .full => "Full"
  | .noPlace _ => "NoPlace"
  | .noBeast _ => "NoBeast"
  | .mayNot _ => "MayNot"
def rdX : RD → Option Int
  | .told x => x
  | .full => some 24
  | .noPlace p => some p
  | .noBeast n => some n
  | .mayNot n => some n
def RdAt (K : PySem.W.Frag) (H : Hp) (v : V) (r : RD) : Prop := ∃ o, v = .ref o ∧ SqT K H o [.str (rdW r), placeV (rdX r)]
def At1 (l : List Fb) (n : Int) (i : Nat) : Prop := (namesF l)[i]? = some n ∧ ∀ j < i, (namesF l)[j]? ≠ some n
def putL (l : List Fb) (i : Nat) (ps : List Fb) : List Fb := l.take i ++ ps ++ l.drop (i + 1)
def Due (l : List Fb) (c : Int) (d : FD) (r : RD) (l' : List Fb) (c' : Int) : Prop :=
  match d with
  | .come s t o => (24 ≤ l.length ∧ r = .full ∧ l' = l ∧ c' = c) ∨ (l.length < 24 ∧ (o.getD l.length < 0 ∨ (l.length : Int) < o.getD l.length) ∧ r = .noPlace (o.getD l.length) ∧ l' = l ∧ c' = c) ∨ (l.length < 24 ∧ ∃ i : Nat, o.getD l.length = (i : Int) ∧ i ≤ l.length ∧ r = .told (some c) ∧ l' = l.take i ++ [(c, s, t, 0)] ++ l.drop i ∧ c' = c + 1)
  | .settle w => ∃ L, EndW w (tag 0 (rowF l)) L ∧ r = .told (some (cntL L : Int)) ∧ l' = L.map (mvC l) ∧ c' = c ∧ (L.map (·.1)).Perm (List.range l.length)
  | .leave n => (n ∉ namesF l ∧ r = .noBeast n ∧ l' = l ∧ c' = c) ∨ ∃ i, At1 l n i ∧ r = .told none ∧ l' = putL l i [] ∧ c' = c
  | .feed n e => (n ∉ namesF l ∧ r = .noBeast n ∧ l' = l ∧ c' = c) ∨ ∃ i b, At1 l n i ∧ l[i]? = some b ∧ r = .told none ∧ l' = putL l i [(n, b.2.1 + e, b.2.2.1, b.2.2.2)] ∧ c' = c
  | .ask n t => (n ∉ namesF l ∧ r = .noBeast n ∧ l' = l ∧ c' = c) ∨ ∃ i b, At1 l n i ∧ l[i]? = some b ∧ r = .told none ∧ l' = putL l i [(n, b.2.1, t, b.2.2.2)] ∧ c' = c
  | .over w n => (n ∉ namesF l ∧ r = .noBeast n ∧ l' = l ∧ c' = c) ∨ ∃ i, At1 l n i ∧ ((canZ (rowF l) (w, (i : Int)) = false ∧ r = .mayNot n ∧ l' = l ∧ c' = c) ∨ (canZ (rowF l) (w, (i : Int)) = true ∧ ∃ x, (namesF l)[nextF w i]? = some x ∧ r = .told (some x) ∧ l' = turnL w l i ∧ c' = c))
def OkL (l : List Fb) (c : Int) : Prop := (namesF l).Nodup ∧ (∀ n ∈ namesF l, 0 ≤ n ∧ n < c) ∧ (∀ b ∈ rowF l, 0 ≤ b.2) ∧ l.length ≤ 24 ∧ 0 ≤ c
theorem at1_lt {l : List Fb} {n : Int} {i : Nat} (h : At1 l n i) : i < l.length := by
  have := (List.getElem?_eq_some_iff.mp h.1).1
  rwa [namesF, List.length_map] at this
theorem put_names {l : List Fb} {i : Nat} {b : Fb} (hi : i < l.length) (hb : b.1 = (l[i]).1) : namesF (putL l i [b]) = namesF l := by
  unfold namesF putL
  rw [List.map_append, List.map_append]
  show (l.take i).map (·.1) ++ [b.1] ++ (l.drop (i + 1)).map (·.1) = _
  rw [hb]
  have : l = l.take i ++ [l[i]] ++ l.drop (i + 1) := by
    rw [List.append_assoc, List.singleton_append, ← List.drop_eq_getElem_cons hi, List.take_append_drop]
  conv => rhs; rw [this, List.map_append, List.map_append]
  rfl
theorem put_tolls {l : List Fb} {i : Nat} {ps : List Fb} (h : ∀ b ∈ rowF l, 0 ≤ b.2) (hp : ∀ b ∈ ps, 0 ≤ b.2.2.1) : ∀ b ∈ rowF (putL l i ps), 0 ≤ b.2 := fun b hb => by
  obtain ⟨z, hz, rfl⟩ := List.mem_map.mp hb
  have key : ∀ u ∈ l, 0 ≤ u.2.2.1 := fun u hu => h _ (List.mem_map_of_mem (f := fun b : Fb => (b.2.1, b.2.2.1)) hu)
  rcases List.mem_append.mp hz with hz | hz
  · rcases List.mem_append.mp hz with hz | hz
    · exact key z (List.mem_of_mem_take hz)
    · exact hp z hz
  · exact key z (List.mem_of_mem_drop hz)
theorem Due.ok {l l' : List Fb} {c c' : Int} {d : FD} {r : RD} (h : Due l c d r l' c') (o : OkL l c) (t : tollOk d) : OkL l' c' := by
  have same : l' = l → c' = c → OkL l' c' := fun e1 e2 => by rw [e1, e2]; exact o
  obtain ⟨o1, o2, o3, o4, o5⟩ := id o
  cases d with
  | come s tt op =>
    rcases h with ⟨_, _, e1, e2⟩ | ⟨_, _, _, e1, e2⟩ | ⟨hl, i, hi, hil, _, rfl, rfl⟩
    · exact same e1 e2
    · exact same e1 e2
    · have pm : (l.take i ++ [(c, s, tt, 0)] ++ l.drop i).Perm ((c, s, tt, 0) :: l) := by
        rw [List.append_assoc, List.singleton_append]
        have := List.perm_middle (a := ((c, s, tt, 0) : Fb)) (l₁ := l.take i) (l₂ := l.drop i)
        rwa [List.take_append_drop] at this
      have pn := pm.map (fun b : Fb => b.1)
      refine ⟨pn.nodup_iff.mpr (List.nodup_cons.mpr ⟨fun z => ?_, o1⟩), fun n hn => ?_, fun b hb => ?_, by rw [pm.length_eq]; show l.length + 1 ≤ 24; omega, by omega⟩
      · have := (o2 c z).2
        omega
      · rcases List.mem_cons.mp (pn.mem_iff.mp hn) with rfl | z
        · exact ⟨o5, by omega⟩
        · have := o2 n z
          omega
      · have hb := (pm.map (fun b : Fb => (b.2.1, b.2.2.1))).mem_iff.mp hb
        rcases List.mem_cons.mp hb with rfl | z
        · exact t
        · exact o3 b z
  | settle w =>
    obtain ⟨L, hL, _, rfl, rfl, pm⟩ := h
    have e : ∀ x ∈ L.map (·.1), x < l.length := fun x hx => List.mem_range.mp (pm.mem_iff.mp hx)
    have nm : (namesF (L.map (mvC l))).Perm (namesF l) := by
      have e1 : namesF (L.map (mvC l)) = (L.map (·.1)).map fun w => (namesF l).getD w 0 := by
        unfold namesF
        rw [List.map_map, List.map_map]
        refine List.map_congr_left fun cw hc => ?_
        have := e cw.1 (List.mem_map_of_mem (f := (·.1)) hc)
        show (mvF l cw.1 cw.2).1 = _
        unfold mvF
        rw [List.getElem?_eq_getElem this, Function.comp, List.getD_eq_getElem?_getD, List.getElem?_map, List.getElem?_eq_getElem this]
        rfl
      have e2 : namesF l = (List.range l.length).map fun w => (namesF l).getD w 0 := by
        refine List.ext_getElem? fun i => ?_
        rw [List.getElem?_map]
        by_cases hi : i < l.length
        · rw [List.getElem?_range hi, namesF, List.getElem?_map, List.getElem?_eq_getElem hi]
          show some (l[i]).1 = some ((l.map fun b : Fb => b.1).getD i 0)
          rw [List.getD_eq_getElem?_getD, List.getElem?_map, List.getElem?_eq_getElem hi]
          rfl
        · rw [List.getElem?_eq_none (by rw [namesF, List.length_map]; omega), List.getElem?_eq_none (by rw [List.length_range]; omega)]
          rfl
      rw [e1]
      conv => rhs; rw [e2]
      exact pm.map _
    refine ⟨nm.nodup_iff.mpr o1, fun n hn => o2 n (nm.mem_iff.mp hn), fun b hb => ?_, ?_, o5⟩
    · rw [row_moved e] at hb
      cases w with
      | true =>
        obtain ⟨x, hx, rfl⟩ := List.mem_map.mp hb
        exact (hL.1.tl (good_tag o3).tl) x hx
      | false =>
        obtain ⟨x, hx, rfl⟩ := List.mem_map.mp hb
        exact (hL.1.tl (fgood_tag o3).tl) x hx
    · have := pm.length_eq
      rw [List.length_map, List.length_range] at this
      rw [List.length_map, this]
      exact o4
  | leave n =>
    rcases h with ⟨_, _, e1, e2⟩ | ⟨i, hi, _, rfl, rfl⟩
    · exact same e1 e2
    · have hil := at1_lt hi
      have sl : (putL l i []).Sublist l := by
        unfold putL
        rw [List.append_nil]
        conv => rhs; rw [← List.take_append_drop i l]
        exact (List.Sublist.refl _).append (by rw [List.drop_eq_getElem_cons hil]; exact List.sublist_cons_self _ _)
      refine ⟨(sl.map (fun b : Fb => b.1)).nodup o1, fun n hn => o2 n ((sl.map (fun b : Fb => b.1)).subset hn), fun b hb => o3 b ((sl.map (fun b : Fb => (b.2.1, b.2.2.1))).subset hb), Nat.le_trans sl.length_le o4, o5⟩
  | feed n e =>
    rcases h with ⟨_, _, e1, e2⟩ | ⟨i, b, hi, hb, _, rfl, rfl⟩
    · exact same e1 e2
    · have hil := at1_lt hi
      have hb2 : l[i] = b := by rw [List.getElem?_eq_getElem hil] at hb; exact Option.some.inj hb
      have hn : n = (l[i]).1 := by
        have := hi.1
        rw [namesF, List.getElem?_map, hb] at this
        rw [hb2]
        exact (Option.some.inj this).symm
      have nm := put_names (b := (n, b.2.1 + e, b.2.2.1, b.2.2.2)) hil hn
      refine ⟨by rw [nm]; exact o1, by rw [nm]; exact o2, put_tolls o3 fun z hz => ?_, ?_, o5⟩
      · cases List.mem_singleton.mp hz
        exact o3 (b.2.1, b.2.2.1) (List.mem_map.mpr ⟨b, List.mem_of_getElem? hb, rfl⟩)
      · have : (namesF (putL l i [(n, b.2.1 + e, b.2.2.1, b.2.2.2)])).length = (namesF l).length := by rw [nm]
        rw [namesF, namesF, List.length_map, List.length_map] at this
        rw [this]
        exact o4
  | ask n tt =>
    rcases h with ⟨_, _, e1, e2⟩ | ⟨i, b, hi, hb, _, rfl, rfl⟩
    · exact same e1 e2
    · have hil := at1_lt hi
      have hb2 : l[i] = b := by rw [List.getElem?_eq_getElem hil] at hb; exact Option.some.inj hb
      have hn : n = (l[i]).1 := by
        have := hi.1
        rw [namesF, List.getElem?_map, hb] at this
        rw [hb2]
        exact (Option.some.inj this).symm
      have nm := put_names (b := (n, b.2.1, tt, b.2.2.2)) hil hn
      refine ⟨by rw [nm]; exact o1, by rw [nm]; exact o2, put_tolls o3 fun z hz => ?_, ?_, o5⟩
      · cases List.mem_singleton.mp hz
        exact t
      · have : (namesF (putL l i [(n, b.2.1, tt, b.2.2.2)])).length = (namesF l).length := by rw [nm]
        rw [namesF, namesF, List.length_map, List.length_map] at this
        rw [this]
        exact o4
  | over w n =>
    rcases h with ⟨_, _, e1, e2⟩ | ⟨i, hi, ⟨_, _, e1, e2⟩ | ⟨hc, x, hx, _, rfl, rfl⟩⟩
    · exact same e1 e2
    · exact same e1 e2
    · obtain ⟨p1, p2, p3⟩ := turnL_names hc
      exact ⟨p1.nodup_iff.mpr o1, fun n hn => o2 n (p1.mem_iff.mp hn), p3 o3, by rw [p2]; exact o4, o5⟩
end HH
set_option maxHeartbeats 4000000
namespace HH
open PySem PySem.Spec PyProof.Rows L2 Evl RZ
theorem obj_there {P : Program} {w : World} {H : Hp} {h : Heap} {a : Addr} {o : HO} (x : ObjOk P w H h a o) : ∃ u, h.get? a = some u := by
  cases o with
  | lst xs => obtain ⟨_, _, _, _, e⟩ := x; exact ⟨_, e⟩
  | tup xs => obtain ⟨_, _, _, ob, e, _⟩ := x; exact ⟨_, e⟩
  | dK kvs => obtain ⟨_, _, _, _, o, _, _, e, _⟩ := x; exact ⟨_, e⟩
  | dT kvs => obtain ⟨_, _, _, _, o, _, _, e, _⟩ := x; exact ⟨_, e⟩
  | set S n => obtain ⟨o, _, _, _, e, _⟩ := x; exact ⟨_, e⟩
  | ins C dx fs => obtain ⟨_, _, _, e, _⟩ := x; exact ⟨_, e⟩
  | own y => obtain ⟨_, e⟩ := x; exact ⟨_, e⟩
  | xd fs => obtain ⟨_, ⟨_, _, _, e, _⟩, _⟩ := x; exact ⟨_, e⟩
  | rng lo hi => obtain ⟨_, _, _, e⟩ := x; exact ⟨_, e⟩
  | frz ob u => obtain ⟨e, _⟩ := x; exact ⟨_, e⟩
  | tbl ps => exact ⟨_, (show h.get? a = some _ from x)⟩
  | met f y => exact ⟨_, (show h.get? a = some _ from x)⟩
  | ext φ => obtain ⟨_, ⟨_, e⟩, _⟩ := x; exact ⟨_, e⟩
section
variable {X : Cx} {pins : List (Addr × Obj)} {σ : L2.St} {H : Hp} {s : Shared}
theorem hid_inv (I : Inv X pins σ H s) (l : List Addr) (hl : ∀ a ∈ l, H a = none ∧ a ≠ X.env.locals ∧ X.s_0.heap.get? a = none ∧ (∀ p ∈ X.pn ++ pins, p.1 ≠ a) ∧ ∃ o vs, s.heap.get? a = some o ∧ o.data = .fields vs) : Inv X pins σ H { s with heap := PySem.W.hideAll s.heap l } := by
  have kp : ∀ b o, b ∉ l → s.heap.get? b = some o → (PySem.W.hideAll s.heap l).get? b = some o := fun b o n e => PySem.W.hideAll_get l e n
  have tr : ∀ b o, H b = some o → b ∉ l := fun b o e hm => by
    rw [(hl b hm).1] at e
    cases e
  have old : ∀ b o, X.s_0.heap.get? b = some o → b ∉ l := fun b o e hm => by
    rw [(hl b hm).2.2.1] at e
    cases e
  have cl : ∀ c v, s.heap.IsCell c v → c ∉ l := fun c v ⟨o, ho, hd⟩ hm => by
    obtain ⟨_, _, _, _, o', vs, ho', hd'⟩ := hl c hm
    rw [ho] at ho'
    cases ho'
    rw [hd] at hd'
    cases hd'
  have clk : ∀ c v, s.heap.IsCell c v → (PySem.W.hideAll s.heap l).IsCell c v := fun c v h => by
    have := cl c v h
    obtain ⟨o, ho, hd⟩ := h
    exact ⟨o, kp c o this ho, hd⟩
  obtain ⟨m, ⟨on, es, ep, n1, n2⟩, hlk⟩ := I.loc
  refine ⟨I.ok, I.os, I.bare, ⟨fun b o e n hb hx => kp b o (old b o e) (I.base.keep b o e n hb hx), fun b o e n hb hx => ?_, I.base.free, fun b o e hx => ?_, I.base.tups, I.base.frzs, I.base.tbls⟩, ⟨m, ⟨on, es, ep, kp _ _ (fun hm => (hl _ hm).2.1 rfl) n1, n2⟩, fun i x v e1 e2 e3 => ?_⟩, fun x c e => ?_, I.free, I.freeC, fun p hp => ?_, fun b o e => (I.hok b o e).stay (fun c u hc r => kp c u ?_ r) (fun _ q => q) (fun _ _ q => q), I.len⟩
  · obtain ⟨sl, q⟩ := I.base.slot b o e n hb hx
    exact ⟨sl, kp _ _ (old b o e) q⟩
  · obtain ⟨o', q⟩ := I.base.there b o e hx
    exact ⟨o', kp _ _ (old b o e) q⟩
  · obtain ⟨u, r, lk⟩ := hlk i x v e1 e2 e3
    refine ⟨u, r, ?_⟩
    rcases lk with lk | ⟨k, c, h1, h2⟩
    · exact .inl lk
    · exact .inr ⟨k, c, h1, clk c _ h2⟩
  · obtain ⟨v, h⟩ := I.cell x c e
    exact ⟨v, clk c v h⟩
  · obtain ⟨h1, h2⟩ := I.pin p hp
    exact ⟨kp _ _ (fun hm => (hl _ hm).2.2.2.1 p hp rfl) h1, h2⟩
  · rcases hc with rfl | hc
    · exact tr _ _ e
    · exact tr _ _ hc
end
section
variable {X : Cx} {pins : List (Addr × Obj)} {a T : Addr} {oe oT : Obj} {vs ts : Array Value} {cls : Value} {d : Option Addr} {Wout : WX} {pos : Pos}
abbrev pin2 (X : Cx) (pins : List (Addr × Obj)) (a T : Addr) (oe oT : Obj) : List (Addr × Obj) := (a, oe) :: (T, oT) :: (X.pn ++ pins)
theorem unsuite2 {pn' : List (Addr × Obj)} {σ : L2.St} {H : Hp} {s : Shared} (I : Inv (L2H.suiteX X a (pin2 X pins a T oe oT)) pn' σ H s) (ok : X.Ok) : Inv X pins σ H s :=
  ⟨ok, I.os, I.bare, I.base, I.loc, I.cell, I.free, I.freeC, fun p hp => I.pin p (List.mem_append_left _ (List.mem_cons_of_mem _ (List.mem_cons_of_mem _ hp))), I.hok, I.len⟩
theorem ps_bare (hf : X.env.frame = some X.env.locals) (ok : X.Ok) (tk : Takes X Wout) (hz : Zc cls d oe) (hd : oe.data = .fields vs) (h1 : vs[1]? = some (.ref T)) (hTe : T ≠ a) (hdT : oT.data = .fields ts) (h3 : ts[3]? = some .none)
    (na : X.s_0.heap.get? a = none) (nT : X.s_0.heap.get? T = none) (np : ∀ p ∈ X.pn ++ pins, p.1 ≠ a ∧ p.1 ≠ T) : PS (L2H.suiteX X a (pin2 X pins a T oe oT)) (.Raise none none pos) (fun _ σ H => Wout cls d σ H) := by
  refine ⟨fun pn' s σ H D I h => ?_⟩
  have J : Inv X pins σ H s := unsuite2 I ok
  have Pa := I.pin (a, oe) (List.mem_append_left _ List.mem_cons_self)
  have PT := I.pin (T, oT) (List.mem_append_left _ (List.mem_cons_of_mem _ List.mem_cons_self))
  have K := hid_inv J [a, T] (fun b hb => by
    rcases List.mem_cons.mp hb with rfl | hb
    · exact ⟨Pa.2.1, Pa.2.2.1, na, fun p hp => (np p hp).1, oe, vs, Pa.1, hd⟩
    · cases List.mem_singleton.mp hb
      exact ⟨PT.2.1, PT.2.2.1, nT, fun p hp => (np p hp).2, oT, ts, PT.1, hdT⟩)
  have gone : ∀ b ∈ [a, T], (PySem.W.hideAll (PySem.W.hideAll s.heap [a, T]) (frs X.stack)).get? b = none := fun b hb => by
    cases q : (PySem.W.hideAll (PySem.W.hideAll s.heap [a, T]) (frs X.stack)).get? b with
    | none => rfl
    | some o =>
      have := PySem.W.of_hideAll _ q
      rw [PySem.W.hideAll_none _ hb] at this
      cases this
  refine PySem.wpAny_Raise_bare ?_
  unfold raiseBare raiseStmt
  dsimp only
  refine wpAny_bind (wpAny_handled ?_)
  rw [show (X.A.mark (some (.ref a))).handled = some (.ref a) from rfl]
  dsimp only
  refine wpAny_bind (wpAny_rule ?_)
  refine wpAny_bind (wpAny_field Pa.1 hd h1 ?_)
  rw [if_neg (show ¬ ((Value.ref T == Value.none) = true) from by simp)]
  have fin : wpAny (model X.prog X.w) (X.A.mark (some (.ref a))) (setFlight (.ref a) X.env.frame) (fun _ s4 => wpAny (model X.prog X.w) (X.A.mark (some (.ref a))) (throw (.ref a) : Sem Flow) (SP (L2H.suiteX X a (pin2 X pins a T oe oT)) pn' D) X.xe s4) X.xe s := by
    rw [hf]
    refine HandSPX.setFlight_anyZ (base := PySem.W.hideAll (PySem.W.hideAll s.heap [a, T]) (frs X.stack)) (l := X.stack) (Z := Zc cls d) (fl := .none) (fun b o e => PySem.W.of_hideAll _ (PySem.W.of_hideAll _ e)) (funFrames_none J.stack fun b hb => PySem.W.hideAll_none _ hb) ⟨oe, vs, T, oT, ts, Pa.1, hz, hd, h1, gone T (by simp), hTe, PT.1, hdT, h3⟩ fun h' k1 k2 k3 k4 => wpAny_throw (tk _ _ ?_)
    exact ⟨a, _, _, pins, σ, H, cls, d, rfl, K, fun b o e hb => PySem.W.hideAll_get _ e hb, fun b o e hnf => k4 b o (PySem.W.of_hideAll _ e) hnf, .inr (.inr ⟨k1, gone a (by simp), k2, k3⟩), Pa.2.1, rfl, I.bare, h⟩
  first
    | exact wpAny_bind (wpAny_pure (wpAny_bind fin))
    | exact wpAny_bind fin
end
def wRe (m : Value → Prop) (ts : Value → Option Addr → TS) (D : Ends) : WX := fun cls d σ H => m cls ∧ ts cls d D σ H
section
variable {X : Cx} {t : Expr} {m : Value → Prop} {body suite : List Stmt} {b0 : Stmt} {pos pos' pr : Pos} {tb : WX → TS} {ts : Value → Option Addr → TS} {Wout : WX}
end
end HH
set_option maxHeartbeats 4000000
namespace HH
open PySem PySem.Spec PyProof.Rows L2 Evl RZ
section
variable {prog : Program} {w : World} {A : Around} {E : Value → Shared → Prop} {s : Shared}
theorem next_tuple_end_hot {it t x1 : Addr} {i : Nat} {items : Array Value} {Q : Option Value → Shared → Prop} (hot : HotX.HotAt A x1 s.heap) (hne : x1 ≠ it)
    (hit : IsTupIter s.heap it t i) (ht : IsTup s.heap t items) (hx : items[i]? = none)
    (hQ : ∀ h', Heap.ExtBut it s.heap h' → Q none { s with heap := h' }) : wpAny (model prog w) A (pyNext (.ref it)) Q E s := by
  obtain ⟨o, ho, hc, hd⟩ := id hit
  obtain ⟨ol, hol, _, nl, hdl⟩ := ht
  obtain ⟨hh, o1, vs1, h1, d1, c1⟩ := hot
  unfold pyNext
  refine wpAny_bind (wpAny_attempt (wpAny_callSpecial?_slot (name := Str.ofString "__next__") hit.typeIs slot_tupleiter_next
    (wpAny_call_entry slot_tupleiter_next hit.typeIs entry_tupleiter_next ?_ (args_tupleiter_next _))))
  show wpAny _ _ (field (.ref it) 0 >>= _) _ _ s
  refine wpAny_bind (wpAny_field ho hd (x := .ref t) rfl ?_)
  show wpAny _ _ (if (Value.ref t == Value.none) = true then _ else _) _ _ s
  rw [if_neg (show ¬ ((Value.ref t == Value.none) = true) from Bool.false_ne_true)]
  show wpAny _ _ (field (.ref it) 1 >>= _) _ _ s
  refine wpAny_bind (wpAny_field ho hd (x := .int i 0) rfl ?_)
  show wpAny _ _ (seqItems? (.ref t) >>= _) _ _ s
  refine wpAny_bind (wpAny_seqItems hol hdl ?_)
  simp only [Int.toNat_natCast, hx]
  refine wpAny_bind (wpAny_rule (wpAny_bind (wpAny_setField ho hd (by simp) ?_)))
  show wpAny _ _ (newExc (.type "StopIteration") [] >>= _) _ _ _
  refine wpAny_bind ?_
  simp only [newExc, newTuple]
  refine wpAny_bind (wpAny_newObj_type ?_ (by size_fits))
  refine wpAny_bind (m := firstArgMember _ _) (wpAny_of_eq (a := Value.none) (by first | rfl | (simp only [firstArgMember]; rfl)) ?_)
  refine wpAny_newObj_type ?_ (by size_fits)
  have h1' := (Heap.get?_update_other s.heap (Obj.mapFields (·.setIfInBounds 0 Value.none)) (Ne.symm hne)).trans h1
  refine HotX.raiseNew_hot ⟨hh, o1, vs1, Heap.get?_push_of_some _ (Heap.get?_push_of_some _ h1'), d1, c1⟩ (Nat.ne_of_lt (Heap.lt_size (Heap.get?_push_of_some _ h1'))) (Heap.get?_push_size _ rfl) rfl (by first | (simp; done) | (simp; omega) | (simp only [Array.size_append]; simp; omega)) ?_
  refine wpAny_bind (wpAny_isInstance (T := "StopIteration") (b := true) ⟨_, Heap.get?_update_self _ (Heap.get?_push_size _ rfl) rfl, rfl⟩ isSubtype_stop ?_)
  refine wpAny_pure (hQ _ fun b o hb e => ?_)
  have e' := (Heap.get?_update_other s.heap (Obj.mapFields (·.setIfInBounds 0 Value.none)) (Ne.symm hb)).trans e
  rw [Heap.get?_update_other _ _ (Nat.ne_of_gt (Heap.lt_size (Heap.get?_push_of_some _ e')))]
  exact Heap.get?_push_of_some _ (Heap.get?_push_of_some _ e')
theorem hot_ext {x1 it : Addr} {h h' : Heap} (hot : HotX.HotAt A x1 h) (hne : x1 ≠ it) (e : Heap.ExtBut it h h') : HotX.HotAt A x1 h' := by
  obtain ⟨hh, o1, vs1, h1, d1, c1⟩ := hot
  exact ⟨hh, o1, vs1, e _ _ hne h1, d1, c1⟩
theorem unpackItems_hot {t x1 : Addr} {items : Array Value} {Q : List Value → Shared → Prop} (hot : HotX.HotAt A x1 s.heap) (ht : IsTup s.heap t items)
    (hQ : ∀ h', Heap.ExtBut s.heap.objs.size s.heap h' → Q items.toList { s with heap := h' }) : wpAny (model prog w) A (unpackItems (.ref t) items.size none) Q E s := by
  have hlt : t ≠ s.heap.objs.size := by obtain ⟨o, ho, _⟩ := ht; exact Nat.ne_of_lt (Heap.lt_size ho)
  have hx1 : x1 ≠ s.heap.objs.size := by obtain ⟨_, o, _, ho, _⟩ := hot; exact Nat.ne_of_lt (Heap.lt_size ho)
  unfold unpackItems
  refine wpAny_bind ?_
  · unfold notIterableAtAll
    refine wpAny_bind (wpAny_specialOf ht.typeIs slot_tuple_iter.lookup ?_)
    refine wpAny_pure ?_
    simp only [Bool.false_eq_true, if_false]
    refine wpAny_bind (wpAny_holding (iter_tuple ht ?_))
    refine wpAny_bind (wpAny_holding (draw_tuple hlt items.size 0 _ _ ⟨_, Heap.get?_push_size _ rfl, rfl, rfl⟩ (ht.push _) (by omega) fun h₁ hit₁ hs₁ => ?_))
    have hall : List.take items.size (List.drop 0 items.toList) = items.toList := by
      rw [List.drop_zero]; exact List.take_of_length_le (by simp)
    rw [hall]
    rw [if_neg (by simp)]
    have ht₁ : IsTup h₁ t items := (ht.push _).extBut hs₁.extBut hlt
    have hot₁ : HotX.HotAt A x1 h₁ := hot_ext hot hx1 fun b o hb e => hs₁.extBut b o hb (Heap.get?_push_of_some _ e)
    refine wpAny_bind (wpAny_holding (next_tuple_end_hot hot₁ hx1 hit₁ ht₁ (by simp) fun h₂ he₂ => ?_))
    simp only [Option.isSome_none, Bool.false_eq_true, if_false]
    refine wpAny_pure (hQ h₂ fun b o hb e => he₂ b o hb (hs₁.extBut b o hb (Heap.get?_push_of_some _ e)))
theorem assign_Tuple_hot {env : Env} {elts : List Expr} {k} {pos : Pos} {t x1 : Addr} {items : Array Value} {Q : Unit → Shared → Prop} (hot : HotX.HotAt A x1 s.heap) (ht : IsTup s.heap t items)
    (hn : (assignEach elts env).length = items.size) (hstar : (assignEach elts env).findIdx? (·.1) = none)
    (h : ∀ h', Heap.ExtBut s.heap.objs.size s.heap h' → wpAny (model prog w) A (assignInOrder ((assignEach elts env).map (·.2)) items.toList) Q E { s with heap := h' }) :
    wpAny (model prog w) A (assign (.Tuple elts k pos) env (.ref t)) Q E s := by
  rw [assign_Tuple]
  refine wpAny_bind (wpAny_standAt ?_)
  unfold unpack
  rw [hn, hstar]
  exact wpAny_bind (wpAny_holding (unpackItems_hot hot ht h))
end
theorem pg_tupH {X : Cx} {es : List Expr} {k : Nat} {t : TGs} {n : Nat} {pos : Pos} (hc : L2H.HotC X) (h : PGs X es t)
    (hn : (assignEach es X.env).length = n := by rfl) (hst : (assignEach es X.env).findIdx? (·.1) = none := by rfl) : PG X (.Tuple es k pos) (gTup X.K n t) := by
  refine ⟨fun pins s σ H v u Q I r hw => ?_⟩
  obtain ⟨a, xs, e1, hq, hl, hw⟩ := hw
  subst e1
  cases r
  obtain ⟨its, rv, ht, hz⟩ := I.tuple hq
  obtain ⟨x1, hot⟩ := hc.at I
  refine assign_Tuple_hot hot ht (by simp [hn, ← hl, rv.length]) hst fun h' hx => ?_
  have I1 : Inv X pins σ H { s with heap := h' } := I.kept (t' := s.toks) fun b o e => hx b o (Nat.ne_of_lt (Heap.lt_size e)) e
  exact h.run pins _ σ H xs _ Q I1 (by simpa using rv) hw
end HH
set_option maxHeartbeats 4000000
namespace HH
open PySem PySem.Spec PyProof.Rows L2 Evl RZ
section
variable {X : Cx} {C fI : Addr} {f : Str} {b : Bk}
theorem pmk_xN {x : Str} {e : Expr} {ta : TA} {p pos : Pos} {k : Nat} {fd : FuncData} (T : ExcTy X.K b f C fI) (F1 : FnOk X.prog X.w X.K X.mg X.base CX0 k fI fd ["self", f] (spIni C f)) (hr : Room (k + 1) X.A) (hb : Binds X.K fd ["self", f] []) (hm : X.mg x = some (.ref C)) (hg : Gl X x) (ha : PA X [e] ta)
    (hdb : (x == ("__debug__" : Str)) = false := by decide) (he : starEach (e :: []) X.env = (false, eval e X.env) :: starEach [] X.env := by rfl) (hpl : (backTo pos (starEach [] X.env)).any (·.1) = false := by rfl) :
    L2N.PMk X (.Call (.Name x p) [e] [] pos) (tMkX C f ta) := by
  intro pins s σ H Q I h
  refine wpAny_Call_Name_kw (ld_glob I hg hm (PySem.W.callWith_K (h₀ := X.base) I.ok.mod.kin T.kC (thn (ha.run pos pins s σ H _ I h) fun us s1 ⟨vs, H1, J, r1, v, ev, q⟩ => ⟨J.kIn, ?_⟩) he hpl) hdb)
  subst ev
  show wpAny _ _ (call (.ref C) us) _ _ _
  obtain ⟨u, rfl, ru⟩ := vals1 r1
  obtain ⟨nm, N, qn, bs, bm, hdct, sn, sub, ab, col, dd, k0, k1, k2, k3, k5, hC, hT⟩ := PySem.W.excInit_of J.kIn T.ok
  obtain ⟨hp, g, dr, tk, os⟩ := s1
  have big : hp.objs.size ≤ hp.objs.size + 1 := Nat.le_succ _
  have nw : H1 (hp.objs.size + 1) = none := J.hok.fresh big
  have kk : ∀ c o, hp.get? c = some o → ((hp.push (PySem.W.kdv_tup [u])).push (PySem.HandSPX.excO C hp.objs.size)).get? c = some o := fun c o z => Heap.get?_push_of_some _ (Heap.get?_push_of_some _ z)
  have at1 : ((hp.push (PySem.W.kdv_tup [u])).push (PySem.HandSPX.excO C hp.objs.size)).get? (hp.objs.size + 1) = some (PySem.HandSPX.excO C hp.objs.size) := by heap_get
  have J2 : Inv X pins σ (upd H1 (hp.objs.size + 1) (exo (hp.objs.size + 1) C none)) ⟨(hp.push (PySem.W.kdv_tup [u])).push (PySem.HandSPX.excO C hp.objs.size), g, dr, tk, os⟩ := J.laid (t' := tk) (h' := (hp.push (PySem.W.kdv_tup [u])).push (PySem.HandSPX.excO C hp.objs.size)) kk big (exo_ok at1)
  have r2 : Vals [V.ref (hp.objs.size + 1), v] [Value.ref (hp.objs.size + 1), u] := .cons rfl (.cons ru .nil)
  have sp : spIni C f [V.ref (hp.objs.size + 1), v] (upd H1 (hp.objs.size + 1) (exo (hp.objs.size + 1) C none)) (fun v' H2 => v' = .non ∧ ∃ (d : Addr) (fs : List (Str × V)), H2 (hp.objs.size + 1) = some (exo (hp.objs.size + 1) C (some d)) ∧ H2 d = some (exd d fs) ∧ H1 d = none ∧ Q (.ref C) (some d) (upd (del H2 (hp.objs.size + 1)) d (.xd fs))) (fun _ _ _ => False) := by
    refine ⟨_, v, rfl, upd_same, fun dx n ne => ⟨rfl, dx, [(f, v)], upd_same, ?_, ?_, ?_⟩⟩
    · rw [upd_ne ne, upd_same]
    · rw [← n, upd_ne ne]
    · have n1 : H1 dx = none := by rw [← n, upd_ne ne]
      have e2 : upd (del (upd (upd (upd H1 (hp.objs.size + 1) (exo (hp.objs.size + 1) C none)) dx (exd dx [(f, v)])) (hp.objs.size + 1) (exo (hp.objs.size + 1) C (some dx))) (hp.objs.size + 1)) dx (.xd [(f, v)]) = upd H1 dx (.xd [(f, v)]) := funext fun c => by
        by_cases z : c = dx
        · rw [z, upd_same, upd_same]
        rw [upd_ne z, upd_ne z]
        by_cases z2 : c = hp.objs.size + 1
        · rw [z2, del_same, nw]
        · rw [del_ne z2, upd_ne z2, upd_ne z, upd_ne z2]
      rw [e2]
      exact q dx n1
  refine wpAny_call (PySem.HandSPX.call_own b.base hT hC (PySem.W.looks_findIn J.kIn T.iC) (fun self => PySem.W.bind_fn J.kIn self T.tI) (by rw [sizeLine_eq]; show 1 ≤ 16777216; decide)
    (codeAny_mono (F1.run _ X.stack _ _ ⟨[Value.ref (hp.objs.size + 1), u], []⟩ [Value.ref (hp.objs.size + 1), u] _ _ (fun _ _ _ => False) (hr.make C [u] []) (J2.env0.make C [u] []) (hb _ [Value.ref (hp.objs.size + 1), u] J2.kIn rfl) r2 sp) fun rs s' hq => ?_))
  match rs, hq with
  | .error _, hq => exact hq.elim
  | .ok .next, hq => exact hq.elim
  | .ok .brk, hq => exact hq.elim
  | .ok .cont, hq => exact hq.elim
  | .ok (.ret _), ⟨v', H2, os2, bare2, un2, hok2, rv, ev, d, fs, ea, ed, hd1, q2⟩ =>
    subst ev
    obtain ⟨h2, g2, d2, t2, os'⟩ := s'
    obtain ⟨t0, G, J9, kG, ge, hoe, na⟩ := mk_end0 (d2 := d2) (t2 := t2) J big kk un2 hok2 os2 bare2 ea ed hd1
    exact ⟨rv, _, _, _, ⟨G, g2, d2, t2, os'⟩, _, .ref C, some d, rfl, J9, kG, ge, hoe, ⟨rfl, rfl, fun vs e => by cases e; rfl⟩, rfl, rfl, na, rfl, bare2, raises_own T.ex T.ty, q2⟩
end
section
variable {P : Program} {w : World} {K : PySem.W.Frag} {mg : Str → Option Value} {base : Heap} {k : Nat} {f C : Addr} {fd : FuncData} {ps : List Str} {sp : Sp} {m : Str} {ds : List Value} {dv : List V} {CX : CXT}
theorem cx_toC {outer : List Env} {H : Hp} {s s' : Shared} {E : XK} {u : Value} (h : L2N.CX P w outer H s E u s') : L2.CX P w outer H s E u s' := by
  obtain ⟨a, B, H', cls, d, e, fl, hok, ub, na, os, ag, hE⟩ := h
  exact ⟨a, B, H', cls, d, e, L2H.flyingZ_imp (fun o z => z.zc) fl, hok, ub, na, os, ag, hE⟩
theorem fn_toC (h : FnOk P w K mg base (L2N.CX P w) k f fd ps sp) : FnOk P w K mg base (L2.CX P w) k f fd ps sp := ⟨h.len, fun A outer s H args us vs Q E hr e0 hb r hsp => codeAny_mono (h.run A outer s H args us vs Q E hr e0 hb r hsp) fun r s' hq => by
  cases r with
  | error e => exact cx_toC hq
  | ok fl => cases fl <;> exact hq⟩
theorem HasM.toC (h : HasM P w K mg base (L2N.CX P w) k C m ps ds dv sp f fd) : HasM P w K mg base (L2.CX P w) k C m ps ds dv sp f fd := ⟨fn_toC h.G, h.c, h.m, h.b, h.d⟩
structure HasMH (P : Program) (w : World) (K : PySem.W.Frag) (mg : Str → Option Value) (base : Heap) (k : Nat) (C : Addr) (m : Str) (ps : List Str) (sp : Sp) (f : Addr) (fd : FuncData) : Prop where
  G : L2H.FnH P w K mg base CX0 k f fd ps sp
  c : Cls K C
  m : Meth K C m f
  b : Binds K fd ps []
theorem fund_okH {x qual : Str} {params : Arguments} {body : List Stmt} {scope : Scope} {dvs : List V} {kws : List (Str × V)} {N : List Str} (F : FunD K x qual params body scope dvs kws f fd) (S : FnScope N ps scope) (len : ∀ vs H Q E, sp vs H Q E → vs.length = ps.length)
    (hbody : ∀ (cdv : Value) (A : Around) (outer : List Env) (s : Shared) (H : Hp) (vs : List V) (Q : VK) (E : XK) (p : Addr × Obj), L2H.HotC (L2H.cxH CX0 P w K mg base N qual scope f cdv A outer s H E p) → L2H.RoomH k (A.deeper (envOfC qual scope s.heap.objs.size f cdv)) → sp vs H Q E →
      ∃ t, PSs (L2H.cxH CX0 P w K mg base N qual scope f cdv A outer s H E p) body t ∧ t { nx := fun _ H' => Q .non H', rt := Q } (L2.start N vs) H) : L2H.FnH P w K mg base CX0 (k + 1) f fd ps sp := by
  obtain ⟨oc, od, dV, kV, doc, pm, an, cdv, ct, osl, rfl, lk, hcd, _, _⟩ := F.ex
  exact L2H.fn_ofH lk hcd S len fun A outer s H vs Q E p hot hr hsp => hbody cdv A outer s H vs Q E p ⟨p, hot, List.mem_singleton.mpr rfl⟩ hr hsp
end
section
variable {X : Cx} {CX : CXT} {k : Nat} {f C : Addr} {fd : FuncData} {ps : List Str} {sp : Sp} {E : L2.St → XK} {m : Str} {pos apos : Pos} {o : Expr} {ta : TE}
theorem pe_methH0 {pl : Sem Bool} (he : PE X o ta) (c : Cls X.K C) (hm : Meth X.K C m f) (F : L2H.FnH X.prog X.w X.K X.mg X.base CX k f fd ps sp) (hr : L2H.RoomH k X.A) (hc : L2H.HotC X) (hb : Binds X.K fd ps []) (hx : ∀ σ, PassesAt CX X σ (E σ))
    (ht : eval (.Call (.Attribute o m apos) [] [] pos) X.env = (do
      let ov ← eval o X.env
      standAt apos.atName
      let (f, first) ← holding [ov] (getMethod ov m pl)
      callWith pos f first (backTo pos (starEach [] X.env)) (backToKw pos (keywordEach [] X.env))) := by rfl) :
    PE X (.Call (.Attribute o m apos) [] [] pos) (L2H.tMethH C m sp E ta tNil) := by
  refine ⟨fun pins s σ H Q I h => ?_⟩
  refine PySem.W.methodCall_KW (pl := pl) (thn (he.run pins s σ H _ I h) fun u s1 ⟨x, H1, I1, rx, a, dx, fs, ex, ea, l, q⟩ => ?_) ht
  subst ex
  obtain rfl : u = Value.ref a := rx
  refine getmeth_ok I1 ea c hm l ?_
  exact PySem.W.callWith_K0 (first := [.ref a]) I1.kIn hm.kp (L2H.run_fnH (us := [.ref a]) (vs := [.ref a]) F hr hc hb (hx σ) I1 (.cons rfl .nil) q)
theorem roomM {j : Nat} {A : Around} {hd : Option Value} (r : Room j A) : L2H.RoomH j (A.mark hd) := ⟨r.dp, r.un⟩
theorem passNo {X : Cx} (σ : L2.St) : PassesAt (L2.CX X.prog X.w) X σ E0 := fun _ _ _ _ _ _ ⟨_, _, _, _, _, _, _, _, _, _, _, _, h⟩ => h.elim
theorem passM {X : Cx} {K : Value → Shared → Prop} {E₁ : Value → Shared → Prop} (hx : X.xe = fun e s' => wpAny (model X.prog X.w) X.A (leaving X.env e) (fun _ s'' => K e s'') E₁ s') (hd : Option Value) : PassesOwn (model X.prog X.w) (X.A.mark hd) X.env X.xe := by
  rw [hx]
  exact PassesOwnAt.leavingOf (SameStack.mark X.A hd)
theorem pass0H {X : Cx} (σ : L2.St) : PassesAt CX0 X σ E0 := fun _ _ _ _ _ _ h => h.elim
end
section
variable {X : Cx} {t : Expr} {m : Value → Prop} {body suite : List Stmt} {b0 : Stmt} {pos pos' pr : Pos} {tb : WX → TS} {ts : Value → Option Addr → TS} {Wout : WX}
theorem ps_try_reN (hs : X.stack = X.env :: X.outer) (hf : X.env.frame = some X.env.locals) (hex : X.ex = []) (hpm : ∀ hd : Option Value, PassesOwn (model X.prog X.w) (X.A.mark hd) X.env X.xe) (hpa : ∀ hd : Option Value, PassesOwnAt (model X.prog X.w) (X.A.mark hd) X.A X.env X.xe) (tk : Takes X Wout) (hc : Catches X t m)
    (hb : ∀ (W : WX) (pn : List (Addr × Obj)) (xe : Value → Shared → Prop), L2N.Takes (X.tr pn xe) W → PassesOwn (model X.prog X.w) X.A X.env xe → PSs (X.tr pn xe) body (tb W))
    (hsu : ∀ (a : Addr) (cls : Value) (d : Option Addr) (pn : List (Addr × Obj)), L2H.HotC (L2H.suiteX X a pn) → PassesOwn (model X.prog X.w) (X.A.mark (some (.ref a))) X.env X.xe → PS (L2H.suiteX X a pn) (.Raise none none pr) (fun _ σ H => Wout cls d σ H) → PSs (L2H.suiteX X a pn) (b0 :: suite) (ts cls d)) :
    PS X (.Try body [.ExceptHandler (some t) none (b0 :: suite) pos'] [] [] pos) (fun D σ H => tb (wRe m ts D) D σ H) := by
  refine ⟨fun pins s σ H D I h => ?_⟩
  have ok := I.ok
  have frm : X.A.frames = some (X.env :: X.outer) := by rw [ok.frames, hs]
  refine wpAny_Try_except (wpAny_mono ((hb (wRe m ts D) (X.pn ++ pins) (fun e s₁ => wpAny (model X.prog X.w) X.A (noteFrame e X.env) (fun _ s₂ => wpAny (model X.prog X.w) X.A (setFlight e none) (fun _ s₃ => wpAny (model X.prog X.w) X.A (handleBy e X.env [.ExceptHandler (some t) none (b0 :: suite) pos']) (SP X pins D) X.xe s₃) X.xe s₂) X.xe s₁) (fun u s' xx => ?_) PassesOwn.looking).run [] s σ H D (I.toTry _) h) (fun f s1 hsp => ?_) (fun e s1 he => he))
  · obtain ⟨a, B, sI, pins', σ', H', cls, d, rfl, J', nb, up, sky, na, os, ag, hm, hyes⟩ := xx
    have J : Inv X pins σ' H' sI := J'.ofTry ok
    rw [hs] at sky
    show wpAny (model X.prog X.w) X.A (noteFrame (.ref a) X.env) _ _ _
    refine L2N.Sky.land L2N.Zn.steady frm hf sky fun h3 fl3 up3 => ?_
    have J3 : Inv X pins σ' H' { s' with heap := h3 } := J.landed nb fl3.1 (up.trans up3) os ag
    obtain ⟨oe3, vs3, he3, hz3, hd3⟩ := fl3.there
    have notF : ∀ {h : Heap} {b : Addr} {o : Obj} {vs : Array Value}, h.FunFrames B (X.env :: X.outer) → h.get? b = some o → o.data = .fields vs → b ∉ frs (X.env :: X.outer) := fun {h b o vs} ff e dd hm => by
      obtain ⟨_, o', e', hnf⟩ := ff.mem hm
      rw [e] at e'
      cases e'
      exact hnf _ dd
    have new : ∀ {b : Addr}, B.get? b = none → b ∉ frs (X.env :: X.outer) → b ≠ X.env.locals ∧ b ∉ X.fs ∧ X.s_0.heap.get? b = none ∧ ∀ p ∈ X.pn ++ pins, p.1 ≠ b := fun {b} gb nfr => by
      have nI : sI.heap.get? b = none := by
        cases q : sI.heap.get? b with
        | none => rfl
        | some o =>
          have z := nb b o q (by rw [hs]; exact nfr)
          rw [gb] at z
          cases z
      refine ⟨fun z => nfr (List.mem_filterMap.mpr ⟨X.env, List.mem_cons_self, by rw [hf, z]⟩), fun hm => ?_, ?_, ?_⟩
      · obtain ⟨e, he, q⟩ := List.mem_filterMap.mp hm
        exact nfr (List.mem_filterMap.mpr ⟨e, List.mem_cons_of_mem _ he, q⟩)
      · cases q : X.s_0.heap.get? b with
        | none => rfl
        | some o =>
          obtain ⟨o', z⟩ := J.base.there b o q (by rw [hex]; exact fun z => nomatch z)
          rw [nI] at z
          cases z
      · rintro p hp rfl
        have z := (J.pin p hp).1
        rw [nI] at z
        cases z
    obtain ⟨nL, nF, n0, np⟩ := new fl3.2.1 (notF fl3.2.2.1 he3 hd3)
    have S3 := J3.suite he3 hd3 na nL nF
    have LT : PySem.W.Looks (model X.prog X.w) h3 (typeOf (.ref a)) cls := fun A Q E s k q => wpAny_typeOf_ref (k _ _ he3) (by rw [hz3.1]; exact q)
    refine wpAny_handleBy_cons (codeAny_handlers_test (hc a _ cls σ' H' _ _ _ hm S3 LT fun h4 k4 => ?_)) (by intro q; cases q)
    have fl4 := fly_keeps fl3 k4
    refine codeAny_handlers_suite (HandSPX.lands_againZ fl4 fun h5 fl5 up5 => ?_)
    have J5 : Inv X pins σ' H' { s' with heap := h5 } := J.landed nb fl5.1 (((up.trans up3).trans (Heap.UpToSlots.of_keeps k4)).trans up5) os ag
    obtain ⟨g1, g2, g3, oe5, vs5, T, oT, tv, he5, hz5, hd5, h15, hnT, hTe, hT5, hdT5, h35⟩ := id fl5
    obtain ⟨nLT, nFT, n0T, npT⟩ := new hnT (notF g3 hT5 hdT5)
    have nT : H' T = none := by
      cases q : H' T with
      | none => rfl
      | some o =>
        obtain ⟨u, hu⟩ := obj_there (J.inGround nb T o q)
        rw [hnT] at hu
        cases hu
    have S5 : Inv (L2H.suiteX X a (pin2 X pins a T oe5 oT)) [] σ' H' { s' with heap := h5 } := ⟨⟨ok.mod, ok.kind, ok.glob, ok.blt, ok.above, ok.inj, ok.has, ok.cab, (fun z => absurd (show false = true from z) Bool.false_ne_true), ok.frames, ok.stk, ok.exf, ok.bs, ok.bsz, ok.noex, ok.exfs, ok.funs, ok.frf⟩, J5.os, J5.bare, J5.base, J5.loc, J5.cell, J5.free, J5.freeC, fun p hp => by
      rw [List.append_nil] at hp
      rcases List.mem_cons.mp hp with rfl | hp
      · exact ⟨he5, na, nL, nF, fun v z => by rw [show oe5.data = .cell v from z] at hd5; cases hd5⟩
      rcases List.mem_cons.mp hp with rfl | hp
      · exact ⟨hT5, nT, nLT, nFT, fun v z => by rw [show oT.data = .cell v from z] at hdT5; cases hdT5⟩
      · exact J5.pin p hp, J5.hok, J5.len⟩
    refine wpAny_mono ((hsu a cls d _ ⟨(a, oe5), ⟨rfl, vs5, hd5, hz5.2.2 vs5 hd5⟩, List.mem_cons_self⟩ (hpm _) (ps_bare (oe := oe5) (oT := oT) (pins := pins) hf ok tk hz5.zc hd5 h15 hTe hdT5 h35 n0 n0T fun p hp => ⟨np p hp, npT p hp⟩)).run [] _ _ H' _ S5 hyes) (fun f s6 hsp => ?_) (fun e6 s6 z => hpa (some (.ref a)) e6 s6 z)
    match f, hsp with
    | .next, ⟨σ6, H6, S6, q6⟩ => exact ⟨_, _, unsuite2 S6 ok, q6⟩
    | .brk, ⟨σ6, H6, S6, q6⟩ => exact ⟨_, _, unsuite2 S6 ok, q6⟩
    | .cont, ⟨σ6, H6, S6, q6⟩ => exact ⟨_, _, unsuite2 S6 ok, q6⟩
    | .ret _, ⟨v6, σ6, H6, S6, r6, q6⟩ => exact ⟨_, _, _, unsuite2 S6 ok, r6, q6⟩
  · match f, hsp with
    | .next, ⟨σ', H', J', q⟩ => exact wpAny_execs_nil ⟨σ', H', J'.ofTry ok, q⟩
    | .brk, ⟨σ', H', J', q⟩ => exact ⟨σ', H', J'.ofTry ok, q⟩
    | .cont, ⟨σ', H', J', q⟩ => exact ⟨σ', H', J'.ofTry ok, q⟩
    | .ret _, ⟨v, σ', H', J', r, q⟩ => exact ⟨v, σ', H', J'.ofTry ok, r, q⟩
end
end HH
set_option maxHeartbeats 4000000
namespace K77
open PySem PySem.Spec PyProof.Rows L2 Evl HH RZ
def topS (i : Nat) : Stmt := PySem.Challenge.pw_hayherd_k77_whole_come_ahead_and_behind.main.body.getD i (.Pass ⟨0, 0, 0, 0⟩)
abbrev s_is_number : Stmt := topS 8
theorem sc_is_number : FnScope ["thing"] ["thing"] (defScope s_is_number) := ⟨rfl, rfl, rfl, by decide +kernel, rfl, by decide +kernel, by decide +kernel⟩
abbrev s_can_pass : Stmt := topS 9
theorem sc_can_pass : FnScope ["row", "place", "strength", "toll"] ["row", "place"] (defScope s_can_pass) := ⟨rfl, rfl, rfl, by decide +kernel, rfl, by decide +kernel, by decide +kernel⟩
abbrev s_can_fall : Stmt := topS 10
theorem sc_can_fall : FnScope ["row", "place"] ["row", "place"] (defScope s_can_fall) := ⟨rfl, rfl, rfl, by decide +kernel, rfl, by decide +kernel, by decide +kernel⟩
abbrev s_passed : Stmt := topS 11
theorem sc_passed : FnScope ["row", "place", "ahead", "strength", "toll"] ["row", "place"] (defScope s_passed) := ⟨rfl, rfl, rfl, by decide +kernel, rfl, by decide +kernel, by decide +kernel⟩
abbrev s_fallen : Stmt := topS 12
theorem sc_fallen : FnScope ["row", "place", "strength", "toll", "behind"] ["row", "place"] (defScope s_fallen) := ⟨rfl, rfl, rfl, by decide +kernel, rfl, by decide +kernel, by decide +kernel⟩
abbrev s_swapped : Stmt := topS 13
theorem sc_swapped : FnScope ["order", "place"] ["order", "place"] (defScope s_swapped) := ⟨rfl, rfl, rfl, by decide +kernel, rfl, by decide +kernel, by decide +kernel⟩
abbrev s_can_do : Stmt := topS 14
theorem sc_can_do : FnScope ["row", "word", "place"] ["row", "word", "place"] (defScope s_can_do) := ⟨rfl, rfl, rfl, by decide +kernel, rfl, by decide +kernel, by decide +kernel⟩
abbrev s_led : Stmt := topS 15
theorem sc_led : FnScope ["row", "deeds", "now", "order", "number", "word", "place"] ["row", "deeds"] (defScope s_led) := ⟨rfl, rfl, rfl, by decide +kernel, rfl, by decide +kernel, by decide +kernel⟩
abbrev s_pass_all : Stmt := topS 17
theorem sc_pass_all : FnScope ["line", "strengths", "tolls", "who", "place"] ["line", "strengths", "tolls", "who"] (defScope s_pass_all) := ⟨rfl, rfl, rfl, by decide +kernel, rfl, by decide +kernel, by decide +kernel⟩
abbrev s_fall_all : Stmt := topS 18
theorem sc_fall_all : FnScope ["line", "strengths", "tolls", "who", "place"] ["line", "strengths", "tolls", "who"] (defScope s_fall_all) := ⟨rfl, rfl, rfl, by decide +kernel, rfl, by decide +kernel, by decide +kernel⟩
abbrev s_row_and_order : Stmt := topS 19
theorem sc_row_and_order : FnScope ["line", "strengths", "tolls", "who"] ["line", "strengths", "tolls"] (defScope s_row_and_order) := ⟨rfl, rfl, rfl, by decide +kernel, rfl, by decide +kernel, by decide +kernel⟩
abbrev s_last : Stmt := topS 20
theorem sc_last : FnScope ["row", "strengths", "tolls", "line", "who", "strength", "toll"] ["row"] (defScope s_last) := ⟨rfl, rfl, rfl, by decide +kernel, rfl, by decide +kernel, by decide +kernel⟩
abbrev s_first : Stmt := topS 21
theorem sc_first : FnScope ["row", "strengths", "tolls", "line", "who", "strength", "toll"] ["row"] (defScope s_first) := ⟨rfl, rfl, rfl, by decide +kernel, rfl, by decide +kernel, by decide +kernel⟩
abbrev s_places_of : Stmt := topS 22
theorem sc_places_of : FnScope ["order", "place", "who"] ["order"] (defScope s_places_of) := ⟨rfl, rfl, rfl, by decide +kernel, rfl, by decide +kernel, by decide +kernel⟩
abbrev s_turned_about : Stmt := topS 23
theorem sc_turned_about : FnScope ["order", "place_of", "many", "one", "other"] ["order"] (defScope s_turned_about) := ⟨rfl, rfl, rfl, by decide +kernel, rfl, by decide +kernel, by decide +kernel⟩
abbrev s_is_handed : Stmt := topS 27
theorem sc_is_handed : FnScope ["kind", "thing"] ["kind", "thing"] (defScope s_is_handed) := ⟨rfl, rfl, rfl, by decide +kernel, rfl, by decide +kernel, by decide +kernel⟩
abbrev s_is_fold_deed : Stmt := topS 28
theorem sc_is_fold_deed : FnScope ["thing", "kinds", "kind", "part"] ["thing"] (defScope s_is_fold_deed) := ⟨rfl, rfl, rfl, by decide +kernel, rfl, by decide +kernel, by decide +kernel⟩
abbrev s_refuse_bad_deeds : Stmt := topS 29
theorem sc_refuse_bad_deeds : FnScope ["deeds", "number", "deed"] ["deeds"] (defScope s_refuse_bad_deeds) := ⟨rfl, rfl, rfl, by decide +kernel, rfl, by decide +kernel, by decide +kernel⟩
abbrev s_moved : Stmt := topS 30
theorem sc_moved : FnScope ["line", "end", "row", "order", "told", "who", "strength", "toll", "name", "before", "same", "paid"] ["line", "end"] (defScope s_moved) := ⟨rfl, rfl, rfl, by decide +kernel, rfl, by decide +kernel, by decide +kernel⟩
abbrev s_law_dip : Stmt := topS 33
theorem sc_law_dip : FnScope ["_law_script", "_law_k", "_law_cell"] ["_law_script", "_law_k"] (defScope s_law_dip) := ⟨rfl, rfl, rfl, by decide +kernel, rfl, by decide +kernel, by decide +kernel⟩
abbrev s_law_take : Stmt := topS 34
theorem sc_law_take : FnScope ["_law_box", "_law_many", "_law_found", "_law_once", "_law_pair"] ["_law_box", "_law_many"] (defScope s_law_take) := ⟨rfl, rfl, rfl, by decide +kernel, rfl, by decide +kernel, by decide +kernel⟩
abbrev s_law_folded : Stmt := topS 35
theorem sc_law_folded : FnScope ["_law_script", "_law_many", "_law_cells", "_law_k", "_law_cell"] ["_law_script", "_law_many"] (defScope s_law_folded) := ⟨rfl, rfl, rfl, by decide +kernel, rfl, by decide +kernel, by decide +kernel⟩
abbrev s_law_same : Stmt := topS 36
theorem sc_law_same : FnScope ["_law_found", "_law_due", "_law_one", "_law_two"] ["_law_found", "_law_due"] (defScope s_law_same) := ⟨rfl, rfl, rfl, by decide +kernel, rfl, by decide +kernel, by decide +kernel⟩
abbrev s_law_of : Stmt := topS 37
theorem sc_law_of : FnScope ["_law_box", "_law_pool"] ["_law_box", "_law_pool"] (defScope s_law_of) := ⟨rfl, rfl, rfl, by decide +kernel, rfl, by decide +kernel, by decide +kernel⟩
abbrev s_law_row : Stmt := topS 38
theorem sc_law_row : FnScope ["_law_box", "_law_most", "_law_many", "_law_way", "_law_rise", "_law_high", "_law_dear", "_law_base", "_law_toll", "_law_found", "_law_place"] ["_law_box", "_law_most"] (defScope s_law_row) := ⟨rfl, rfl, rfl, by decide +kernel, rfl, by decide +kernel, by decide +kernel⟩
abbrev s_law_lets : Stmt := topS 39
theorem sc_law_lets : FnScope ["_law_row_here", "_law_place"] ["_law_row_here", "_law_place"] (defScope s_law_lets) := ⟨rfl, rfl, rfl, by decide +kernel, rfl, by decide +kernel, by decide +kernel⟩
abbrev s_law_passed : Stmt := topS 40
theorem sc_law_passed : FnScope ["_law_row_here", "_law_place", "_law_ahead", "_law_strength", "_law_toll"] ["_law_row_here", "_law_place"] (defScope s_law_passed) := ⟨rfl, rfl, rfl, by decide +kernel, rfl, by decide +kernel, by decide +kernel⟩
abbrev s_law_ended : Stmt := topS 41
theorem sc_law_ended : FnScope ["_law_box", "_law_row_here", "_law_order", "_law_pairs", "_law_place", "_law_some"] ["_law_box", "_law_row_here"] (defScope s_law_ended) := ⟨rfl, rfl, rfl, by decide +kernel, rfl, by decide +kernel, by decide +kernel⟩
abbrev s_law_right : Stmt := topS 42
theorem sc_law_right : FnScope ["_law_box", "_law_row_here", "_law_fold", "_law_own", "_law_calls", "_law_ends", "_law_order", "_law_pairs", "_law_turn", "_law_way", "_law_some", "_law_who", "_law_found", "_law_beast", "_law_ahead", "_law_spot", "_law_place", "_law_now", "_law_then", "_law_twin", "_law_turned_now", "_law_at", "_law_call", "_law_due", "_law_behind", "_law_mate"] ["_law_box"] (defScope s_law_right) := ⟨rfl, rfl, rfl, by decide +kernel, rfl, by decide +kernel, by decide +kernel⟩
abbrev s_law : Stmt := topS 43
theorem sc_law : FnScope ["_law_script", "_law_cells", "_law_k", "_law_box", "_law_turn"] ["_law_script"] (defScope s_law) := ⟨rfl, rfl, rfl, by decide +kernel, rfl, by decide +kernel, by decide +kernel⟩
abbrev s_Fold___init : Stmt := (HH.clsB (topS 31)).getD 0 (.Pass ⟨0, 0, 0, 0⟩)
theorem sc_Fold___init : FnScope ["self", "row", "name", "strength", "toll"] ["self", "row"] (defScope s_Fold___init) := ⟨rfl, rfl, rfl, by decide +kernel, rfl, by decide +kernel, by decide +kernel⟩
abbrev s_Fold___len : Stmt := (HH.clsB (topS 31)).getD 1 (.Pass ⟨0, 0, 0, 0⟩)
theorem sc_Fold___len : FnScope ["self"] ["self"] (defScope s_Fold___len) := ⟨rfl, rfl, rfl, by decide +kernel, rfl, by decide +kernel, by decide +kernel⟩
abbrev s_Fold_turn : Stmt := (HH.clsB (topS 31)).getD 3 (.Pass ⟨0, 0, 0, 0⟩)
theorem sc_Fold_turn : FnScope ["self", "line", "coming"] ["self", "line", "coming"] (defScope s_Fold_turn) := ⟨rfl, rfl, rfl, by decide +kernel, rfl, by decide +kernel, by decide +kernel⟩
abbrev s_Fold_put_at : Stmt := (HH.clsB (topS 31)).getD 4 (.Pass ⟨0, 0, 0, 0⟩)
theorem sc_Fold_put_at : FnScope ["self", "place", "parts"] ["self", "place", "parts"] (defScope s_Fold_put_at) := ⟨rfl, rfl, rfl, by decide +kernel, rfl, by decide +kernel, by decide +kernel⟩
abbrev s_Fold_move : Stmt := (HH.clsB (topS 31)).getD 5 (.Pass ⟨0, 0, 0, 0⟩)
theorem sc_Fold_move : FnScope ["self", "end"] ["self", "end"] (defScope s_Fold_move) := ⟨rfl, rfl, rfl, by decide +kernel, rfl, by decide +kernel, by decide +kernel⟩
abbrev s_Fold_place_of : Stmt := (HH.clsB (topS 31)).getD 6 (.Pass ⟨0, 0, 0, 0⟩)
theorem sc_Fold_place_of : FnScope ["self", "name", "names"] ["self", "name"] (defScope s_Fold_place_of) := ⟨rfl, rfl, rfl, by decide +kernel, rfl, by decide +kernel, by decide +kernel⟩
abbrev s_Fold_come : Stmt := (HH.clsB (topS 31)).getD 7 (.Pass ⟨0, 0, 0, 0⟩)
theorem sc_Fold_come : FnScope ["self", "strength", "toll", "place", "many", "at", "name"] ["self", "strength", "toll", "place"] (defScope s_Fold_come) := ⟨rfl, rfl, rfl, by decide +kernel, rfl, by decide +kernel, by decide +kernel⟩
abbrev s_Fold_leave : Stmt := (HH.clsB (topS 31)).getD 8 (.Pass ⟨0, 0, 0, 0⟩)
theorem sc_Fold_leave : FnScope ["self", "name"] ["self", "name"] (defScope s_Fold_leave) := ⟨rfl, rfl, rfl, by decide +kernel, rfl, by decide +kernel, by decide +kernel⟩
abbrev s_Fold_overtake : Stmt := (HH.clsB (topS 31)).getD 9 (.Pass ⟨0, 0, 0, 0⟩)
theorem sc_Fold_overtake : FnScope ["self", "name", "place", "ahead"] ["self", "name"] (defScope s_Fold_overtake) := ⟨rfl, rfl, rfl, by decide +kernel, rfl, by decide +kernel, by decide +kernel⟩
abbrev s_Fold_fall_back : Stmt := (HH.clsB (topS 31)).getD 10 (.Pass ⟨0, 0, 0, 0⟩)
theorem sc_Fold_fall_back : FnScope ["self", "name", "place", "behind"] ["self", "name"] (defScope s_Fold_fall_back) := ⟨rfl, rfl, rfl, by decide +kernel, rfl, by decide +kernel, by decide +kernel⟩
abbrev s_Fold_feed : Stmt := (HH.clsB (topS 31)).getD 11 (.Pass ⟨0, 0, 0, 0⟩)
theorem sc_Fold_feed : FnScope ["self", "name", "by", "place", "same", "strength", "toll", "paid"] ["self", "name", "by"] (defScope s_Fold_feed) := ⟨rfl, rfl, rfl, by decide +kernel, rfl, by decide +kernel, by decide +kernel⟩
abbrev s_Fold_ask : Stmt := (HH.clsB (topS 31)).getD 12 (.Pass ⟨0, 0, 0, 0⟩)
theorem sc_Fold_ask : FnScope ["self", "name", "toll", "place", "same", "strength", "before", "paid"] ["self", "name", "toll"] (defScope s_Fold_ask) := ⟨rfl, rfl, rfl, by decide +kernel, rfl, by decide +kernel, by decide +kernel⟩
abbrev s_Fold_settle : Stmt := (HH.clsB (topS 31)).getD 13 (.Pass ⟨0, 0, 0, 0⟩)
theorem sc_Fold_settle : FnScope ["self"] ["self"] (defScope s_Fold_settle) := ⟨rfl, rfl, rfl, by decide +kernel, rfl, by decide +kernel, by decide +kernel⟩
abbrev s_Fold_unsettle : Stmt := (HH.clsB (topS 31)).getD 14 (.Pass ⟨0, 0, 0, 0⟩)
theorem sc_Fold_unsettle : FnScope ["self"] ["self"] (defScope s_Fold_unsettle) := ⟨rfl, rfl, rfl, by decide +kernel, rfl, by decide +kernel, by decide +kernel⟩
abbrev s_Fold_undo : Stmt := (HH.clsB (topS 31)).getD 15 (.Pass ⟨0, 0, 0, 0⟩)
theorem sc_Fold_undo : FnScope ["self"] ["self"] (defScope s_Fold_undo) := ⟨rfl, rfl, rfl, by decide +kernel, rfl, by decide +kernel, by decide +kernel⟩
abbrev s_Fold_do_one : Stmt := (HH.clsB (topS 31)).getD 16 (.Pass ⟨0, 0, 0, 0⟩)
theorem sc_Fold_do_one : FnScope ["self", "deed", "word"] ["self", "deed"] (defScope s_Fold_do_one) := ⟨rfl, rfl, rfl, by decide +kernel, rfl, by decide +kernel, by decide +kernel⟩
abbrev s_Fold_do : Stmt := (HH.clsB (topS 31)).getD 17 (.Pass ⟨0, 0, 0, 0⟩)
theorem sc_Fold_do : FnScope ["self", "deeds", "whole", "stood", "told", "deed"] ["self", "deeds", "whole"] (defScope s_Fold_do) := ⟨rfl, rfl, rfl, by decide +kernel, rfl, by decide +kernel, by decide +kernel⟩
abbrev s_Fold_row : Stmt := (HH.clsB (topS 31)).getD 18 (.Pass ⟨0, 0, 0, 0⟩)
theorem sc_Fold_row : FnScope ["self", "name", "strength", "toll", "paid"] ["self"] (defScope s_Fold_row) := ⟨rfl, rfl, rfl, by decide +kernel, rfl, by decide +kernel, by decide +kernel⟩
abbrev s_Fold_names : Stmt := (HH.clsB (topS 31)).getD 19 (.Pass ⟨0, 0, 0, 0⟩)
theorem sc_Fold_names : FnScope ["self", "name", "strength", "toll", "paid"] ["self"] (defScope s_Fold_names) := ⟨rfl, rfl, rfl, by decide +kernel, rfl, by decide +kernel, by decide +kernel⟩
abbrev s_Fold_may_pass : Stmt := (HH.clsB (topS 31)).getD 20 (.Pass ⟨0, 0, 0, 0⟩)
theorem sc_Fold_may_pass : FnScope ["self", "row", "place", "name"] ["self"] (defScope s_Fold_may_pass) := ⟨rfl, rfl, rfl, by decide +kernel, rfl, by decide +kernel, by decide +kernel⟩
abbrev s_Fold_may_fall : Stmt := (HH.clsB (topS 31)).getD 21 (.Pass ⟨0, 0, 0, 0⟩)
theorem sc_Fold_may_fall : FnScope ["self", "row", "place", "name"] ["self"] (defScope s_Fold_may_fall) := ⟨rfl, rfl, rfl, by decide +kernel, rfl, by decide +kernel, by decide +kernel⟩
abbrev s_Fold_last_names : Stmt := (HH.clsB (topS 31)).getD 22 (.Pass ⟨0, 0, 0, 0⟩)
theorem sc_Fold_last_names : FnScope ["self", "names", "who"] ["self"] (defScope s_Fold_last_names) := ⟨rfl, rfl, rfl, by decide +kernel, rfl, by decide +kernel, by decide +kernel⟩
abbrev s_Fold_paid : Stmt := (HH.clsB (topS 31)).getD 23 (.Pass ⟨0, 0, 0, 0⟩)
theorem sc_Fold_paid : FnScope ["self", "name"] ["self", "name"] (defScope s_Fold_paid) := ⟨rfl, rfl, rfl, by decide +kernel, rfl, by decide +kernel, by decide +kernel⟩
abbrev s_Fold_deeds : Stmt := (HH.clsB (topS 31)).getD 24 (.Pass ⟨0, 0, 0, 0⟩)
theorem sc_Fold_deeds : FnScope ["self"] ["self"] (defScope s_Fold_deeds) := ⟨rfl, rfl, rfl, by decide +kernel, rfl, by decide +kernel, by decide +kernel⟩
abbrev s_Fold_twin : Stmt := (HH.clsB (topS 31)).getD 26 (.Pass ⟨0, 0, 0, 0⟩)
theorem sc_Fold_twin : FnScope ["self", "other"] ["self"] (defScope s_Fold_twin) := ⟨rfl, rfl, rfl, by decide +kernel, rfl, by decide +kernel, by decide +kernel⟩
abbrev s_ini_BadDeed : Stmt := (HH.clsB (topS 1)).getD 0 (.Pass ⟨0, 0, 0, 0⟩)
theorem sc_ini_BadDeed : FnScope ["self", "number"] ["self", "number"] (defScope s_ini_BadDeed) := ⟨rfl, rfl, rfl, by decide +kernel, rfl, by decide +kernel, by decide +kernel⟩
abbrev s_ini_NoBeast : Stmt := (HH.clsB (topS 2)).getD 0 (.Pass ⟨0, 0, 0, 0⟩)
theorem sc_ini_NoBeast : FnScope ["self", "name"] ["self", "name"] (defScope s_ini_NoBeast) := ⟨rfl, rfl, rfl, by decide +kernel, rfl, by decide +kernel, by decide +kernel⟩
abbrev s_ini_NoPlace : Stmt := (HH.clsB (topS 3)).getD 0 (.Pass ⟨0, 0, 0, 0⟩)
theorem sc_ini_NoPlace : FnScope ["self", "place"] ["self", "place"] (defScope s_ini_NoPlace) := ⟨rfl, rfl, rfl, by decide +kernel, rfl, by decide +kernel, by decide +kernel⟩
abbrev s_ini_MayNot : Stmt := (HH.clsB (topS 4)).getD 0 (.Pass ⟨0, 0, 0, 0⟩)
theorem sc_ini_MayNot : FnScope ["self", "place"] ["self", "place"] (defScope s_ini_MayNot) := ⟨rfl, rfl, rfl, by decide +kernel, rfl, by decide +kernel, by decide +kernel⟩
abbrev s_ini_NotLet : Stmt := (HH.clsB (topS 5)).getD 0 (.Pass ⟨0, 0, 0, 0⟩)
theorem sc_ini_NotLet : FnScope ["self", "number"] ["self", "number"] (defScope s_ini_NotLet) := ⟨rfl, rfl, rfl, by decide +kernel, rfl, by decide +kernel, by decide +kernel⟩
abbrev s_ini_Full : Stmt := (HH.clsB (topS 6)).getD 0 (.Pass ⟨0, 0, 0, 0⟩)
theorem sc_ini_Full : FnScope ["self", "many"] ["self", "many"] (defScope s_ini_Full) := ⟨rfl, rfl, rfl, by decide +kernel, rfl, by decide +kernel, by decide +kernel⟩
end K77
set_option maxHeartbeats 4000000
namespace K77
open PySem PySem.Spec PyProof.Rows L2 Evl HH RZ
section
variable {P : Program} {w : World} {K : PySem.W.Frag} {mg : Str → Option Value} {base : Heap}
theorem ok_ini_NotLet {C f : Addr} {fd : FuncData} (F : FunD K "__init__" "NotLet.__init__" (defArgs s_ini_NotLet) (defBody s_ini_NotLet) (defScope s_ini_NotLet) [] [] f fd) (T : ExcTy K .run "number" C f) (g : mg "NotLet" = some (.ref C)) (b : Binds K fd ["self", "number"] []) (m_RuntimeError : mg "RuntimeError" = none) : HasE P w K mg base .run "NotLet" "number" C f fd := by
  refine ⟨T, F.ok sc_ini_NotLet (fun vs H Q E h => ?_) (fun cdv A outer s H vs Q E hr h => ?_), b, g⟩
  · obtain ⟨a, v, rfl, _⟩ := h
    rfl
  · obtain ⟨a, v, rfl, ha, q⟩ := h
    refine ⟨_, PSs.nox (pss_cons (ps_expr (pe_bini (b := .run) (by rfl) m_RuntimeError T.bi (pa_cons (pv 0) (pa_cons pe_str pa_nil)) (by decide) (by decide) (by decide +kernel))) (pss_one (ps_xs (pv 0) (pv 1)))), ?_⟩
    refine ⟨.ref a, rfl, a, C, _, rfl, by show 1 ≤ 1000; decide, T.ok, ha, ?_⟩
    exact ⟨v, rfl, .ref a, rfl, a, C, f, .run, rfl, T, ha, fun dx n ne => q dx n ne⟩
theorem ok_can_pass {f : Addr} {fd : FuncData} (F : FnP K "can_pass" s_can_pass f fd) (g : mg "can_pass" = some (.ref f)) (b : Binds K fd ["row", "place"] []) (m_len : mg "len" = none) : Has P w K mg base 1 "can_pass" ["row", "place"] (spCanPassZ K) f fd := by
  refine ⟨F.ok sc_can_pass (fun vs H Q E h => ?_) (fun cdv A outer s H vs Q E hr h => ?_), g, F.kp, b⟩
  · obtain ⟨v, rs, p, rfl, _⟩ := h
    rfl
  · obtain ⟨v, rs, p, rfl, hv, q⟩ := h
    refine ⟨_, PSs.nox (pss_cons (ps_if (PW.pt (pw_or (pt_cmpR op_lt (pv 1) pe_int (nomark _)) (pw_or1 (pt_cmpR op_ge (pv 1) (pe_callB call_len_seq (by rfl) m_len PySem.boot_len (pa_cons (pv 0) pa_nil)) (nomark _))))) (pss_one (ps_ret pe_bl)) pss_nil)
      (pss_cons (ps_asg (pe_ix ix_tup (pv 0) (pe_op op_sub (pv 1) pe_int) (fun _ _ => rfl)) (pg_tup rfl (pgs_cons (pg_name (i := 2) sc_can_pass.nd rfl (Or.inl rfl)) (pgs_cons (pg_name (i := 3) sc_can_pass.nd rfl (Or.inl rfl)) pgs_nil))))
      (pss_one (ps_ret (pe_cmpR op_gt (pe_op op_sub (pe_ix ix_tup (pe_ix ix_tup (pv 0) (pv 1) (fun _ _ => rfl)) pe_int (fun _ _ => rfl)) (pv 3)) (pv 2) (nomark _)))))), ?_⟩
    refine q_when (b := decide (p < 1) || decide (p ≥ (rs.length : Int))) (et_or (et_B (ev_op (ev_var rfl) ev_c rv_I0)) fun _ => et_B (ev_op (ev_var rfl) (ev_lenR (ev_var rfl) hv) rv_I0)) (fun hb H1 e1 => ?_) (fun hb H1 e1 => ?_)
    · refine s_ret ev_c fun H2 e2 => ?_
      have e : letsZ rs p = false := by
        unfold letsZ
        rw [decide_eq_false, Bool.false_and]
        rcases (Bool.or_eq_true _ _).mp hb with h | h
        · have := of_decide_eq_true h
          omega
        · have := of_decide_eq_true h
          omega
      rw [e] at q
      exact q H2 (e1.trans e2)
    · obtain ⟨h1, h2⟩ := Bool.or_eq_false_iff.mp hb
      have h1 := of_decide_eq_false h1
      have h2 := of_decide_eq_false h2
      obtain ⟨j, rfl⟩ := Int.eq_ofNat_of_zero_le (show 0 ≤ p by omega)
      have hj0 : 0 < j := by omega
      have hj : j < rs.length := by omega
      obtain ⟨a, h1, h2⟩ := ev_beast (te := tVar 0) (ti := tOp (rI0 fun i j => .int (i - j)) (tVar 1) (tC (.int 1))) (σ := start ["row", "place", "strength", "toll"] [v, .int (j : Int)]) (ev_var rfl) (hv.ex e1) (ev_op (ev_var rfl) ev_c rv_I0) (show (j : Int) - 1 = ((j - 1 : Nat) : Int) by omega) (row_get (i := j - 1) (by omega))
      refine q_asgT2 h1 h2 fun H2 e2 => ?_
      refine s_ret (ev_op (ev_op (ev_str (ev_var rfl) (hv.ex (e1.trans e2)) (ev_var rfl) rfl (row_get hj)) (ev_var rfl) rv_I0) (ev_var rfl) rv_I0) fun H3 e3 => ?_
      have e : letsZ rs (j : Int) = decide (sS rs j - tS rs (j - 1) > sS rs (j - 1)) := by
        rw [letsZ_nat hj]
        unfold letsN
        rw [decide_eq_true hj0, Bool.true_and]
      rw [e] at q
      exact q H3 ((e1.trans e2).trans e3)
theorem ok_can_fall {f : Addr} {fd : FuncData} (F : FnP K "can_fall" s_can_fall f fd) (g : mg "can_fall" = some (.ref f)) (b : Binds K fd ["row", "place"] []) (m_len : mg "len" = none) : Has P w K mg base 1 "can_fall" ["row", "place"] (spCanFallZ K) f fd := by
  refine ⟨F.ok sc_can_fall (fun vs H Q E h => ?_) (fun cdv A outer s H vs Q E hr h => ?_), g, F.kp, b⟩
  · obtain ⟨v, rs, p, rfl, _⟩ := h
    rfl
  · obtain ⟨v, rs, p, rfl, hv, q⟩ := h
    refine ⟨_, PSs.nox (pss_cons (ps_if (PW.pt (pw_or (pt_cmpR op_lt (pv 1) pe_int (nomark _)) (pw_or1 (pt_cmpR op_ge (pe_op op_add (pv 1) pe_int) (pe_callB call_len_seq (by rfl) m_len PySem.boot_len (pa_cons (pv 0) pa_nil)) (nomark _))))) (pss_one (ps_ret pe_bl)) pss_nil)
      (pss_one (ps_ret (pe_cmpR op_gt (pe_ix ix_tup (pe_ix ix_tup (pv 0) (pv 1) (fun _ _ => rfl)) pe_int (fun _ _ => rfl)) (pe_ix ix_tup (pe_ix ix_tup (pv 0) (pe_op op_add (pv 1) pe_int) (fun _ _ => rfl)) pe_int (fun _ _ => rfl)) (nomark _))))), ?_⟩
    refine q_when (b := decide (p < 0) || decide (p + 1 ≥ (rs.length : Int))) (et_or (et_B (ev_op (ev_var rfl) ev_c rv_I0)) fun _ => et_B (ev_op (ev_op (ev_var rfl) ev_c rv_I0) (ev_lenR (ev_var rfl) hv) rv_I0)) (fun hb H1 e1 => ?_) (fun hb H1 e1 => ?_)
    · refine s_ret ev_c fun H2 e2 => ?_
      have e : fallsZ rs p = false := by
        unfold fallsZ
        rw [decide_eq_false, Bool.false_and]
        rcases (Bool.or_eq_true _ _).mp hb with h | h
        · have := of_decide_eq_true h
          omega
        · have := of_decide_eq_true h
          omega
      rw [e] at q
      exact q H2 (e1.trans e2)
    · obtain ⟨h1, h2⟩ := Bool.or_eq_false_iff.mp hb
      have h1 := of_decide_eq_false h1
      have h2 := of_decide_eq_false h2
      obtain ⟨j, rfl⟩ := Int.eq_ofNat_of_zero_le (show 0 ≤ p by omega)
      have hj : j + 1 < rs.length := by omega
      refine s_ret (ev_op (ev_str (ev_var rfl) (hv.ex e1) (ev_var rfl) rfl (row_get (by omega))) (ev_str (ev_var rfl) (hv.ex e1) (ev_op (ev_var rfl) ev_c rv_I0) (show (j : Int) + 1 = ((j + 1 : Nat) : Int) by omega) (row_get hj)) rv_I0) fun H3 e3 => ?_
      rw [fallsZ_nat, decide_eq_true hj, Bool.true_and] at q
      exact q H3 (e1.trans e3)
theorem ok_passed {f f1 C1 f2 : Addr} {fd fd1 fd2 : FuncData} (F : FnP K "passed" s_passed f fd) (g : mg "passed" = some (.ref f)) (b : Binds K fd ["row", "place"] []) (x_MayNot : HasE P w K mg base .run "MayNot" "place" C1 f2 fd2) (h_can_pass : Has P w K mg base 1 "can_pass" ["row", "place"] (spCanPassZ K) f1 fd1) : HasX P w K mg base 3 "passed" ["row", "place"] (spDoX K letsZ passR C1) f fd := by
  refine ⟨F.ok sc_passed (fun vs H Q E h => ?_) (fun cdv A outer s H vs Q E hr h => ?_), g, F.kp, b⟩
  · obtain ⟨v, rs, p, rfl, _⟩ := h
    rfl
  · obtain ⟨v, rs, p, rfl, hv, hl, q, qx⟩ := h
    refine ⟨_, (pss_cons (ps_if (pt_not (pt_val (pe_call h_can_pass.G (hr.mono (by decide)) (by rfl) h_can_pass.g h_can_pass.kp h_can_pass.b .nil pass0 (pa_cons (pv 0) (pa_cons (pv 1) pa_nil))))) (pss_one (ps_raise rfl (takes_of rfl rfl rfl rfl) (pmk_x x_MayNot.T x_MayNot.F (hr.mono (by decide)) x_MayNot.b x_MayNot.g (by rfl) (pa_cons (pv 1) pa_nil)))) pss_nil)
      (pss_cons (ps_set (i := 2) sc_passed.nd rfl (.inl rfl) (pe_ix ix_tup (pv 0) (pe_op op_sub (pv 1) pe_int) (fun _ _ => rfl)))
      (pss_cons (ps_asg (pe_ix ix_tup (pv 0) (pv 1) (fun _ _ => rfl)) (pg_tup rfl (pgs_cons (pg_name (i := 3) sc_passed.nd rfl (Or.inl rfl)) (pgs_cons (pg_name (i := 4) sc_passed.nd rfl (Or.inl rfl)) pgs_nil))))
      (pss_one (ps_ret (pe_op op_catA (pe_op op_catA (pe_slice sl_tupA (pv 0) po_none (po_some (pe_op op_sub (pv 1) pe_int))) (pe_tup (pa_cons (pe_tup (pa_cons (pe_op op_sub (pv 3) (pe_ix ix_tup (pv 2) pe_int (fun _ _ => rfl))) (pa_cons (pv 4) pa_nil))) (pa_cons (pv 2) pa_nil)))) (pe_slice sl_tupA (pv 0) (po_some (pe_op op_add (pv 1) pe_int)) po_none))))))), ?_⟩
    refine q_when (b := !letsZ rs p) (et_not (et_B (ev_call (ea_cons (ev_var rfl) (ea_cons (ev_var rfl) ea_nil)) (sv_canZ hv)))) (fun z H1 e1 => ?_) fun z H1 e1 => ?_
    · refine ⟨.int p, rfl, .int p, rfl, fun d hd => ?_⟩
      exact qx (by simpa using z) d H1 e1 hd
    · have zt : letsZ rs p = true := by simpa using z
      obtain ⟨j, rfl, h0, hp, hlt⟩ := letsZ_at zt
      have q := q zt
      rw [Int.toNat_natCast] at q
      have hv1 := hv.ex e1
      have hp1 : (j : Int) - 1 = ((j - 1 : Nat) : Int) := by omega
      obtain ⟨a, ha1, ha2⟩ := ev_beast (K := K) (te := tVar 0) (ti := tOp (rI0 fun i j => .int (i - j)) (tVar 1) (tC (.int 1))) (σ := [some v, some (.int (j : Int)), none, none, none]) (ev_var rfl) hv1 (ev_op (ev_var rfl) ev_c rv_I0) hp1 (row_get (show j - 1 < rs.length by omega))
      refine q_asg ha1 fun H2 e2 => ?_
      have hv2 := hv1.ex e2
      obtain ⟨c, hc1, hc2⟩ := ev_beast (K := K) (te := tVar 0) (ti := tVar 1) (σ := [some v, some (.int (j : Int)), some (.ref a), none, none]) (ev_var rfl) hv2 (ev_var rfl) rfl (row_get hp)
      refine q_asgT2 hc1 hc2 fun H3 e3 => ?_
      have hv3 := hv2.ex e3
      have hb3 : BeastAt K H3 (.ref a) (sS rs (j - 1), tS rs (j - 1)) := ⟨a, rfl, ex_t (e2.trans e3) ha2⟩
      refine s_retR (rs := passR rs j) (er_cat (er_cat (er_to (er_val (ev_var rfl) hv3) (ev_op (ev_var rfl) ev_c rv_I0) hp1) (er_two (eb_tup (ev_op (ev_var rfl) (ev_op (ev_var rfl) ev_c (rv_ixT (K := K) (ex_t (e2.trans e3) ha2) rfl)) rv_I0) (ev_var rfl)) (eb_val (ev_var rfl) hb3)) ?_) (er_from (er_val (ev_var rfl) hv3) (ev_op (ev_var rfl) ev_c rv_I0) (show (j : Int) + 1 = ((j + 1 : Nat) : Int) by omega)) ?_) fun v' H4 e4 h4 => q v' H4 (((e1.trans e2).trans e3).trans e4) h4
      · rw [List.length_take]
        show min (j - 1) rs.length + 2 ≤ 100000
        omega
      · rw [List.length_append, List.length_take, List.length_drop]
        show min (j - 1) rs.length + 2 + (rs.length - (j + 1)) ≤ 100000
        omega
theorem ok_fallen {f f1 C1 f2 : Addr} {fd fd1 fd2 : FuncData} (F : FnP K "fallen" s_fallen f fd) (g : mg "fallen" = some (.ref f)) (b : Binds K fd ["row", "place"] []) (x_MayNot : HasE P w K mg base .run "MayNot" "place" C1 f2 fd2) (h_can_fall : Has P w K mg base 1 "can_fall" ["row", "place"] (spCanFallZ K) f1 fd1) : HasX P w K mg base 3 "fallen" ["row", "place"] (spDoX K fallsZ fallR C1) f fd := by
  refine ⟨F.ok sc_fallen (fun vs H Q E h => ?_) (fun cdv A outer s H vs Q E hr h => ?_), g, F.kp, b⟩
  · obtain ⟨v, rs, p, rfl, _⟩ := h
    rfl
  · obtain ⟨v, rs, p, rfl, hv, hl, q, qx⟩ := h
    refine ⟨_, (pss_cons (ps_if (pt_not (pt_val (pe_call h_can_fall.G (hr.mono (by decide)) (by rfl) h_can_fall.g h_can_fall.kp h_can_fall.b .nil pass0 (pa_cons (pv 0) (pa_cons (pv 1) pa_nil))))) (pss_one (ps_raise rfl (takes_of rfl rfl rfl rfl) (pmk_x x_MayNot.T x_MayNot.F (hr.mono (by decide)) x_MayNot.b x_MayNot.g (by rfl) (pa_cons (pv 1) pa_nil)))) pss_nil)
      (pss_cons (ps_asg (pe_ix ix_tup (pv 0) (pv 1) (fun _ _ => rfl)) (pg_tup rfl (pgs_cons (pg_name (i := 2) sc_fallen.nd rfl (Or.inl rfl)) (pgs_cons (pg_name (i := 3) sc_fallen.nd rfl (Or.inl rfl)) pgs_nil))))
      (pss_cons (ps_set (i := 4) sc_fallen.nd rfl (.inl rfl) (pe_ix ix_tup (pv 0) (pe_op op_add (pv 1) pe_int) (fun _ _ => rfl)))
      (pss_one (ps_ret (pe_op op_catA (pe_op op_catA (pe_slice sl_tupA (pv 0) po_none (po_some (pv 1))) (pe_tup (pa_cons (pv 4) (pa_cons (pe_tup (pa_cons (pe_op op_add (pv 2) (pe_ix ix_tup (pv 4) pe_int (fun _ _ => rfl))) (pa_cons (pv 3) pa_nil))) pa_nil)))) (pe_slice sl_tupA (pv 0) (po_some (pe_op op_add (pv 1) pe_int)) po_none))))))), ?_⟩
    refine q_when (b := !fallsZ rs p) (et_not (et_B (ev_call (ea_cons (ev_var rfl) (ea_cons (ev_var rfl) ea_nil)) (sv_canFZ hv)))) (fun z H1 e1 => ?_) fun z H1 e1 => ?_
    · refine ⟨.int p, rfl, .int p, rfl, fun d hd => ?_⟩
      exact qx (by simpa using z) d H1 e1 hd
    · have zt : fallsZ rs p = true := by simpa using z
      obtain ⟨p, rfl, hp, hlt⟩ := fallsZ_at zt
      have q := q zt
      rw [Int.toNat_natCast] at q
      have hv1 := hv.ex e1
      obtain ⟨c, hc1, hc2⟩ := ev_beast (K := K) (te := tVar 0) (ti := tVar 1) (σ := [some v, some (.int (p : Int)), none, none, none]) (ev_var rfl) hv1 (ev_var rfl) rfl (row_get (show p < rs.length by omega))
      refine q_asgT2 hc1 hc2 fun H2 e2 => ?_
      have hv2 := hv1.ex e2
      have hp1 : (p : Int) + 1 = ((p + 1 : Nat) : Int) := by omega
      obtain ⟨a, ha1, ha2⟩ := ev_beast (K := K) (te := tVar 0) (ti := tOp (rI0 fun i j => .int (i + j)) (tVar 1) (tC (.int 1))) (σ := [some v, some (.int (p : Int)), some (.int (sS rs p)), some (.int (tS rs p)), none]) (ev_var rfl) hv2 (ev_op (ev_var rfl) ev_c rv_I0) hp1 (row_get hp)
      refine q_asg ha1 fun H3 e3 => ?_
      have hv3 := hv2.ex e3
      have hb3 : BeastAt K H3 (.ref a) (sS rs (p + 1), tS rs (p + 1)) := ⟨a, rfl, ex_t e3 ha2⟩
      refine s_retR (rs := fallR rs p) (er_cat (er_cat (er_to (er_val (ev_var rfl) hv3) (ev_var rfl) rfl) (er_two (eb_val (ev_var rfl) hb3) (eb_tup (ev_op (ev_var rfl) (ev_op (ev_var rfl) ev_c (rv_ixT (K := K) (ex_t e3 ha2) rfl)) rv_I0) (ev_var rfl))) ?_) (er_from (er_val (ev_var rfl) hv3) (ev_op (ev_var rfl) ev_c rv_I0) (show (p : Int) + 2 = ((p + 2 : Nat) : Int) by omega)) ?_) fun v' H4 e4 h4 => q v' H4 (((e1.trans e2).trans e3).trans e4) h4
      · rw [List.length_take]
        show min p rs.length + 2 ≤ 100000
        omega
      · rw [List.length_append, List.length_take, List.length_drop]
        show min p rs.length + 2 + (rs.length - (p + 2)) ≤ 100000
        omega
theorem ok_swapped {f : Addr} {fd : FuncData} (F : FnP K "swapped" s_swapped f fd) (g : mg "swapped" = some (.ref f)) (b : Binds K fd ["order", "place"] []) : Has P w K mg base 1 "swapped" ["order", "place"] (spSwapO K) f fd := by
  refine ⟨F.ok sc_swapped (fun vs H Q E h => ?_) (fun cdv A outer s H vs Q E hr h => ?_), g, F.kp, b⟩
  · obtain ⟨o, l, p, rfl, _⟩ := h
    rfl
  · obtain ⟨o, l, p, rfl, ho, hp, hl, q⟩ := h
    refine ⟨_, PSs.nox (pss_one (ps_ret (pe_op op_catA (pe_op op_catA (pe_slice sl_tupA (pv 0) po_none (po_some (pv 1))) (pe_tup (pa_cons (pe_ix ix_tup (pv 0) (pe_op op_add (pv 1) pe_int) (fun _ _ => rfl)) (pa_cons (pe_ix ix_tup (pv 0) (pv 1) (fun _ _ => rfl)) pa_nil)))) (pe_slice sl_tupA (pv 0) (po_some (pe_op op_add (pv 1) pe_int)) po_none)))), ?_⟩
    have hp1 : (p : Int) + 1 = ((p + 1 : Nat) : Int) := by omega
    have at1 : atI (natsV l) ((p : Int) + 1) = some (.int (HH.ixN l (p + 1) : Int)) := by
      rw [hp1]
      exact atI_nat (natsV_at (ixN_at hp))
    have at0 : atI (natsV l) (p : Int) = some (.int (HH.ixN l p : Int)) := atI_nat (natsV_at (ixN_at (by omega)))
    have key : EvTp K (tOp (rCatA K) (tOp (rCatA K) (tSl (rSlA K) (tVar 0) tNoPart (tPart (tVar 1))) (tTup (tCons (tOp (rIxT K) (tVar 0) (tOp (rI0 fun i j => .int (i + j)) (tVar 1) (tC (.int 1)))) (tCons (tOp (rIxT K) (tVar 0) (tVar 1)) tNil)))) (tSl (rSlA K) (tVar 0) (tPart (tOp (rI0 fun i j => .int (i + j)) (tVar 1) (tC (.int 2)))) tNoPart)) [some (.ref o), some (.int (p : Int))] H ((natsV l).take p ++ [.int (HH.ixN l (p + 1) : Int), .int (HH.ixN l p : Int)] ++ (natsV l).drop (p + 2)) := by
      refine ep_cat (ep_cat (ep_to (ep_val (ev_var rfl) ho) (ev_var rfl) rfl) (ep_two (ev_op (ev_var rfl) (ev_op (ev_var rfl) ev_c rv_I0) (rv_ixT (K := K) ho at1)) (ev_op (ev_var rfl) (ev_var rfl) (rv_ixT (K := K) ho at0))) ?_) (ep_from (ep_val (ev_var rfl) ho) (ev_op (ev_var rfl) ev_c rv_I0) (show (p : Int) + 2 = ((p + 2 : Nat) : Int) by omega)) ?_
      · rw [List.length_take, natsV_len]
        show min p l.length + 2 ≤ 100000
        omega
      · rw [List.length_append, List.length_take, List.length_drop, natsV_len]
        show min p l.length + 2 + (l.length - (p + 2)) ≤ 100000
        omega
    refine key H (Ex.refl H) _ fun t H1 e1 h1 => q t H1 e1 ?_
    have e0 : natsV (swapL l p) = (natsV l).take p ++ [.int (HH.ixN l (p + 1) : Int), .int (HH.ixN l p : Int)] ++ (natsV l).drop (p + 2) := by
      unfold natsV swapL
      rw [List.map_append, List.map_append, List.map_take, List.map_drop]
      rfl
    rw [e0]
    exact h1
theorem ok_can_do {f f1 f2 : Addr} {fd fd1 fd2 : FuncData} (F : FnP K "can_do" s_can_do f fd) (g : mg "can_do" = some (.ref f)) (b : Binds K fd ["row", "word", "place"] []) (h_can_pass : Has P w K mg base 1 "can_pass" ["row", "place"] (spCanPassZ K) f1 fd1) (h_can_fall : Has P w K mg base 1 "can_fall" ["row", "place"] (spCanFallZ K) f2 fd2) : Has P w K mg base 2 "can_do" ["row", "word", "place"] (spCanDoZ K) f fd := by
  refine ⟨F.ok sc_can_do (fun vs H Q E h => ?_) (fun cdv A outer s H vs Q E hr h => ?_), g, F.kp, b⟩
  · obtain ⟨v, rs, d, rfl, _⟩ := h
    rfl
  · obtain ⟨v, rs, ⟨w', p⟩, rfl, hv, q⟩ := h
    refine ⟨_, PSs.nox (pss_cons (ps_if (pt_cmpR op_eq (pv 1) pe_str (nomark _)) (pss_one (ps_ret (pe_call h_can_pass.G (hr.mono (by decide)) (by rfl) h_can_pass.g h_can_pass.kp h_can_pass.b .nil pass0 (pa_cons (pv 0) (pa_cons (pv 2) pa_nil))))) pss_nil)
      (pss_one (ps_ret (pe_and (pe_cmpR op_eq (pv 1) pe_str (nomark _)) (pe_one (pe_call h_can_fall.G (hr.mono (by decide)) (by rfl) h_can_fall.g h_can_fall.kp h_can_fall.b .nil pass0 (pa_cons (pv 0) (pa_cons (pv 2) pa_nil)))))))), ?_⟩
    cases w' with
    | true =>
      refine q_when (b := true) (et_is (et_test (ev_op (ev_var rfl) ev_c (rv_eq rfl))) word_pass) (fun _ H1 e1 => ?_) (fun z => by cases z)
      exact s_ret (ev_call (ea_cons (ev_var rfl) (ea_cons (ev_var rfl) ea_nil)) (sv_canZ (hv.ex e1))) fun H2 e2 => q H2 (e1.trans e2)
    | false =>
      refine q_when (b := false) (et_is (et_test (ev_op (ev_var rfl) ev_c (rv_eq rfl))) word_no) (fun z => by cases z) fun _ H1 e1 => ?_
      exact s_ret (ev_is (ev_andV (a := true) (ev_is (ev_op (ev_var rfl) ev_c (rv_eq rfl)) (by rw [word_fall])) fun _ => ev_call (ea_cons (ev_var rfl) (ea_cons (ev_var rfl) ea_nil)) (sv_canFZ (hv.ex e1))) (by rw [Bool.true_and]; rfl)) fun H2 e2 => q H2 (e1.trans e2)
theorem ok_led {f f1 f2 f3 f4 C1 C2 f5 : Addr} {fd fd1 fd2 fd3 fd4 fd5 : FuncData} (F : FnP K "led" s_led f fd) (g : mg "led" = some (.ref f)) (b : Binds K fd ["row", "deeds"] []) (x_NotLet : HasE P w K mg base .run "NotLet" "number" C2 f5 fd5) (h_can_do : Has P w K mg base 2 "can_do" ["row", "word", "place"] (spCanDoZ K) f1 fd1) (h_passed : HasX P w K mg base 3 "passed" ["row", "place"] (spDoX K letsZ passR C1) f2 fd2) (h_fallen : HasX P w K mg base 3 "fallen" ["row", "place"] (spDoX K fallsZ fallR C1) f3 fd3) (h_swapped : Has P w K mg base 1 "swapped" ["order", "place"] (spSwapO K) f4 fd4)
    (m_tuple : mg "tuple" = none) (m_range : mg "range" = none) (m_len : mg "len" = none) (m_enumerate : mg "enumerate" = none) : HasX P w K mg base 4 "led" ["row", "deeds"] (spLedX K C2) f fd := by
  refine ⟨F.ok sc_led (fun vs H Q E h => ?_) (fun cdv A outer s H vs Q E hr h => ?_), g, F.kp, b⟩
  · obtain ⟨v, rs, c, us, ds, rfl, _⟩ := h
    rfl
  · obtain ⟨v, rs, c, us, ds, rfl, hv, hl, hc, hds, hdl, q, qx⟩ := h
    refine ⟨_, (pss_cons (ps_set (i := 2) sc_led.nd rfl (.inl rfl) (pv 0))
      (pss_cons (ps_set (i := 3) sc_led.nd rfl (.inl rfl) (pe_tupRg rfl (by rfl) m_tuple (prg_1 (by rfl) m_range (pe_callB call_len_seq (by rfl) m_len PySem.boot_len (pa_cons (pv 0) pa_nil)))))
      (pss_cons (ps_for (passes_of rfl) rfl (pi_enumA (by rfl) m_enumerate (pa_cons (pv 1) pa_nil)) (pg_tup rfl (pgs_cons (pg_name (i := 4) sc_led.nd rfl (Or.inl rfl)) (pgs_cons (pg_tup rfl (pgs_cons (pg_name (i := 5) sc_led.nd rfl (Or.inl rfl)) (pgs_cons (pg_name (i := 6) sc_led.nd rfl (Or.inl rfl)) pgs_nil))) pgs_nil)))
        (pss_cons (ps_if (pt_not (pt_val (pe_call h_can_do.G (hr.mono (by decide)) (by rfl) h_can_do.g h_can_do.kp h_can_do.b .nil pass0 (pa_cons (pv 2) (pa_cons (pv 5) (pa_cons (pv 6) pa_nil)))))) (pss_one (ps_raise rfl (takes_of rfl rfl rfl rfl) (pmk_x x_NotLet.T x_NotLet.F (hr.mono (by decide)) x_NotLet.b x_NotLet.g (by rfl) (pa_cons (pv 4) pa_nil)))) pss_nil)
      (pss_one (ps_if (pt_cmpR op_eq (pv 5) pe_str (nomark _)) (pss_cons (ps_set (i := 2) sc_led.nd rfl (.inl rfl) (pe_callS h_passed.G (hr.mono (by decide)) (by rfl) h_passed.g h_passed.kp h_passed.b (fun σ => passAt (takes_of rfl rfl rfl rfl) σ) (pa_cons (pv 2) (pa_cons (pv 6) pa_nil))))
      (pss_one (ps_set (i := 3) sc_led.nd rfl (.inl rfl) (pe_call h_swapped.G (hr.mono (by decide)) (by rfl) h_swapped.g h_swapped.kp h_swapped.b .nil pass0 (pa_cons (pv 3) (pa_cons (pe_op op_sub (pv 6) pe_int) pa_nil)))))) (pss_cons (ps_set (i := 2) sc_led.nd rfl (.inl rfl) (pe_callS h_fallen.G (hr.mono (by decide)) (by rfl) h_fallen.g h_fallen.kp h_fallen.b (fun σ => passAt (takes_of rfl rfl rfl rfl) σ) (pa_cons (pv 2) (pa_cons (pv 6) pa_nil))))
      (pss_one (ps_set (i := 3) sc_led.nd rfl (.inl rfl) (pe_call h_swapped.G (hr.mono (by decide)) (by rfl) h_swapped.g h_swapped.kp h_swapped.b .nil pass0 (pa_cons (pv 3) (pa_cons (pv 6) pa_nil))))))))))
      (pss_one (ps_ret (pe_tup (pa_cons (pv 2) (pa_cons (pv 3) pa_nil)))))))), ?_⟩
    refine q_asg (ev_var rfl) fun H1 e1 => ?_
    obtain ⟨a5, vs5, rfl, ta5, bs5⟩ := hv.ex e1
    refine ⟨.ref a5, rfl, a5, vs5, rfl, .inr ta5, _, rfl, RgOk.of_le (by decide) (by rw [bs5.1]; omega) (by decide) (by omega), fun rt hrt => ?_⟩
    have erg : rgV 0 (vs5.length : Int) = natsV (List.range rs.length) := by
      rw [bs5.1, ord_tag, ordL_nats, tag_ids]
    rw [erg]
    have n2 := Ex.new (o := .tup (natsV (List.range rs.length))) hrt
    have hot : SqT K (upd H1 rt (.tup (natsV (List.range rs.length)))) rt (natsV (List.range rs.length)) := st_of upd_same
    have e2 := e1.trans n2
    generalize upd H1 rt (.tup (natsV (List.range rs.length))) = H2 at e2 hot ⊢
    have hv2 := hv.ex e2
    refine q_enumA (K := K) (a := c) (xs := us) (ev_var rfl) (Ex.refl H2) (hc.ex e2) (fun i σ' H' => Ex H2 H' ∧ ∃ (v' : V) (t : Addr) (s : StZ) (y4 y5 y6 : Option V), σ' = [some (.ref a5), some (.ref c), some v', some (.ref t), y4, y5, y6] ∧ ledK (rs, List.range rs.length) ds 0 = ledK s (ds.drop i) i ∧ s.1.length = rs.length ∧ s.2.length = rs.length ∧ RowAt K H' v' s.1 ∧ SqT K H' t (natsV s.2)) (fun H3 e3 => ⟨e3, _, _, (rs, List.range rs.length), _, _, _, rfl, rfl, rfl, List.length_range, hv2.ex e3, ex_t e3 hot⟩) (fun i σ' H' _ hW => hW.1) (fun i x σ' H' T hx hW hT => ?_) (fun σ' H' hW => ?_)
    · obtain ⟨x3, v', t, s, y4, y5, y6, rfl, hk, l1, l2, hr3, ho3⟩ := hW
      obtain ⟨d, hd, hdz⟩ := All2.get (hds.ex' (e2.trans x3)) hx
      obtain ⟨dp, rfl, hdp⟩ := hdz
      have hstep := led_drop hk hd
      have nT := Ex.new (o := .tup [V.int (i : Nat), .ref dp]) hT
      refine ⟨T, _, rfl, st_of upd_same, rfl, _, _, rfl, _, _, rfl, ⟨dp, _, rfl, ex_t nT hdp, rfl, _, _, rfl, _, _, rfl, rfl, rfl, ?_⟩⟩
      have x4 := x3.trans nT
      have hr4 := hr3.ex nT
      have ho4 := ex_t nT ho3
      generalize upd H' T (.tup [V.int (i : Nat), .ref dp]) = H4 at x4 hr4 ho4 ⊢
      refine q_when (b := !canZ s.1 d) (et_not (et_B (ev_call (z := .bl (canZ s.1 d)) (ea_cons (ev_var rfl) (ea_cons (ev_var rfl) (ea_cons (ev_var rfl) ea_nil))) (fun H5 e5 Q5 q5 E5 => ⟨_, s.1, d, rfl, hr4.ex e5, q5⟩)))) (fun z H5 e5 => ?_) fun z H5 e5 => ?_
      · have hc0 : canZ s.1 d = false := by simpa using z
        rw [if_neg (by rw [hc0]; decide)] at hstep
        refine ⟨.int (i : Int), rfl, .int (i : Int), rfl, fun d hd => ?_⟩
        exact qx i hstep d H5 ((e2.trans x4).trans e5) hd
      · have hc1 : canZ s.1 d = true := by simpa using z
        rw [if_pos hc1] at hstep
        obtain ⟨ml, al⟩ := mov_len hc1
        have hr5 := hr4.ex e5
        have ho5 := ex_t e5 ho4
        have x5 := x4.trans e5
        rcases canZ_at hc1 with ⟨d1, j, d2, j0, jl, jm⟩ | ⟨d1, j, d2, jl, jm⟩
        · have em : movZ s.1 d = passR s.1 j := by unfold movZ; rw [d1, d2, if_pos rfl, Int.toNat_natCast]
          have ea : atZ d = j - 1 := by unfold atZ; rw [d1, d2, if_pos rfl, Int.toNat_natCast]
          have cz : letsZ s.1 (j : Int) = true := by
            have := hc1
            unfold canZ at this
            rw [d1, d2, if_pos rfl] at this
            exact this
          rw [d1, d2]
          refine s_if (b := true) (et_is (et_test (ev_op (ev_var rfl) ev_c (rv_eq rfl))) word_pass) (fun _ H6 e6 => ?_) (fun z => by cases z)
          refine ⟨v', rfl, .int (j : Int), rfl, v', s.1, (j : Int), rfl, hr5.ex e6, by omega, fun _ v2 H7 e7 hv7 => ?_, fun z => by rw [cz] at z; cases z⟩
          rw [Int.toNat_natCast] at hv7
          refine ⟨.ref t, rfl, (ev_is (ev_op (ev_var rfl) ev_c rv_I0) (show V.int ((j : Int) - 1) = V.int ((j - 1 : Nat) : Int) by congr 1; omega) : Ev (tOp (rI0 fun i j => .int (i - j)) (tVar 6) (tC (.int 1))) _ H7 (.int ((j - 1 : Nat) : Int))) H7 (Ex.refl H7) _ fun H8 e8 => ⟨t, s.2, j - 1, rfl, ex_t ((e6.trans e7).trans e8) ho5, by omega, by omega, fun t2 H9 e9 ht9 => ?_⟩⟩
          exact ⟨((x5.trans e6).trans e7).trans (e8.trans e9), v2, t2, (movZ s.1 d, swapL s.2 (atZ d)), _, _, _, rfl, hstep, by rw [ml]; exact l1, by rw [swapL_len (by omega)]; exact l2, by rw [em]; exact hv7.ex (e8.trans e9), by rw [ea]; exact ht9⟩
        · have em : movZ s.1 d = fallR s.1 j := by unfold movZ; rw [d1, d2, if_neg (by decide), Int.toNat_natCast]
          have ea : atZ d = j := by unfold atZ; rw [d1, d2, if_neg (by decide), Int.toNat_natCast]
          have cz : fallsZ s.1 (j : Int) = true := by
            have := hc1
            unfold canZ at this
            rw [d1, d2, if_neg (by decide)] at this
            exact this
          rw [d1, d2]
          refine s_if (b := false) (et_is (et_test (ev_op (ev_var rfl) ev_c (rv_eq rfl))) word_no) (fun z => by cases z) fun _ H6 e6 => ?_
          refine ⟨v', rfl, .int (j : Int), rfl, v', s.1, (j : Int), rfl, hr5.ex e6, by omega, fun _ v2 H7 e7 hv7 => ?_, fun z => by rw [cz] at z; cases z⟩
          rw [Int.toNat_natCast] at hv7
          refine ⟨.ref t, rfl, .int (j : Int), rfl, t, s.2, j, rfl, ex_t (e6.trans e7) ho5, by omega, by omega, fun t2 H9 e9 ht9 => ?_⟩
          exact ⟨((x5.trans e6).trans e7).trans e9, v2, t2, (movZ s.1 d, swapL s.2 (atZ d)), _, _, _, rfl, hstep, by rw [ml]; exact l1, by rw [swapL_len (by omega)]; exact l2, by rw [em]; exact hv7.ex e9, by rw [ea]; exact ht9⟩
    · obtain ⟨x3, v', t, s, y4, y5, y6, rfl, hk, l1, l2, hr3, ho3⟩ := hW
      rw [All2.len hds, List.drop_length] at hk
      refine ⟨v', rfl, .ref t, rfl, by show 2 ≤ sizeLine; decide, fun qq hqq => ?_⟩
      have nq := Ex.new (o := .tup [v', .ref t]) hqq
      exact q s hk qq v' t _ ((e2.trans x3).trans nq) upd_same (hr3.ex nq) (ex_t nq ho3)
theorem ok_pass_all {f : Addr} {fd : FuncData} (F : FnP K "pass_all" s_pass_all f fd) (g : mg "pass_all" = some (.ref f)) (b : Binds K fd ["line", "strengths", "tolls", "who"] []) (m_len : mg "len" = none) : Has P w K mg base 1 "pass_all" ["line", "strengths", "tolls", "who"] spPassAll f fd := by
  refine ⟨F.ok sc_pass_all (fun vs H Q E h => ?_) (fun cdv A outer s H vs Q E hr h => ?_), g, F.kp, b⟩
  · obtain ⟨l, sa, ta, N, S, T, who, s0, t0, rfl, _⟩ := h
    rfl
  · obtain ⟨l, sa, ta, N, S, T, who, s0, t0, rfl, hl, hs, ht, ne1, ne2, ne3, kp, hs0, ht0, hne, hN, t0nn, nfN, q⟩ := h
    refine ⟨_, PSs.nox (pss_cons (ps_set (i := 4) sc_pass_all.nd rfl (.inl rfl) (pe_callB call_len_seq (by rfl) m_len PySem.boot_len (pa_cons (pv 0) pa_nil)))
      (pss_cons (ps_while PassesOwn.never (PW.pt (pw_and (pt_cmpR op_gt (pv 4) pe_int (nomark _)) (pw_and1 (pt_cmpR op_gt (pe_op op_sub (pe_ix ix_list (pv 1) (pv 3) (fun _ _ => rfl)) (pe_ix ix_list (pv 2) (pe_ix ix_list (pv 0) (pe_op op_sub (pv 4) pe_int) (fun _ _ => rfl)) (fun _ _ => rfl))) (pe_ix ix_list (pv 1) (pe_ix ix_list (pv 0) (pe_op op_sub (pv 4) pe_int) (fun _ _ => rfl)) (fun _ _ => rfl)) (nomark _))))) (pss_cons (ps_aug (i := 4) sc_pass_all.nd rfl (.inl rfl) pe_int ip_sub)
      (pss_one (ps_augS (pv 1) (pv 3) get_listN (pe_ix ix_list (pv 2) (pe_ix ix_list (pv 0) (pv 4) (fun _ _ => rfl)) (fun _ _ => rfl)) ip_sub set_list))))
      (pss_one (ps_expr (pe_bm PySem.F.plainAttrs_list PySem.F.slot_list_insert PySem.F.type_list_insert mt_insert (pv 0) (pa_cons (pv 4) (pa_cons (pv 3) pa_nil))))))), ?_⟩
    refine q_asg (ev_len (K := K) (ev_var rfl) (sq_of hl)) fun H1 e1 => ?_
    refine q_while (fun m σ' H' => ∃ (A B : List Cow) (s : Int), m = A.length ∧ σ' = [some (.ref l), some (.ref sa), some (.ref ta), some (.int (who : Int)), some (.int (A.length : Int))] ∧ N = A ++ B ∧ Steps (N ++ [(who, (s0, t0))]) (A ++ (who, (s, t0)) :: B) ∧ (∀ b r, B = b :: r → b.2.1 < s) ∧ H' sa = some (.lst ((S.set who s).map V.int)) ∧ ExB sa H H') N.length ?_ (fun m σ' H' hW => ?_)
    · have e0 : S.set who s0 = S := by
        exact set_self hs0
      refine ⟨N, [], s0, rfl, ?_, by rw [List.append_nil], .refl _, (fun b r z => by cases z), ?_, .of e1⟩
      · show [some (V.ref l), some (.ref sa), some (.ref ta), some (.int (who : Int)), some (.int ((idsV N).length : Int))] = _
        rw [show (idsV N).length = N.length from List.length_map ..]
      · rw [e0]
        exact e1 _ _ hs
    · obtain ⟨A, B, s, rfl, rfl, hAB, st, hB, hsa, x1⟩ := hW
      have hl' := x1 _ _ ne1 hl
      have ht' := x1 _ _ (Ne.symm ne3) ht
      have hwho : (S.set who s)[who]? = some s := set_at hs0
      have fin : (∀ x, A.getLast? = some x → ¬ (s - x.2.2 > x.2.1)) → ∀ H1, Ex H' H1 → tDrop (tBM K "list" (fun x vs H Q => ∃ (l : Addr) (xs : List V) (i : Int) (y : V), x = .ref l ∧ vs = [.int i, y] ∧ H l = some (.lst xs) ∧ xs.length < sizeLine ∧ 0 ≤ i ∧ i < 2 ^ 63 ∧ Q .non (upd H l (.lst (xs.take i.toNat ++ [y] ++ xs.drop i.toNat)))) (tVar 0) (tCons (tVar 4) (tCons (tVar 3) tNil))) { nx := fun _ H' => Q .non H', rt := Q } [some (.ref l), some (.ref sa), some (.ref ta), some (.int (who : Int)), some (.int (A.length : Int))] H1 := fun hlast H1 e1 => by
        have hAl : A.length ≤ N.length := by rw [hAB, List.length_append]; omega
        refine ⟨.ref l, rfl, .inl ⟨rfl, _, sq_of (e1 _ _ hl')⟩, .int (A.length : Int), rfl, .int (who : Int), rfl, l, _, (A.length : Int), .int (who : Int), rfl, rfl, e1 _ _ hl', sz_lt (by rw [idsV_len]; omega), by omega, by omega, ?_⟩
        refine q A B s _ hAB st (nfr_in (by rw [← hAB]; exact nfN) hlast fun b r z => ?_) ?_ ?_ ?_
        · have := hB b r z
          dsimp only
          omega
        · rw [upd_same, hAB, show ((A.length : Nat) : Int).toNat = A.length from rfl, ← idsV_ins A B (who, (s, t0))]
        · rw [upd_ne (Ne.symm ne1)]
          exact e1 _ _ hsa
        · intro c o hc1 hc2 hc
          rw [upd_ne hc1]
          exact e1 _ _ (x1 _ _ hc2 hc)
      rcases List.eq_nil_or_concat A with rfl | ⟨A', x, rfl⟩
      · refine ⟨false, (et_and (a := false) (b := false) (et_is (et_test (ev_op (ev_var rfl) ev_c rv_I0)) rfl) (fun z => by cases z)), (fun z => by cases z), fun _ H1 e1 => fin (fun x z => by cases z) H1 e1⟩
      · have hxN : x ∈ N := by
          rw [hAB]
          simp
        have hlen : (A'.concat x).length = A'.length + 1 := List.length_concat ..
        have hpl : ((A'.concat x).length : Int) - 1 = (A'.length : Int) := by
          rw [hlen]
          omega
        have hNe : N = A' ++ x :: B := by
          rw [hAB]
          simp
        have gl : atI (idsV N) (A'.length : Int) = some (.int (x.1 : Int)) := atI_nat (by rw [hNe]; exact idsV_at A' B x)
        have gT : atI (T.map V.int) (x.1 : Int) = some (.int x.2.2) := atI_nat (getI (kp.t x hxN))
        have gS : atI ((S.set who s).map V.int) (x.1 : Int) = some (.int x.2.1) := atI_nat (getI (by rw [set_off (Ne.symm (hne x hxN))]; exact kp.s x hxN))
        have gW : atI ((S.set who s).map V.int) (who : Int) = some (.int s) := atI_nat (getI hwho)
        refine ⟨decide (s - x.2.2 > x.2.1), et_is (et_and (a := true) (b := decide (s - x.2.2 > x.2.1)) (et_is (et_test (ev_op (ev_var rfl) ev_c rv_I0)) (by rw [hlen]; exact decide_eq_true (by omega))) fun _ => et_test (ev_op (ev_op (ev_op (ev_var rfl) (ev_var rfl) (rv_ixL (sq_of hsa) gW)) (ev_op (ev_var rfl) (ev_op (ev_var rfl) (ev_op (ev_var rfl) ev_c rv_I0) (rv_ixL (K := K) (sq_of hl') (by rw [hpl]; exact gl))) (rv_ixL (sq_of ht') gT)) rv_I0) (ev_op (ev_var rfl) (ev_op (ev_var rfl) (ev_op (ev_var rfl) ev_c rv_I0) (rv_ixL (K := K) (sq_of hl') (by rw [hpl]; exact gl))) (rv_ixL (sq_of hsa) gS)) rv_I0)) (Bool.true_and _), fun hd H1 e1 => ?_, fun hd H1 e1 => fin (fun y z => ?_) H1 e1⟩
        · have hd := of_decide_eq_true hd
          refine ⟨fun σ2 H2 => ∃ m', m' < (A'.concat x).length ∧ ∃ (A B : List Cow) (s : Int), m' = A.length ∧ σ2 = [some (.ref l), some (.ref sa), some (.ref ta), some (.int (who : Int)), some (.int (A.length : Int))] ∧ N = A ++ B ∧ Steps (N ++ [(who, (s0, t0))]) (A ++ (who, (s, t0)) :: B) ∧ (∀ b r, B = b :: r → b.2.1 < s) ∧ H2 sa = some (.lst ((S.set who s).map V.int)) ∧ ExB sa H H2, fun σ2 H2 h => h, ?_⟩
          refine q_aug (f := fun i j => i - j) (b := 1) rfl ev_c fun H2 e2 => ?_
          rw [hpl]
          have e12 := e1.trans e2
          refine ⟨.ref sa, rfl, .int (who : Int), rfl, sa, _, who, .int s, rfl, rfl, e12 _ _ hsa, getI hwho, ?_⟩
          have ev : Ev (tOp (rIxL K) (tVar 2) (tOp (rIxL K) (tVar 0) (tVar 4))) [some (.ref l), some (.ref sa), some (.ref ta), some (.int (who : Int)), some (.int (A'.length : Int))] H2 (.int x.2.2) := ev_op (ev_var rfl) (ev_op (ev_var rfl) (ev_var rfl) (rv_ixL (sq_of (e12 _ _ hl')) gl)) (rv_ixL (sq_of (e12 _ _ ht')) gT)
          refine ev H2 (Ex.refl H2) _ fun H3 e3 => ⟨s, x.2.2, rfl, rfl, sa, _, (who : Int), who, rfl, rfl, e3 _ _ (e12 _ _ hsa), ixN_nat (by rw [List.length_map, List.length_set]; exact (List.getElem?_eq_some_iff.mp hs0).1), ?_⟩
          refine ⟨A'.length, by rw [hlen]; omega, A', x :: B, s - x.2.2, rfl, rfl, hNe, st.snoc ⟨A', B, x, (who, (s, t0)), by simp, hd, rfl⟩, fun b r z => ?_, ?_, ?_⟩
          · cases z
            omega
          · rw [upd_same, ← List.map_set, List.set_set]
          · exact (x1.trans (.of (e12.trans e3))).upd
        · have z' : x = y := by
            rw [List.concat_eq_append, List.getLast?_concat] at z
            exact Option.some.inj z
          subst z'
          exact of_decide_eq_false hd
theorem ok_fall_all {f : Addr} {fd : FuncData} (F : FnP K "fall_all" s_fall_all f fd) (g : mg "fall_all" = some (.ref f)) (b : Binds K fd ["line", "strengths", "tolls", "who"] []) (m_len : mg "len" = none) : Has P w K mg base 1 "fall_all" ["line", "strengths", "tolls", "who"] spFallAll f fd := by
  refine ⟨F.ok sc_fall_all (fun vs H Q E h => ?_) (fun cdv A outer s H vs Q E hr h => ?_), g, F.kp, b⟩
  · obtain ⟨l, sa, ta, N, S, T, who, s0, t0, rfl, _⟩ := h
    rfl
  · obtain ⟨l, sa, ta, N, S, T, who, s0, t0, rfl, hl, hs, ht, ne1, ne2, ne3, kp, hs0, ht0, hne, hN, nfN, q⟩ := h
    refine ⟨_, PSs.nox (pss_cons (ps_set (i := 4) sc_fall_all.nd rfl (.inl rfl) pe_int)
      (pss_cons (ps_while PassesOwn.never (PW.pt (pw_and (pt_cmpR op_lt (pv 4) (pe_callB call_len_seq (by rfl) m_len PySem.boot_len (pa_cons (pv 0) pa_nil)) (nomark _)) (pw_and1 (pt_cmpR op_gt (pe_ix ix_list (pv 1) (pv 3) (fun _ _ => rfl)) (pe_ix ix_list (pv 1) (pe_ix ix_list (pv 0) (pv 4) (fun _ _ => rfl)) (fun _ _ => rfl)) (nomark _))))) (pss_cons (ps_augS (pv 1) (pv 3) get_listN (pe_ix ix_list (pv 2) (pe_ix ix_list (pv 0) (pv 4) (fun _ _ => rfl)) (fun _ _ => rfl)) ip_add set_list)
      (pss_one (ps_aug (i := 4) sc_fall_all.nd rfl (.inl rfl) pe_int ip_add))))
      (pss_one (ps_expr (pe_bm PySem.F.plainAttrs_list PySem.F.slot_list_insert PySem.F.type_list_insert mt_insert (pv 0) (pa_cons (pv 4) (pa_cons (pv 3) pa_nil))))))), ?_⟩
    refine q_asg ev_c fun H1 e1 => ?_
    refine q_while (fun m σ' H' => ∃ (A B : List Cow) (s : Int), m = B.length ∧ σ' = [some (.ref l), some (.ref sa), some (.ref ta), some (.int (who : Int)), some (.int (A.length : Int))] ∧ N = A ++ B ∧ FSteps ((who, (s0, t0)) :: N) (A ++ (who, (s, t0)) :: B) ∧ (∀ x, A.getLast? = some x → x.2.1 < s) ∧ H' sa = some (.lst ((S.set who s).map V.int)) ∧ ExB sa H H') N.length ?_ (fun m σ' H' hW => ?_)
    · have e0 : S.set who s0 = S := by
        exact set_self hs0
      refine ⟨[], N, s0, rfl, rfl, rfl, .refl _, (fun x z => by cases z), ?_, .of e1⟩
      rw [e0]
      exact e1 _ _ hs
    · obtain ⟨A, B, s, rfl, rfl, hAB, st, hA, hsa, x1⟩ := hW
      have hl' := x1 _ _ ne1 hl
      have ht' := x1 _ _ (Ne.symm ne3) ht
      have hwho : (S.set who s)[who]? = some s := set_at hs0
      have hNl : N.length = A.length + B.length := by rw [hAB, List.length_append]
      have fin : (∀ b r, B = b :: r → ¬ (s > b.2.1)) → ∀ H1, Ex H' H1 → tDrop (tBM K "list" (fun x vs H Q => ∃ (l : Addr) (xs : List V) (i : Int) (y : V), x = .ref l ∧ vs = [.int i, y] ∧ H l = some (.lst xs) ∧ xs.length < sizeLine ∧ 0 ≤ i ∧ i < 2 ^ 63 ∧ Q .non (upd H l (.lst (xs.take i.toNat ++ [y] ++ xs.drop i.toNat)))) (tVar 0) (tCons (tVar 4) (tCons (tVar 3) tNil))) { nx := fun _ H' => Q .non H', rt := Q } [some (.ref l), some (.ref sa), some (.ref ta), some (.int (who : Int)), some (.int (A.length : Int))] H1 := fun hB H1 e1 => by
        refine ⟨.ref l, rfl, .inl ⟨rfl, _, sq_of (e1 _ _ hl')⟩, .int (A.length : Int), rfl, .int (who : Int), rfl, l, _, (A.length : Int), .int (who : Int), rfl, rfl, e1 _ _ hl', sz_lt (by rw [idsV_len]; omega), by omega, by omega, ?_⟩
        refine q A B s _ hAB st (ffr_in (by rw [← hAB]; exact nfN) (fun x z => ?_) hB) ?_ ?_ ?_
        · have := hA x z
          dsimp only
          omega
        · rw [upd_same, hAB, show ((A.length : Nat) : Int).toNat = A.length from rfl, ← idsV_ins A B (who, (s, t0))]
        · rw [upd_ne (Ne.symm ne1)]
          exact e1 _ _ hsa
        · intro c o hc1 hc2 hc
          rw [upd_ne hc1]
          exact e1 _ _ (x1 _ _ hc2 hc)
      have gWI : atI ((S.set who s).map V.int) (who : Int) = some (.int s) := atI_nat (getI hwho)
      cases B with
      | nil =>
        have hlen0 : (idsV N).length = A.length := by
          rw [idsV_len, hNl]
          rfl
        refine ⟨false, (et_and (a := false) (b := false) (et_is (et_test (ev_op (ev_var rfl) (ev_len (K := K) (ev_var rfl) (sq_of hl')) rv_I0)) (by rw [hlen0]; exact decide_eq_false (by omega))) (fun z => by cases z)), (fun z => by cases z), fun _ H1 e1 => fin (fun b r z => by cases z) H1 e1⟩
      | cons x B =>
        have hxN : x ∈ N := by
          rw [hAB]
          simp
        have hlen1 : (idsV N).length = A.length + (B.length + 1) := by
          rw [idsV_len, hNl]
          rfl
        have gl : atI (idsV N) (A.length : Int) = some (.int (x.1 : Int)) := atI_nat (by rw [hAB]; exact idsV_at A B x)
        have gT : atI (T.map V.int) (x.1 : Int) = some (.int x.2.2) := atI_nat (getI (kp.t x hxN))
        have gS : atI ((S.set who s).map V.int) (x.1 : Int) = some (.int x.2.1) := atI_nat (getI (by rw [set_off (Ne.symm (hne x hxN).1)]; exact kp.s x hxN))
        refine ⟨decide (s > x.2.1), et_is (et_and (a := true) (b := decide (s > x.2.1)) (et_is (et_test (ev_op (ev_var rfl) (ev_len (K := K) (ev_var rfl) (sq_of hl')) rv_I0)) (by rw [hlen1]; exact decide_eq_true (by omega))) fun _ => et_test (ev_op (ev_op (ev_var rfl) (ev_var rfl) (rv_ixL (K := K) (sq_of hsa) gWI)) (ev_op (ev_var rfl) (ev_op (ev_var rfl) (ev_var rfl) (rv_ixL (K := K) (sq_of hl') gl)) (rv_ixL (sq_of hsa) gS)) rv_I0)) (Bool.true_and _), fun hd H1 e1 => ?_, fun hd H1 e1 => fin (fun b r z => ?_) H1 e1⟩
        · have hd := of_decide_eq_true hd
          refine ⟨fun σ2 H2 => ∃ m', m' < (x :: B).length ∧ ∃ (A B : List Cow) (s : Int), m' = B.length ∧ σ2 = [some (.ref l), some (.ref sa), some (.ref ta), some (.int (who : Int)), some (.int (A.length : Int))] ∧ N = A ++ B ∧ FSteps ((who, (s0, t0)) :: N) (A ++ (who, (s, t0)) :: B) ∧ (∀ x, A.getLast? = some x → x.2.1 < s) ∧ H2 sa = some (.lst ((S.set who s).map V.int)) ∧ ExB sa H H2, fun σ2 H2 h => h, ?_⟩
          refine ⟨.ref sa, rfl, .int (who : Int), rfl, sa, _, who, .int s, rfl, rfl, e1 _ _ hsa, getI hwho, ?_⟩
          have ev : Ev (tOp (rIxL K) (tVar 2) (tOp (rIxL K) (tVar 0) (tVar 4))) [some (.ref l), some (.ref sa), some (.ref ta), some (.int (who : Int)), some (.int (A.length : Int))] H1 (.int x.2.2) := ev_op (ev_var rfl) (ev_op (ev_var rfl) (ev_var rfl) (rv_ixL (sq_of (e1 _ _ hl')) gl)) (rv_ixL (sq_of (e1 _ _ ht')) gT)
          refine ev H1 (Ex.refl H1) _ fun H3 e3 => ⟨s, x.2.2, rfl, rfl, sa, _, (who : Int), who, rfl, rfl, e3 _ _ (e1 _ _ hsa), ixN_nat (by rw [List.length_map, List.length_set]; exact (List.getElem?_eq_some_iff.mp hs0).1), ?_⟩
          refine s_aug (f := fun i j => i + j) (a := (A.length : Int)) (b := 1) rfl ev_c fun H4 e4 => ?_
          have hxnn := (hne x hxN).2
          refine ⟨B.length, Nat.lt_succ_self _, A ++ [x], B, s + x.2.2, rfl, ?_, by rw [hAB]; simp, ?_, fun y z => ?_, ?_, ?_⟩
          · rw [List.length_append]
            rfl
          · refine st.trans (.one ⟨A, B, (who, (s, t0)), x, rfl, hd, by simp⟩)
          · rw [List.getLast?_concat] at z
            cases z
            omega
          · refine e4 _ _ ?_
            rw [upd_same, ← List.map_set, List.set_set]
          · exact ((x1.trans (.of (e1.trans e3))).upd).trans (.of e4)
        · cases z
          exact of_decide_eq_false hd
theorem ok_row_and_order {f : Addr} {fd : FuncData} (F : FnP K "row_and_order" s_row_and_order f fd) (g : mg "row_and_order" = some (.ref f)) (b : Binds K fd ["line", "strengths", "tolls"] []) (m_tuple : mg "tuple" = none) : Has P w K mg base 1 "row_and_order" ["line", "strengths", "tolls"] (spRowOrderF K) f fd := by
  refine ⟨F.ok sc_row_and_order (fun vs H Q E h => ?_) (fun cdv A outer s H vs Q E hr h => ?_), g, F.kp, b⟩
  · obtain ⟨l, sa, ta, N, S, T, rfl, _⟩ := h
    rfl
  · obtain ⟨l, sa, ta, N, S, T, rfl, hl, hs, ht, kp, hN, q⟩ := h
    refine ⟨_, PSs.nox (pss_one (ps_ret (pe_tup (pa_cons (pe_tupleOf (by rfl) m_tuple (pe_lc (own := [("who", 3)]) (g := gName 3) (by rfl) sc_row_and_order.nd (pi_list (pv 0)) (blkOk_by (own := [("who", 3)]) (N := ["line", "strengths", "tolls", "who"]) (sc := defScope s_row_and_order) (by decide +kernel)) (fun _ _ _ _ _ => (pg_name (i := 3) sc_row_and_order.nd rfl (Or.inl rfl))) (fun _ _ _ _ _ => pts_nil) (fun _ _ _ _ _ => (pe_tup (pa_cons (pe_ix (ix_listK (K := K)) (pv 1) (pv 3) (fun _ _ => rfl)) (pa_cons (pe_ix (ix_listK (K := K)) (pv 2) (pv 3) (fun _ _ => rfl)) pa_nil)))))) (pa_cons (pe_tupleOfF (by rfl) m_tuple (pv 0)) pa_nil))))), ?_⟩
    refine ⟨.ref l, rfl, l, rfl, ⟨_, sq_of hl⟩, fun Dl hD => ?_⟩
    refine lc_it (walk_list (xs := idsV N)) (fun k H2 => Ex H H2 ∧ ∃ us, H2 Dl = some (.lst us) ∧ Beasts K H2 us (HH.rowsOf (N.take k))) ⟨Ex.new hD, [], upd_same, Beasts.nil⟩ (fun k H2 _ p => sq_of (p.1 _ _ hl)) (fun k x H2 H3 hk p y => ?_) (fun H2 p => ?_)
    · obtain ⟨rfl, hx⟩ := y
      obtain ⟨p1, us, p2, p3⟩ := p
      have hk' : k < N.length := by rw [← idsV_len]; exact hk
      have hmem : N[k] ∈ N := List.getElem_mem hk'
      have hx' : x = .int (N[k].1 : Int) := by
        unfold idsV at hx
        rw [List.getElem?_map, List.getElem?_eq_getElem hk'] at hx
        exact (Option.some.inj hx).symm
      subst hx'
      refine ⟨rfl, .ref sa, rfl, .int (N[k].1 : Int), rfl, sa, _, _, .int N[k].2.1, rfl, rfl, sq_of (p1 _ _ hs), atI_nat (getI (kp.s _ hmem)), .ref ta, rfl, .int (N[k].1 : Int), rfl, ta, _, _, .int N[k].2.2, rfl, rfl, sq_of (p1 _ _ ht), atI_nat (getI (kp.t _ hmem)), by show 2 ≤ sizeLine; decide, fun TT hT => ?_⟩
      have g1 : (upd H3 TT (.tup [.int N[k].2.1, .int N[k].2.2])) Dl = some (.lst us) := Ex.new hT _ _ p2
      refine ⟨us, g1, ?_, Ex.mut (p1.trans (Ex.new hT)) hD, us ++ [.ref TT], upd_same, ?_⟩
      · rw [p3.1, cow_len, List.length_take]
        exact sz_lt (by omega)
      · have e : HH.rowsOf (N.take (k + 1)) = HH.rowsOf (N.take k) ++ [N[k].2] := by
          unfold HH.rowsOf
          rw [List.take_add_one, List.getElem?_eq_getElem hk', List.map_append]
          rfl
        rw [e]
        exact ((p3.ex (Ex.new hT)).app (Beasts.one (b := N[k].2) ⟨TT, rfl, st_of upd_same⟩)).exB (ExB.refl _ _).upd g1
    · obtain ⟨p1, us, p2, p3⟩ := p
      rw [idsV_len, List.take_length] at p3
      refine .inl ⟨Dl, us, rfl, sq_of p2, fun rt hrt => ⟨.ref l, rfl, l, _, rfl, sq_of (Ex.new hrt _ _ (p1 _ _ hl)), fun ot ob plain hot => ⟨by show 2 ≤ sizeLine; decide, fun qq hqq => ?_⟩⟩⟩
      have e2 := (Ex.new (o := .tup us) hrt).trans ((Ex.new (o := .frz ob (.tup (idsV N))) hot).trans (Ex.new (o := .tup [.ref rt, .ref ot]) hqq))
      refine q qq _ (p1.trans e2) ⟨.ref rt, ot, ob, upd_same, ⟨rt, us, rfl, st_of ?_, p3.ex e2⟩, ?_, plain⟩
      · exact Ex.new hqq _ _ (Ex.new hot _ _ upd_same)
      · exact Ex.new hqq _ _ upd_same
theorem ok_last {f f1 f2 : Addr} {fd fd1 fd2 : FuncData} (F : FnP K "last" s_last f fd) (g : mg "last" = some (.ref f)) (b : Binds K fd ["row"] []) (h_pass_all : Has P w K mg base 1 "pass_all" ["line", "strengths", "tolls", "who"] spPassAll f1 fd1) (h_row_and_order : Has P w K mg base 1 "row_and_order" ["line", "strengths", "tolls"] (spRowOrderF K) f2 fd2) (m_range : mg "range" = none) (m_len : mg "len" = none) :
    Has P w K mg base 2 "last" ["row"] (spLastF K) f fd := by
  refine ⟨F.ok sc_last (fun vs H Q E h => ?_) (fun cdv A outer s H vs Q E hr h => ?_), g, F.kp, b⟩
  · obtain ⟨v, rs, rfl, _⟩ := h
    rfl
  · obtain ⟨v, rs, rfl, hv, hl, ht, q⟩ := h
    refine ⟨_, PSs.nox (pss_cons (ps_setLc (i := 1) (own := [("strength", 5), ("toll", 6)]) (g := gTup K 2 (gCons (gName 5) (gCons (gName 6) gNil))) (by rfl) sc_last.nd rfl rfl (sw_true rfl rfl rfl (by decide +kernel)) (pi_tup (pv 0)) (blkOk_by (own := [("strength", 5), ("toll", 6)]) (N := ["row", "strengths", "tolls", "line", "who", "strength", "toll"]) (sc := defScope s_last) (by decide +kernel)) (fun _ _ _ _ _ => (pg_tup rfl (pgs_cons (pg_name (i := 5) sc_last.nd rfl (Or.inl rfl)) (pgs_cons (pg_name (i := 6) sc_last.nd rfl (Or.inl rfl)) pgs_nil)))) (fun _ _ _ _ _ => pts_nil) (fun _ _ _ _ _ => (pv 5)))
      (pss_cons (ps_setLc (i := 2) (own := [("strength", 5), ("toll", 6)]) (g := gTup K 2 (gCons (gName 5) (gCons (gName 6) gNil))) (by rfl) sc_last.nd rfl rfl (sw_true rfl rfl rfl (by decide +kernel)) (pi_tup (pv 0)) (blkOk_by (own := [("strength", 5), ("toll", 6)]) (N := ["row", "strengths", "tolls", "line", "who", "strength", "toll"]) (sc := defScope s_last) (by decide +kernel)) (fun _ _ _ _ _ => (pg_tup rfl (pgs_cons (pg_name (i := 5) sc_last.nd rfl (Or.inl rfl)) (pgs_cons (pg_name (i := 6) sc_last.nd rfl (Or.inl rfl)) pgs_nil)))) (fun _ _ _ _ _ => pts_nil) (fun _ _ _ _ _ => (pv 6)))
      (pss_cons (ps_set (i := 3) sc_last.nd rfl (.inl rfl) (pe_lst pa_nil))
      (pss_cons (ps_for PassesOwn.never rfl (pi_range1 (by rfl) m_range (pa_cons (pe_callB call_len_seq (by rfl) m_len PySem.boot_len (pa_cons (pv 0) pa_nil)) pa_nil)) (pg_name (i := 4) sc_last.nd rfl (Or.inl rfl))
        (pss_one (ps_expr (pe_call h_pass_all.G (hr.mono (by decide)) (by rfl) h_pass_all.g h_pass_all.kp h_pass_all.b .nil pass0 (pa_cons (pv 3) (pa_cons (pv 1) (pa_cons (pv 2) (pa_cons (pv 4) pa_nil))))))))
      (pss_one (ps_ret (pe_call h_row_and_order.G (hr.mono (by decide)) (by rfl) h_row_and_order.g h_row_and_order.kp h_row_and_order.b .nil pass0 (pa_cons (pv 3) (pa_cons (pv 1) (pa_cons (pv 2) pa_nil)))))))))), ?_⟩
    refine q_asgL (el_unzip true hv hl (ev_var rfl) (fun x y => rfl) (fun x y => rfl)) fun sa H1 hsa e1 h1 => ?_
    refine q_asgL (el_unzip false (hv.ex e1) hl (ev_var rfl) (fun x y => rfl) (fun x y => rfl)) fun ta H2 hta e2 h2 => ?_
    refine q_asgL (el_lst ea_nil (by show 0 ≤ 100000; decide)) fun l H3 hl3 e3 h3 => ?_
    have h1' : H3 sa = some (.lst ((rs.map (·.1)).map V.int)) := by
      rw [List.map_map]
      exact e3 _ _ (e2 _ _ h1)
    have h2' : H3 ta = some (.lst ((rs.map (·.2)).map V.int)) := by
      rw [List.map_map]
      exact e3 _ _ h2
    have ne3 : sa ≠ ta := ne_of_none h1 hta
    have ne1 : l ≠ sa := (ne_of_none (e2 _ _ h1) hl3).symm
    have ne2 : l ≠ ta := (ne_of_none h2 hl3).symm
    have e123 := (e1.trans e2).trans e3
    have fl : H l = none := fresh_back (e1.trans e2) hl3
    have fs : H sa = none := hsa
    have hlen0 : (rs.map (·.1)).length = rs.length := List.length_map ..
    refine q_forR1 (n := (rs.length : Int)) (ea_cons (ev_lenR (ev_var rfl) (hv.ex e123)) ea_nil) (by omega) (fun k σ' H' => ∃ (y : Option V) (y5 y6 : Option V) (N : List Cow) (S : List Int), σ' = [some v, some (.ref sa), some (.ref ta), some (.ref l), y, y5, y6] ∧ H' l = some (.lst (idsV N)) ∧ H' sa = some (.lst (S.map V.int)) ∧ H' ta = some (.lst ((rs.map (·.2)).map V.int)) ∧ Kept S (rs.map (·.2)) N ∧ (∀ j, k ≤ j → S[j]? = (rs.map (·.1))[j]?) ∧ (∀ x ∈ N, x.1 < k) ∧ N.length = k ∧ NfR N ∧ Steps (tag 0 rs) (N ++ tag k (rs.drop k)) ∧ Ex H H') (fun H4 e4 => ?_) (fun k σ' H4 hk hW => ?_) (fun σ' H4 hW => ?_)
    · refine ⟨none, none, none, [], rs.map (·.1), rfl, e4 _ _ h3, e4 _ _ h1', e4 _ _ h2', ⟨(fun x z => by cases z), (fun x z => by cases z)⟩, fun j _ => rfl, (fun x z => by cases z), rfl, True.intro, .refl _, e123.trans e4⟩
    · obtain ⟨y, y5, y6, N, S, rfl, w1, w2, w3, w4, w5, w6, w7, w8, w9, w10⟩ := hW
      have hk' : k < rs.length := by omega
      have gk := List.getElem?_eq_getElem hk'
      obtain ⟨g1, g2⟩ := rows_get rs k _ gk
      refine ⟨.ref l, rfl, .ref sa, rfl, .ref ta, rfl, .int (k : Int), rfl, l, sa, ta, N, S, rs.map (·.2), k, rs[k].1, rs[k].2, rfl, w1, w2, w3, ne1, ne2, ne3, w4, by rw [w5 k (Nat.le_refl _)]; exact g1, g2, fun x hx => by have := w6 x hx; omega, by omega, ht _ (List.getElem_mem hk'), w8, fun A B s5 H5 hAB st nf h5 h6 x5 => ?_⟩
      have hSk : S[k]? = some rs[k].1 := by
        rw [w5 k (Nat.le_refl _)]
        exact g1
      have hmem : ∀ x ∈ A ++ (k, (s5, rs[k].2)) :: B, x = (k, (s5, rs[k].2)) ∨ x ∈ N := fun x hx => by
        rw [hAB]
        rcases List.mem_append.mp hx with h | h
        · exact .inr (List.mem_append_left _ h)
        · rcases List.mem_cons.mp h with h | h
          · exact .inl h
          · exact .inr (List.mem_append_right _ h)
      refine ⟨_, y5, y6, A ++ (k, (s5, rs[k].2)) :: B, S.set k s5, rfl, h5, h6, x5 _ _ (Ne.symm ne2) (Ne.symm ne3) w3, ⟨fun x hx => ?_, fun x hx => ?_⟩, fun j hj => ?_, fun x hx => ?_, ?_, nf, ?_, fun c o hc => ?_⟩
      · rcases hmem x hx with rfl | hx
        · exact set_at hSk
        · rw [set_off (by have := w6 x hx; omega)]
          exact w4.s x hx
      · rcases hmem x hx with rfl | hx
        · exact g2
        · exact w4.t x hx
      · rw [set_off (by omega)]
        exact w5 j (by omega)
      · rcases hmem x hx with rfl | hx
        · exact Nat.lt_succ_self _
        · have := w6 x hx
          omega
      · have e0 := w7
        rw [hAB, List.length_append] at e0
        rw [List.length_append, List.length_cons]
        omega
      · have e0 := tag_split 0 k rs _ gk
        rw [Nat.zero_add] at e0
        rw [e0] at w9
        refine w9.trans ?_
        have := st.under [] (tag (k + 1) (rs.drop (k + 1)))
        simpa using this
      · refine x5 c o (fun z => ?_) (fun z => ?_) (w10 _ _ hc)
        · subst z
          rw [fl] at hc
          cases hc
        · subst z
          rw [fs] at hc
          cases hc
    · obtain ⟨y, y5, y6, N, S, rfl, w1, w2, w3, w4, w5, w6, w7, w8, w9, w10⟩ := hW
      refine ⟨.ref l, rfl, .ref sa, rfl, .ref ta, rfl, l, sa, ta, N, S, rs.map (·.2), rfl, w1, w2, w3, w4, by omega, fun qq H5 e5 la => q qq H5 N (w10.trans e5) la ?_ w8⟩
      rw [show ((rs.length : Int)).toNat = rs.length from rfl, List.drop_length] at w9
      have e0 : tag rs.length [] = [] := rfl
      rw [e0, List.append_nil] at w9
      exact w9
theorem ok_first {f f1 f2 : Addr} {fd fd1 fd2 : FuncData} (F : FnP K "first" s_first f fd) (g : mg "first" = some (.ref f)) (b : Binds K fd ["row"] []) (h_fall_all : Has P w K mg base 1 "fall_all" ["line", "strengths", "tolls", "who"] spFallAll f1 fd1) (h_row_and_order : Has P w K mg base 1 "row_and_order" ["line", "strengths", "tolls"] (spRowOrderF K) f2 fd2) (m_range : mg "range" = none) (m_len : mg "len" = none) (m_reversed : mg "reversed" = none) :
    Has P w K mg base 2 "first" ["row"] (spFirstF K) f fd := by
  refine ⟨F.ok sc_first (fun vs H Q E h => ?_) (fun cdv A outer s H vs Q E hr h => ?_), g, F.kp, b⟩
  · obtain ⟨v, rs, rfl, _⟩ := h
    rfl
  · obtain ⟨v, rs, rfl, hv, hl, ht, q⟩ := h
    refine ⟨_, PSs.nox (pss_cons (ps_setLc (i := 1) (own := [("strength", 5), ("toll", 6)]) (g := gTup K 2 (gCons (gName 5) (gCons (gName 6) gNil))) (by rfl) sc_first.nd rfl rfl (sw_true rfl rfl rfl (by decide +kernel)) (pi_tup (pv 0)) (blkOk_by (own := [("strength", 5), ("toll", 6)]) (N := ["row", "strengths", "tolls", "line", "who", "strength", "toll"]) (sc := defScope s_first) (by decide +kernel)) (fun _ _ _ _ _ => (pg_tup rfl (pgs_cons (pg_name (i := 5) sc_first.nd rfl (Or.inl rfl)) (pgs_cons (pg_name (i := 6) sc_first.nd rfl (Or.inl rfl)) pgs_nil)))) (fun _ _ _ _ _ => pts_nil) (fun _ _ _ _ _ => (pv 5)))
      (pss_cons (ps_setLc (i := 2) (own := [("strength", 5), ("toll", 6)]) (g := gTup K 2 (gCons (gName 5) (gCons (gName 6) gNil))) (by rfl) sc_first.nd rfl rfl (sw_true rfl rfl rfl (by decide +kernel)) (pi_tup (pv 0)) (blkOk_by (own := [("strength", 5), ("toll", 6)]) (N := ["row", "strengths", "tolls", "line", "who", "strength", "toll"]) (sc := defScope s_first) (by decide +kernel)) (fun _ _ _ _ _ => (pg_tup rfl (pgs_cons (pg_name (i := 5) sc_first.nd rfl (Or.inl rfl)) (pgs_cons (pg_name (i := 6) sc_first.nd rfl (Or.inl rfl)) pgs_nil)))) (fun _ _ _ _ _ => pts_nil) (fun _ _ _ _ _ => (pv 6)))
      (pss_cons (ps_set (i := 3) sc_first.nd rfl (.inl rfl) (pe_lst pa_nil))
      (pss_cons (ps_for PassesOwn.never rfl (pi_revR (by rfl) m_reversed (prg_1 (by rfl) m_range (pe_callB call_len_seq (by rfl) m_len PySem.boot_len (pa_cons (pv 0) pa_nil)))) (pg_name (i := 4) sc_first.nd rfl (Or.inl rfl))
        (pss_one (ps_expr (pe_call h_fall_all.G (hr.mono (by decide)) (by rfl) h_fall_all.g h_fall_all.kp h_fall_all.b .nil pass0 (pa_cons (pv 3) (pa_cons (pv 1) (pa_cons (pv 2) (pa_cons (pv 4) pa_nil))))))))
      (pss_one (ps_ret (pe_call h_row_and_order.G (hr.mono (by decide)) (by rfl) h_row_and_order.g h_row_and_order.kp h_row_and_order.b .nil pass0 (pa_cons (pv 3) (pa_cons (pv 1) (pa_cons (pv 2) pa_nil)))))))))), ?_⟩
    refine q_asgL (el_unzip true hv hl (ev_var rfl) (fun x y => rfl) (fun x y => rfl)) fun sa H1 hsa e1 h1 => ?_
    refine q_asgL (el_unzip false (hv.ex e1) hl (ev_var rfl) (fun x y => rfl) (fun x y => rfl)) fun ta H2 hta e2 h2 => ?_
    refine q_asgL (el_lst ea_nil (by show 0 ≤ 100000; decide)) fun l H3 hl3 e3 h3 => ?_
    have h1' : H3 sa = some (.lst ((rs.map (·.1)).map V.int)) := by
      rw [List.map_map]
      exact e3 _ _ (e2 _ _ h1)
    have h2' : H3 ta = some (.lst ((rs.map (·.2)).map V.int)) := by
      rw [List.map_map]
      exact e3 _ _ h2
    have ne3 : sa ≠ ta := ne_of_none h1 hta
    have ne1 : l ≠ sa := (ne_of_none (e2 _ _ h1) hl3).symm
    have ne2 : l ≠ ta := (ne_of_none h2 hl3).symm
    have e123 := (e1.trans e2).trans e3
    have fl : H l = none := fresh_back (e1.trans e2) hl3
    have fs : H sa = none := hsa
    have hlen0 : (rs.map (·.1)).length = rs.length := List.length_map ..
    refine q_forRev (n := rs.length) (ev_lenR (ev_var rfl) (hv.ex e123)) (by omega) (fun i σ' H' => ∃ (y y5 y6 : Option V) (N : List Cow) (S : List Int), σ' = [some v, some (.ref sa), some (.ref ta), some (.ref l), y, y5, y6] ∧ H' l = some (.lst (idsV N)) ∧ H' sa = some (.lst (S.map V.int)) ∧ H' ta = some (.lst ((rs.map (·.2)).map V.int)) ∧ Kept S (rs.map (·.2)) N ∧ (∀ j, j < rs.length - i → S[j]? = (rs.map (·.1))[j]?) ∧ (∀ x ∈ N, rs.length - i ≤ x.1) ∧ N.length = i ∧ FfR N ∧ FSteps (tag 0 rs) (tag 0 (rs.take (rs.length - i)) ++ N) ∧ Ex H H') (fun H3' e3' => ?_) (fun i σ' H4 hi hW => ?_) (fun σ' H4 hW => ?_)
    · refine ⟨none, none, none, [], rs.map (·.1), rfl, e3' _ _ h3, e3' _ _ h1', e3' _ _ h2', ⟨(fun x z => by cases z), (fun x z => by cases z)⟩, fun j _ => rfl, (fun x z => by cases z), rfl, True.intro, ?_, e123.trans e3'⟩
      rw [Nat.sub_zero, List.take_length, List.append_nil]
      exact .refl _
    · obtain ⟨y, y5, y6, N, S, rfl, w1, w2, w3, w4, w5, w6, w7, w8, w9, w10⟩ := hW
      obtain ⟨k, hk⟩ : ∃ k, rs.length - i = k + 1 := ⟨rs.length - i - 1, by omega⟩
      have hk2 : rs.length - (i + 1) = k := by omega
      have hk' : k < rs.length := by omega
      rw [show rs.length - 1 - i = k by omega]
      have gk := List.getElem?_eq_getElem hk'
      obtain ⟨g1, g2⟩ := rows_get rs k _ gk
      have hSk : S[k]? = some rs[k].1 := by
        rw [w5 k (by omega)]
        exact g1
      have hnn : ∀ x ∈ N, x.1 ≠ k ∧ 0 ≤ x.2.2 := fun x hx => by
        refine ⟨by have := w6 x hx; omega, ?_⟩
        have := w4.t x hx
        rw [List.getElem?_map] at this
        obtain ⟨bb, hb1, hb2⟩ := Option.map_eq_some_iff.mp this
        rw [← hb2]
        exact ht bb (List.mem_of_getElem? hb1)
      refine ⟨.ref l, rfl, .ref sa, rfl, .ref ta, rfl, .int (k : Int), rfl, l, sa, ta, N, S, rs.map (·.2), k, rs[k].1, rs[k].2, rfl, w1, w2, w3, ne1, ne2, ne3, w4, hSk, g2, hnn, by omega, w8, fun A B s5 H5 hAB st nf h5 h6 x5 => ?_⟩
      have hmem : ∀ x ∈ A ++ (k, (s5, rs[k].2)) :: B, x = (k, (s5, rs[k].2)) ∨ x ∈ N := fun x hx => by
        rw [hAB]
        rcases List.mem_append.mp hx with h | h
        · exact .inr (List.mem_append_left _ h)
        · rcases List.mem_cons.mp h with h | h
          · exact .inl h
          · exact .inr (List.mem_append_right _ h)
      refine ⟨_, y5, y6, A ++ (k, (s5, rs[k].2)) :: B, S.set k s5, rfl, h5, h6, x5 _ _ (Ne.symm ne2) (Ne.symm ne3) w3, ⟨fun x hx => ?_, fun x hx => ?_⟩, fun j hj => ?_, fun x hx => ?_, ?_, nf, ?_, fun c o hc => ?_⟩
      · rcases hmem x hx with rfl | hx
        · exact set_at hSk
        · rw [set_off (by have := w6 x hx; omega)]
          exact w4.s x hx
      · rcases hmem x hx with rfl | hx
        · exact g2
        · exact w4.t x hx
      · rw [set_off (by omega)]
        exact w5 j (by omega)
      · rcases hmem x hx with rfl | hx
        · dsimp only
          omega
        · have := w6 x hx
          omega
      · have e0 := w7
        rw [hAB, List.length_append] at e0
        rw [List.length_append, List.length_cons]
        omega
      · rw [hk, tag_take gk] at w9
        rw [hk2]
        refine w9.trans ?_
        have := st.under (tag 0 (rs.take k)) []
        simpa using this
      · refine x5 c o (fun z => ?_) (fun z => ?_) (w10 _ _ hc)
        · subst z
          rw [fl] at hc
          cases hc
        · subst z
          rw [fs] at hc
          cases hc
    · obtain ⟨y, y5, y6, N, S, rfl, w1, w2, w3, w4, w5, w6, w7, w8, w9, w10⟩ := hW
      refine ⟨.ref l, rfl, .ref sa, rfl, .ref ta, rfl, l, sa, ta, N, S, rs.map (·.2), rfl, w1, w2, w3, w4, by omega, fun qq H5 e5 la => q qq H5 N (w10.trans e5) la ?_ w8⟩
      rw [Nat.sub_self] at w9
      exact w9
theorem ok_places_of {f : Addr} {fd : FuncData} (F : FnP K "places_of" s_places_of f fd) (g : mg "places_of" = some (.ref f)) (b : Binds K fd ["order"] []) (m_enumerate : mg "enumerate" = none) : Has P w K mg base 1 "places_of" ["order"] (spPlaces K) f fd := by
  refine ⟨F.ok sc_places_of (fun vs H Q E h => ?_) (fun cdv A outer s H vs Q E hr h => ?_), g, F.kp, b⟩
  · obtain ⟨o, l, rfl, _⟩ := h
    rfl
  · obtain ⟨o, l, rfl, ho, nd, hl, q⟩ := h
    have hu := room_u1 hr
    refine ⟨_, PSs.nox (pss_one (ps_ret (pe_dc (own := [("place", 1), ("who", 2)]) (g := gTup K 2 (gCons (gName 1) (gCons (gName 2) gNil))) (by rfl) sc_places_of.nd (pi_enumT (by rfl) m_enumerate (pa_cons (pv 0) pa_nil)) (blkOk_by (own := [("place", 1), ("who", 2)]) (N := ["order", "place", "who"]) (sc := defScope s_places_of) (by decide +kernel)) (fun _ _ _ _ _ => (pg_tup rfl (pgs_cons (pg_name (i := 1) sc_places_of.nd rfl (Or.inl rfl)) (pgs_cons (pg_name (i := 2) sc_places_of.nd rfl (Or.inl rfl)) pgs_nil)))) (fun _ _ _ _ _ => pts_nil) (fun _ _ _ _ _ => (pv 2)) (fun _ _ _ _ _ => (pv 1))))), ?_⟩
    have hlen : (natsV l).length = l.length := List.length_map ..
    have hget : ∀ k x : Nat, l[k]? = some x → (natsV l)[k]? = some (V.int (x : Int)) := fun k x h => by
      unfold natsV
      rw [List.getElem?_map, h]
      rfl
    refine ⟨.ref o, rfl, o, _, rfl, ho, fun Dd hDd => ?_⟩
    refine in_it (walk_enumT (xs := natsV l)) (fun k H2 => Ex H H2 ∧ ∃ kvs, H2 Dd = some (.dK kvs) ∧ PlacesD l k kvs) ⟨Ex.new hDd, [], upd_same, ⟨(fun i x hi => absurd hi (Nat.not_lt_zero _)), Nat.le_refl _⟩⟩ (fun k H2 _ p => ex_t p.1 ho) (fun k x H2 H3 hk p y => ?_) (fun H2 p => ?_)
    · obtain ⟨p1, kvs, p2, p3⟩ := p
      obtain ⟨T, x1, x2, rfl, hT, rfl, hx1, hx2⟩ := y
      have hk' : k < l.length := by rw [← hlen]; exact hk
      cases hx1
      have hx2 : (natsV l)[k]? = some x2 := hx2
      rw [hget k _ (List.getElem?_eq_getElem hk')] at hx2
      cases hx2
      have e3 : Ex H2 (upd H2 T (.tup [.int (k : Int), .int (l[k] : Int)])) := Ex.new hT
      refine ⟨T, _, rfl, st_of upd_same, rfl, _, _, rfl, _, _, rfl, rfl, rfl, ?_⟩
      refine ⟨.int (l[k] : Int), rfl, .int (k : Int), rfl, kvs, .inl (l[k] : Int), rfl, e3 _ _ p2, ?_, ?_, _, upd_same, p3.put nd (List.getElem?_eq_getElem hk')⟩
      · have := p3.few
        exact sz_lt (by omega)
      · exact Ex.mut (p1.trans e3) hDd
    · obtain ⟨p1, kvs, p2, p3⟩ := p
      rw [hlen] at p3
      exact q Dd kvs H2 hDd p1 p2 p3
theorem ok_turned_about {f f1 : Addr} {fd fd1 : FuncData} (F : FnP K "turned_about" s_turned_about f fd) (g : mg "turned_about" = some (.ref f)) (b : Binds K fd ["order"] []) (h_places_of : Has P w K mg base 1 "places_of" ["order"] (spPlaces K) f1 fd1) (m_len : mg "len" = none) (m_range : mg "range" = none) : Has P w K mg base 2 "turned_about" ["order"] (spTurnedT K) f fd := by
  refine ⟨F.ok sc_turned_about (fun vs H Q E h => ?_) (fun cdv A outer s H vs Q E hr h => ?_), g, F.kp, b⟩
  · obtain ⟨o, l, rfl, _⟩ := h
    rfl
  · obtain ⟨o, l, rfl, ho, nd, hall, hl, q⟩ := h
    have hu := room_u1 hr
    refine ⟨_, PSs.nox (pss_cons (ps_set (i := 1) sc_turned_about.nd rfl (.inr rfl) (pe_call h_places_of.G (hr.mono (by decide)) (by rfl) h_places_of.g h_places_of.kp h_places_of.b .nil pass0 (pa_cons (pv 0) pa_nil)))
      (pss_cons (ps_set (i := 2) sc_turned_about.nd rfl (.inr rfl) (pe_callB call_len_seq (by rfl) m_len PySem.boot_len (pa_cons (pv 0) pa_nil)))
      (pss_one (ps_ret (pe_lc2 (own := [("one", 3), ("other", 4)]) (vs1 := [4]) (g := gName 3) (g1 := gName 4) (by rfl) sc_turned_about.nd (pi_range1 (by rfl) m_range (pa_cons (pv 2) pa_nil)) (blkOk_by (own := [("one", 3), ("other", 4)]) (N := ["order", "place_of", "many", "one", "other"]) (sc := defScope s_turned_about) (by decide +kernel)) (by decide) (fun _ _ _ _ _ => (pg_name (i := 3) sc_turned_about.nd rfl (Or.inl rfl))) (fun _ _ _ _ _ => pts_nil) (fun _ _ _ _ _ => (pi_range2 (by rfl) m_range (pa_cons (pe_op op_add (pv 3) pe_int) (pa_cons (pv 2) pa_nil)))) (fun _ _ _ _ _ => (pg_name (i := 4) sc_turned_about.nd rfl (Or.inl rfl))) (fun _ _ _ _ _ => (pts_one (pt_cmpR op_lt (pe_dget hu (pv 1) (pv 4) (fun _ _ => rfl)) (pe_dget hu (pv 1) (pv 3) (fun _ _ => rfl)) (nomark _)))) (fun _ _ _ _ _ => (pe_tup (pa_cons (pv 3) (pa_cons (pv 4) pa_nil))))))))), ?_⟩
    have hlen : (natsV l).length = l.length := List.length_map ..
    refine ⟨.ref o, rfl, o, l, rfl, ho, nd, hl, fun Dd kvs H2 hDd p1 p2 p3 => ?_⟩
    refine q_asg (ev_lenT (K := K) (ev_var rfl) (ex_t p1 ho)) fun H3 e3 => ?_
    rw [hlen]
    have p2' := e3 _ _ p2
    have x13 := p1.trans e3
    have hpl : ∀ j : Nat, j < l.length → ∃ p : Nat, l[p]? = some j ∧ valV kvs (.inl (j : Int)) = some (.int (p : Int)) := fun j hj => by
      obtain ⟨p, hp⟩ := List.getElem?_of_mem (hall j hj)
      exact ⟨p, hp, p3.at' p j (List.getElem?_eq_some_iff.mp hp).1 hp⟩
    refine ⟨.int (l.length : Int), rfl, (l.length : Int), rfl, by omega, by omega, fun Dl hDl => ?_⟩
    refine in_it walk_range (fun i H4 => Ex H3 H4 ∧ ∃ us, H4 Dl = some (.lst us) ∧ BeastsT H4 us (tab l l.length i)) ⟨Ex.new hDl, [], upd_same, All2.nil⟩ (fun _ _ _ _ => True.intro) (fun i x H4 H5 hi p y => ?_) (fun H4 p => ?_)
    · obtain ⟨rfl, hx⟩ := y
      have hx : x = V.int ((0 : Int) + (i : Int)) := hx
      rw [Int.zero_add] at hx
      subst hx
      obtain ⟨r1, us, r2, r3⟩ := p
      have hi' : i < l.length := by omega
      obtain ⟨pi, hpi, hvi⟩ := hpl i hi'
      refine ⟨rfl, ?_⟩
      refine t_yes ?_
      refine i_rng2 (i := (i : Int) + 1) (j := (l.length : Int)) (ea_cons (ev_op (ev_var rfl) ev_c rv_I0) (ea_cons (ev_var rfl) ea_nil)) ⟨by omega, by omega, by omega, by omega⟩ fun H6 e6 => ?_
      have hn : (((l.length : Nat) : Int) - ((i : Int) + 1)).toNat = l.length - (i + 1) := by omega
      rw [hn]
      refine in_it walk_range (fun j H7 => Ex H3 H7 ∧ ∃ us, H7 Dl = some (.lst us) ∧ BeastsT H7 us (tab l l.length i ++ tabR l l.length i j)) ⟨r1.trans e6, us, e6 _ _ r2, by
          show BeastsT H6 us (tab l l.length i ++ [])
          rw [List.append_nil]
          exact BeastsT.ex' r3 e6⟩ (fun _ _ _ _ => True.intro) (fun j x H7 H8 hj p y => ?_) (fun H7 p => ?_)
      · obtain ⟨rfl, hx⟩ := y
        have ej : (i : Int) + 1 + (j : Int) = ((i + 1 + j : Nat) : Int) := by omega
        have hx : x = V.int ((i : Int) + 1 + (j : Int)) := hx
        rw [ej] at hx
        subst hx
        obtain ⟨s1, us, s2, s3⟩ := p
        obtain ⟨pj, hpj, hvj⟩ := hpl (i + 1 + j) (by omega)
        have d8 := s1 _ _ p2'
        refine ⟨rfl, ?_⟩
        refine t_ev (b := decide ((pj : Int) < (pi : Int))) (et_test (ev_op (ev_dget (k := .inl ((i + 1 + j : Nat) : Int)) (ev_var rfl) (ev_var rfl) d8 hvj) (ev_dget (k := .inl (i : Int)) (ev_var rfl) (ev_var rfl) d8 hvi) rv_I0)) fun H9 e9 => ?_
        have hb : decide ((pj : Int) < (pi : Int)) = inP l i j := by
          unfold inP
          rw [bef_iff nd hpj hpi]
          by_cases h : pj < pi
          · rw [decide_eq_true h, decide_eq_true (by omega)]
          · rw [decide_eq_false h, decide_eq_false (by omega)]
        rw [hb]
        have e10 := tabR_succ l l.length i j
        cases hin : inP l i j with
        | true =>
          rw [hin, if_pos rfl] at e10
          refine ⟨_, rfl, _, rfl, by show 2 ≤ sizeLine; decide, fun TT hT => ?_⟩
          have g1 : (upd H9 TT (.tup [.int (i : Int), .int ((i + 1 + j : Nat) : Int)])) Dl = some (.lst us) := Ex.new hT _ _ (e9 _ _ s2)
          refine ⟨us, g1, ?_, Ex.mut ((s1.trans e9).trans (Ex.new hT)) hDl, us ++ [.ref TT], upd_same, ?_⟩
          · rw [All2.len s3, List.length_append]
            have h1 := tab_len l l.length i
            have h2 := tabR_len l l.length i j
            have h3 : i * l.length ≤ 30 * 30 := Nat.mul_le_mul (by omega) hl
            exact sz_lt (by omega)
          · rw [e10, ← List.append_assoc]
            exact BeastsT.exB' (All2.app (BeastsT.ex' (BeastsT.ex' s3 e9) (Ex.new hT)) (.cons ⟨TT, rfl, upd_same⟩ .nil)) (ExB.refl _ _).upd g1
        | false =>
          rw [hin, if_neg (by decide), List.append_nil] at e10
          refine ⟨s1.trans e9, us, e9 _ _ s2, ?_⟩
          rw [e10]
          exact BeastsT.ex' s3 e9
      · obtain ⟨s1, us, s2, s3⟩ := p
        rw [← tab_succ] at s3
        exact ⟨s1, us, s2, s3⟩
    · obtain ⟨r1, us, r2, r3⟩ := p
      exact q Dl us H4 (fresh_back x13 hDl) (x13.trans r1) r2 r3
theorem ok_law_dip {f : Addr} {fd : FuncData} (F : FnP K "_law_dip" s_law_dip f fd) (g : mg "_law_dip" = some (.ref f)) (b : Binds K fd ["_law_script", "_law_k"] []) (m_len : mg "len" = none) (m_abs : mg "abs" = none) (m_int : mg "int" = none) :
    Has P w K mg base 1 "_law_dip" ["_law_script", "_law_k"] (spDip K) f fd := by
  refine ⟨F.ok sc_law_dip (fun vs H Q E h => ?_) (fun cdv A outer s H vs Q E hr h => ?_), g, F.kp, b⟩
  · obtain ⟨a, k, ns, rfl, _⟩ := h
    rfl
  · obtain ⟨a, k, ns, rfl, hS, hk, q⟩ := h
    refine ⟨_, PSs.nox (pss_cons (ps_set (i := 2) sc_law_dip.nd rfl (.inl rfl) (pe_ifExp (pt_cmpR op_lt (pv 1) (pe_callB call_len_seq (by rfl) m_len PySem.boot_len (pa_cons (pv 0) pa_nil)) (nomark _)) (pe_ix ix_list (pv 0) (pv 1) (fun _ _ => rfl)) pe_int))
      (pss_one (ps_ret (pe_lst (pa_cons (pe_op op_mul (pe_callB call_abs (by rfl) m_abs (by decide +kernel) (pa_cons (pv 2) pa_nil)) (pe_callTy call_int1 (by rfl) m_int (by decide +kernel) (pa_cons (pe_cmpR op_ge (pe_callB call_abs (by rfl) m_abs (by decide +kernel) (pa_cons (pv 2) pa_nil)) (pe_op op_pow pe_int pe_int) (nomark _)) pa_nil))) (pa_cons (pe_op op_add (pe_op op_add (pe_op op_modN (pv 2) pe_int) (pe_op op_mul pe_int (pv 1))) pe_int) (pa_cons pe_int pa_nil))))))), ?_⟩
    refine q_asg (v := .int (ns.getD k 0)) (ev_if (b := decide ((k : Int) < ((ns.map V.int).length : Int))) (et_test (ev_op (ev_var rfl) (ev_len (ev_var rfl) hS) rv_I0)) (fun hd => ?_) (fun hd => ?_)) fun H1 e1 => ?_
    · have hk2 : k < ns.length := by
        have := of_decide_eq_true hd
        rw [List.length_map] at this
        omega
      have e : (ns.map V.int)[k]? = some (.int (ns.getD k 0)) := by
        rw [List.getElem?_map, List.getElem?_eq_getElem hk2, List.getD_eq_getElem?_getD, List.getElem?_eq_getElem hk2] <;> rfl
      exact ev_op (ev_var rfl) (ev_var rfl) (rv_ixL hS (atI_nat e))
    · have hk2 : ns.length ≤ k := by
        have := of_decide_eq_false hd
        rw [List.length_map] at this
        omega
      refine ev_is ev_c ?_
      rw [List.getD_eq_getElem?_getD, List.getElem?_eq_none hk2] <;> rfl
    · generalize ns.getD k 0 = c
      have r1 := fmod_lo (a := c) (show (0 : Int) < 2305843009213693951 by decide)
      have r2 := fmod_hi (a := c) (show (0 : Int) < 2305843009213693951 by decide)
      refine s_retL (el_lst (ea_cons (ev_op (ev_cb (ea_cons (ev_var rfl) ea_nil) rc_abs) (ev_cb (ea_cons (ev_op (ev_cb (ea_cons (ev_var rfl) ea_nil) rc_abs) (ev_op ev_c ev_c (rv_I ⟨by decide, by decide, by decide⟩)) rv_I0) ea_nil) rc_intB) (rv_I (.inr ?_))) (ea_cons (ev_op (ev_op (ev_op (ev_var rfl) ev_c (rv_I (by decide))) (ev_op ev_c (ev_var rfl) (rv_I (.inl ⟨by decide, by decide⟩))) rv_I0) ev_c rv_I0) (ea_cons ev_c ea_nil))) (by show 3 ≤ 100000; decide)) fun p H2 hp e2 h2 => ?_
      · exact b01 _
      · refine q p H2 (fresh_back e1 hp) (e1.trans e2) ⟨_, _, _, h2, ?_, by omega, by omega, by decide, by decide⟩
        refine Int.mul_nonneg ?_ ?_
        · split <;> omega
        · exact b01n _
theorem ok_law_take {f : Addr} {fd : FuncData} (F : FnP K "_law_take" s_law_take f fd) (g : mg "_law_take" = some (.ref f)) (b : Binds K fd ["_law_box", "_law_many"] []) : Has P w K mg base 1 "_law_take" ["_law_box", "_law_many"] spTake f fd := by
  refine ⟨F.ok sc_law_take (fun vs H Q E h => ?_) (fun cdv A outer s H vs Q E hr h => ?_), g, F.kp, b⟩
  · obtain ⟨p, m, n, rfl, _⟩ := h
    rfl
  · obtain ⟨p, m, n, rfl, hm, hm2, ⟨a, b, c, hb, ha, hb0, hb1, hc0, hc1⟩, hn, q⟩ := h
    refine ⟨_, PSs.nox (pss_cons (ps_if (pt_cmpR op_gt (pe_ix ix_list (pv 0) pe_int (fun _ _ => rfl)) pe_int (nomark _)) (pss_cons (ps_set (i := 2) sc_law_take.nd rfl (.inl rfl) (pe_op op_modN (pe_ix ix_list (pv 0) pe_int (fun _ _ => rfl)) (pv 1)))
      (pss_cons (ps_asg (pe_op op_fdivW (pe_ix ix_list (pv 0) pe_int (fun _ _ => rfl)) (pv 1)) (pg_sub (pv 0) pe_int set_list))
      (pss_one (ps_ret (pv 2))))) pss_nil)
      (pss_cons (ps_asg (pe_op op_add (pe_ix ix_list (pv 0) pe_int (fun _ _ => rfl)) pe_int) (pg_sub (pv 0) pe_int set_list))
      (pss_cons (ps_set (i := 3) sc_law_take.nd rfl (.inl rfl) (pe_op op_modN (pe_op op_powW (pe_op op_add (pe_ix ix_list (pv 0) pe_int (fun _ _ => rfl)) (pe_op op_mul pe_int (pe_ix ix_list (pv 0) pe_int (fun _ _ => rfl)))) pe_int) pe_int))
      (pss_cons (ps_set (i := 4) sc_law_take.nd rfl (.inl rfl) (pe_op op_modN (pe_op op_mulW (pe_op op_add (pe_op op_add (pv 3) (pe_ix ix_list (pv 0) pe_int (fun _ _ => rfl))) (pe_op op_fdivW (pe_ix ix_list (pv 0) pe_int (fun _ _ => rfl)) pe_int)) (pe_op op_add (pe_op op_add (pe_op op_modN (pv 3) pe_int) pe_int) (pe_ix ix_list (pv 0) pe_int (fun _ _ => rfl)))) pe_int))
      (pss_one (ps_ret (pe_op op_modN (pe_op op_fdivW (pe_op op_modN (pe_op op_add (pe_op op_mul (pv 4) pe_int) (pv 3)) pe_int) pe_int) (pv 1)))))))), ?_⟩
    refine q_when (b := decide (a > 0)) (et_B (ev_op (ev_op (ev_var rfl) ev_c (rv_ixL (sq_of hb) rfl)) ev_c rv_I0)) (fun hd H1 e1 => ?_) (fun hd H1 e1 => ?_)
    · have hb1' := e1 _ _ hb
      refine q_asg (ev_op (ev_op (ev_var rfl) ev_c (rv_ixL (sq_of hb1') rfl)) (ev_var rfl) (rv_I (show m ≠ 0 by omega))) fun H2 e2 => ?_
      have hb2' := e2 _ _ hb1'
      refine q_setL (j := 0) hb2' (ev_op (ev_op (ev_var rfl) ev_c (rv_ixL (sq_of hb2') rfl)) (ev_var rfl) (rv_I (divW_ok hm hm2))) (ev_var rfl) ev_c (by show 0 < 3; decide) fun H3 e3 => ?_
      refine s_ret (ev_var rfl) fun H4 e4 => ?_
      refine q _ H4 (fmod_lo hm) (fmod_hi hm) (((ExB.of ((e1.trans e2).trans e3)).upd).trans (.of e4)) ⟨a / m, b, c, e4 _ _ upd_same, Int.ediv_nonneg ha (by omega), hb0, hb1, hc0, by omega⟩
    · have hb1' := e1 _ _ hb
      refine q_setL (j := 2) hb1' (ev_op (ev_op (ev_var rfl) ev_c (rv_ixL (sq_of hb1') rfl)) ev_c rv_I0) (ev_var rfl) ev_c (by show 2 < 3; decide) fun H2 e2 => ?_
      have hx : upd H2 p (.lst ([V.int a, .int b, .int c].set 2 (.int (c + 1)))) p = some (.lst [V.int a, .int b, .int (c + 1)]) := upd_same
      have eb : ExB p H (upd H2 p (.lst ([V.int a, .int b, .int c].set 2 (.int (c + 1))))) := (ExB.of (e1.trans e2)).upd
      generalize upd H2 p (.lst ([V.int a, .int b, .int c].set 2 (.int (c + 1)))) = H3 at hx eb ⊢
      have hlim : c + 1 ≤ (Lim : Int) + 1 := by omega
      have g1 : CPowW (b + 39373 * (c + 1)) 5 := pow_ok (big_of (by omega) hlim 39373 b (by decide) (by decide) hb0 (by omega))
      have r1 := fmod_lo (a := (b + 39373 * (c + 1)) ^ (5 : Int).toNat) (show (0 : Int) < 2147483647 by decide)
      have r2 := fmod_hi (a := (b + 39373 * (c + 1)) ^ (5 : Int).toNat) (show (0 : Int) < 2147483647 by decide)
      refine q_asg (v := .int (((b + 39373 * (c + 1)) ^ (5 : Int).toNat).fmod 2147483647)) (ev_op (ev_op (ev_op (ev_op (ev_var rfl) ev_c (rv_ixL (sq_of hx) rfl)) (ev_op ev_c (ev_op (ev_var rfl) ev_c (rv_ixL (sq_of hx) rfl)) (rv_I (.inl ⟨by decide, by decide⟩))) rv_I0) ev_c (rv_I g1)) ev_c (rv_I (by decide))) fun H4 e4 => ?_
      generalize ((b + 39373 * (c + 1)) ^ (5 : Int).toNat).fmod 2147483647 = o at r1 r2 ⊢
      have hx4 := e4 _ _ hx
      have d0 : 0 ≤ b / 1000003 := by omega
      have d1 : b / 1000003 ≤ b := by omega
      have g2 : CMulW (o + (c + 1) + b / 1000003) (o.fmod 40009 + 7 + (c + 1)) := by
        have s1 := fmod_lo (a := o) (show (0 : Int) < 40009 by decide)
        have s2 := fmod_hi (a := o) (show (0 : Int) < 40009 by decide)
        have e1 : o + (c + 1) + b / 1000003 = (o + b / 1000003) + 1 * (c + 1) := by omega
        have e2 : o.fmod 40009 + 7 + (c + 1) = (o.fmod 40009 + 7) + 1 * (c + 1) := by omega
        rw [e1, e2]
        exact mulW_ok (big_of (by omega) hlim 1 _ (by decide) (by decide) (by omega) (by omega)) (big_of (by omega) hlim 1 _ (by decide) (by decide) (by omega) (by omega))
      refine q_asg (ev_op (ev_op (ev_op (ev_op (ev_var rfl) (ev_op (ev_var rfl) ev_c (rv_ixL (sq_of hx4) rfl)) rv_I0) (ev_op (ev_op (ev_var rfl) ev_c (rv_ixL (sq_of hx4) rfl)) ev_c (rv_I (divW_ok (by decide) (by decide)))) rv_I0) (ev_op (ev_op (ev_op (ev_var rfl) ev_c (rv_I (by decide))) ev_c rv_I0) (ev_op (ev_var rfl) ev_c (rv_ixL (sq_of hx4) rfl)) rv_I0) (rv_I g2)) ev_c (rv_I (by decide))) fun H5 e5 => ?_
      refine s_ret (ev_op (ev_op (ev_op (ev_op (ev_op (ev_var rfl) ev_c (rv_I (.inr ⟨by decide, by decide⟩))) (ev_var rfl) rv_I0) ev_c (rv_I (by decide))) ev_c (rv_I (divW_ok (by decide) (by decide)))) (ev_var rfl) (rv_I (show m ≠ 0 by omega))) fun H6 e6 => ?_
      refine q _ H6 (fmod_lo hm) (fmod_hi hm) (eb.trans (.of ((e4.trans e5).trans e6))) ⟨a, b, c + 1, e6 _ _ (e5 _ _ hx4), ha, hb0, hb1, by omega, by omega⟩
theorem ok_law_folded {f : Addr} {fd : FuncData} (F : FnP K "_law_folded" s_law_folded f fd) (g : mg "_law_folded" = some (.ref f)) (b : Binds K fd ["_law_script", "_law_many"] []) (m_list : mg "list" = none) (m_enumerate : mg "enumerate" = none) :
    Has P w K mg base 1 "_law_folded" ["_law_script", "_law_many"] (spFolded K) f fd := by
  refine ⟨F.ok sc_law_folded (fun vs H Q E h => ?_) (fun cdv A outer s H vs Q E hr h => ?_), g, F.kp, b⟩
  · obtain ⟨a, k, ns, rfl, _⟩ := h
    rfl
  · obtain ⟨a, m, ns, rfl, hm, hm2, hS, hlen, q⟩ := h
    refine ⟨_, PSs.nox (pss_cons (ps_set (i := 2) sc_law_folded.nd rfl (.inl rfl) (pe_callTy call_list_of (by rfl) m_list (by decide +kernel) (pa_cons (pe_slice sl_list (pv 0) po_none (po_some (pv 1))) pa_nil)))
      (pss_cons (ps_for PassesOwn.never rfl (pi_enum (by rfl) m_enumerate (pa_cons (pe_slice sl_list (pv 0) (po_some (pv 1)) (po_some pe_int)) pa_nil)) (pg_tup rfl (pgs_cons (pg_name (i := 3) sc_law_folded.nd rfl (Or.inl rfl)) (pgs_cons (pg_name (i := 4) sc_law_folded.nd rfl (Or.inl rfl)) pgs_nil)))
        (pss_one (ps_asg (pe_op op_add (pe_ix ix_list (pv 2) (pe_op op_modN (pv 3) (pv 1)) (fun _ _ => rfl)) (pe_op op_mul (pv 4) (pe_op op_add (pv 3) pe_int))) (pg_sub (pv 2) (pe_op op_modN (pv 3) (pv 1)) set_list))))
      (pss_one (ps_ret (pv 2))))), ?_⟩
    refine q_asgL (el_listN (el_sl (ev_var rfl) eo_none (eo_some (ev_var rfl)) hS)) fun l H1 hl e1 h1 => ?_
    rw [cut_to, ← List.map_take] at h1
    obtain ⟨zs, hzs, hzl⟩ := cut_ints ns (some (m : Int)) (some 63)
    rw [HT.sIx_nat] at hzl
    refine q_forE (el_sl (ev_var rfl) (eo_some (ev_var rfl)) (eo_some ev_c) (ex_l e1 hS)) (fun c i σ' H' => ∃ (y3 y4 : Option V) (ms : List Int), σ' = [some (.ref a), some (.int (m : Int)), some (.ref l), y3, y4] ∧ ms.length = min m ns.length ∧ H' l = some (.lst (ms.map V.int)) ∧ H' c = some (.lst (cutV (ns.map V.int) (some (m : Int)) (some 63))) ∧ Ex H H' ∧ l ≠ c) (fun c H2 hc e2 h2 => ?_) (fun c i σ' H' hi p => ?_) (fun c i x σ' H' T hx p hT => ?_) (fun c σ' H' p => ?_)
    · exact ⟨none, none, ns.take m, rfl, by rw [List.length_take], e2 _ _ h1, h2, e1.trans e2, ne_of_none h1 hc⟩
    · obtain ⟨y3, y4, ms, rfl, p1, p2, p3, p4, p5⟩ := p
      exact sq_of p3
    · obtain ⟨y3, y4, ms, rfl, p1, p2, p3, p4, p5⟩ := p
      rw [hzs, List.getElem?_map] at hx
      obtain ⟨z, hz, rfl⟩ := Option.map_eq_some_iff.mp hx
      have hi := (List.getElem?_eq_some_iff.mp hz).1
      have hms : ms.length = m := by omega
      refine ⟨T, _, rfl, st_of upd_same, rfl, _, _, rfl, _, _, rfl, rfl, ?_⟩
      have hlT : l ≠ T := ne_of_none p2 hT
      have h2 : (upd H' T (.tup [.int (i : Nat), .int z])) l = some (.lst (ms.map V.int)) := by
        rw [upd_ne hlT]
        exact p2
      have hj : i % m < ms.length := by
        rw [hms]
        exact Nat.mod_lt _ hm
      have hg : (ms.map V.int)[i % m]? = some (.int (ms[i % m])) := by
        rw [List.getElem?_map, List.getElem?_eq_getElem hj] <;> rfl
      have eI : Ev (tOp (rI (fun _ j => j ≠ 0) fun i j => .int (i.fmod j)) (tVar 3) (tVar 1)) [some (.ref a), some (.int (m : Int)), some (.ref l), some (.int (i : Nat)), some (.int z)] (upd H' T (.tup [.int (i : Nat), .int z])) (.int ((i % m : Nat) : Int)) := ev_is (ev_op (ev_var rfl) (ev_var rfl) (rv_I (show (m : Int) ≠ 0 by omega))) (by rw [fmod_nat])
      refine s_setL (j := i % m) h2 (ev_op (ev_op (ev_var rfl) eI (rv_ixL (sq_of h2) (atI_nat hg))) (ev_op (ev_var rfl) (ev_op (ev_var rfl) ev_c rv_I0) (rv_I (.inr ?_))) rv_I0) (ev_var rfl) eI (by rw [List.length_map]; exact hj) fun H3 e3 => ?_
      · have : zs.length ≤ 63 := by omega
        exact ⟨by omega, by omega⟩
      · refine ⟨some (.int (i : Nat)), some (.int z), ms.set (i % m) (ms[i % m] + z * ((i : Int) + 2)), rfl, by rw [List.length_set]; exact p1, ?_, ?_, ?_, p5⟩
        · rw [upd_same, List.map_set]
        · rw [upd_ne (Ne.symm p5)]
          exact e3 _ _ (Ex.new hT _ _ p3)
        · exact Ex.mut ((p4.trans (Ex.new hT)).trans e3) hl
    · obtain ⟨y3, y4, ms, rfl, p1, p2, p3, p4, p5⟩ := p
      exact s_ret (ev_var rfl) fun H2 e2 => q l H2 ms hl (p4.trans e2) (by omega) (e2 _ _ p2)
end
end K77
set_option maxHeartbeats 4000000
namespace HH
open PySem PySem.Spec PyProof.Rows L2 Evl RZ
def sg (c : Nat) : V := .str ⟨#[c]⟩
def ItzS (K : PySem.W.Frag) (x : Str) (b : Addr) : It :=
  ⟨fun i H => ∃ (ys : List V) (c : Nat) (y : V), x.cps[i]? = some c ∧ SqT K H b ys ∧ ys[i]? = some y,
   fun i H v H' => ∃ T c y, v = .ref T ∧ H T = none ∧ H' = upd H T (.tup [sg c, y]) ∧ x.cps[i]? = some c ∧ (∀ ys, SqT K H b ys → ys[i]? = some y),
   fun i H => ∃ ys : List V, SqT K H b ys ∧ x.cps.size = ys.length ∧ ys.length = i⟩
def MixSs (x : Str) (t0 : Tok) (z TI TO i1 i2 b : Addr) (i : Nat) (h : Heap) : Prop := IsZip h z TI TO .none ∧ IsTupOf2 h TI (.ref i1) (.ref i2) ∧ (∃ x y, IsTupOf2 h TO x y) ∧ h.IsStrIter i1 (strIterType x) x t0 i ∧ h.IsTupleIter i2 b i
theorem MixSs.objs {x : Str} {t0 : Tok} {z TI TO i1 i2 b : Addr} {i : Nat} {h : Heap} (m : MixSs x t0 z TI TO i1 i2 b i h) : ∀ c ∈ [z, TI, TO, i1, i2], ∃ ob, h.get? c = some ob ∧ ∀ v, ob.data ≠ .cell v := fun c hc => by
  obtain ⟨m1, m2, ⟨_, _, m3⟩, ⟨p1, g1, _, d1⟩, ⟨p2, g2, _, d2⟩⟩ := m
  rcases five hc with rfl | rfl | rfl | rfl | rfl
  · exact ⟨_, m1, fun v q => by cases q⟩
  · exact ⟨_, m2, fun v q => by cases q⟩
  · exact ⟨_, m3, fun v q => by cases q⟩
  · exact ⟨p1, g1, fun v q => by rw [d1] at q; cases q⟩
  · exact ⟨p2, g2, fun v q => by rw [d2] at q; cases q⟩
theorem strIter_at {h h' : Heap} {it : Addr} {ty : String} {x : Str} {t : Tok} {i : Nat} (st : h.IsStrIter it ty x t i) (k : ∀ o, h.get? it = some o → h'.get? it = some o) : h'.IsStrIter it ty x t i := by
  obtain ⟨o, ho, r⟩ := st
  exact ⟨o, k o ho, r⟩
theorem turn_zipS {P : Program} {w : World} {K : PySem.W.Frag} {elts : List Expr} {kk : Nat} {tpos : Pos} {x : Str} {t0 : Tok} {b z TI TO i1 i2 : Addr} (S : ZipSep2 z TI TO i1 i2 [i1] [i2, b]) (nb : b ≠ i2) :
    Turn P w K (.Tuple elts kk tpos) (ItzS K x b) [z, TI, TO, i1, i2] z (MixSs x t0 z TI TO i1 i2 b) where
  mem := List.mem_cons_self ..
  obj := fun i h st c hc => st.objs c hc
  keep := fun i h h' st k => by
    obtain ⟨m1, m2, ⟨x, y, m3⟩, m4, m5⟩ := st
    exact ⟨k z (by simp) _ m1, k TI (by simp) _ m2, ⟨x, y, k TO (by simp) _ m3⟩, strIter_at m4 fun o q => k i1 (by simp) o q, m5.at fun o q => k i2 (by simp) o q⟩
  item := by
    intro X eP eW eK hc i pins st σ H E inv free mix goes
    subst eP eW eK
    obtain ⟨m1, m2, ⟨x0, y0, m3⟩, m4, m5⟩ := id mix
    obtain ⟨ys, c0, y, hx, hys, hy⟩ := goes
    obtain ⟨vy, ry, py, _⟩ := inv.tuple hys
    obtain ⟨t, htt, rt⟩ := ry.get hy
    have old : ∀ c ∈ [z, TI, TO, i1, i2], c < st.heap.objs.size := fun c hcm => by
      obtain ⟨ob, got, _⟩ := mix.objs c hcm
      exact Heap.lt_size got
    have py' : st.heap.IsTuple b vy.toArray := py
    refine wpAny_pyNext_zipD2_item S (Draws.text (A := X.A.in1) (inv.ok.hd hc) i1 x t0) (Draws.tuple (A := X.A.in1) (inv.ok.hd hc) i2 b nb vy.toArray) m1 m2 m3 m4 ⟨m5, py'⟩ (Array.getElem?_eq_some_iff.mp hx).1 (by have := (List.getElem?_eq_some_iff.mp htt).1; simpa using this) fun y1 y2 h' tk hy1 hy2 z' TO' s1' s2' hT hsz hk => ?_
    obtain ⟨c1, u1, hc1, e1⟩ := hy1
    have ec : c1 = c0 := Option.some.inj (hc1.symm.trans hx)
    have e2 : y2 = t := by
      have hh : vy.toArray[i]? = some t := by simpa using htt
      exact Option.some.inj (hy2.symm.trans hh)
    subst e1 e2 ec
    refine ⟨_, rfl, wpAny_letOwnedTupleGo_zip (s := { st with heap := h', toks := tk }) z' fun g z2 but => ?_⟩
    have zlt : z < st.heap.objs.size := old z (by simp)
    have made : g.get? st.heap.objs.size = some { cls := .type "tuple", data := .seq #[.str ⟨#[c1]⟩ u1, y2] } := (but.2 _ (Nat.ne_of_gt zlt)).trans hT
    have okT : ObjOk X.prog X.w (upd H st.heap.objs.size (.tup [sg c1, y])) g st.heap.objs.size (.tup [sg c1, y]) := ⟨by show 2 ≤ sizeLine; decide, [.str ⟨#[c1]⟩ u1, y2], .cons ⟨u1, rfl⟩ (.cons rt .nil), ⟨_, made, rfl, _, rfl⟩⟩
    have inv2 : Inv X pins σ (upd H st.heap.objs.size (.tup [sg c1, y])) { st with heap := g, toks := tk } :=
      inv.turnedNew (ch := [z, TI, TO, i1, i2]) (fun c o out q => (but.2 c (fun q' => out (by simp [q']))).trans (hk c o (fun q' => out (by simp [q'])) (fun q' => out (by simp [q'])) (fun q' => out (by simp [q'])) (fun q' => out (by simp [q'])) q)) free (Nat.le_refl _) okT
    have zi1 : i1 ≠ z := fun e => S.zf1 (by rw [← e]; exact S.mem1)
    have zi2 : i2 ≠ z := fun e => S.zf2 (by rw [← e]; exact S.mem2)
    refine ⟨.ref st.heap.objs.size, _, inv2, rfl, ⟨_, c1, y, rfl, inv.hok.fresh (Nat.le_refl _), rfl, hc1, fun l hl => by rw [inv.tuple_inj hl hys]; exact hy⟩, ⟨z2, (but.2 _ S.TIz).trans (hk _ _ S.TIz S.TITO S.TIi1 S.TIi2 m2), ⟨_, y2, (but.2 _ S.TOz).trans TO'⟩, strIter_at s1' fun o q => (but.2 _ zi1).trans q, s2'.1.at fun o q => (but.2 _ zi2).trans q⟩, fun c hcm => ?_⟩
    rw [upd_ne (Nat.ne_of_lt (old c hcm))]
    exact (free c hcm).1
  done := by
    intro X eP eW eK hc i pins st σ H E inv free mix ends
    subst eP eW eK
    obtain ⟨m1, m2, ⟨x0, y0, m3⟩, m4, m5⟩ := mix
    obtain ⟨ys, hys, hl, hi⟩ := ends
    obtain ⟨vy, ry, py, _⟩ := inv.tuple hys
    have py' : st.heap.IsTuple b vy.toArray := py
    have n1 : x.cps.size = i := by omega
    have n2 : vy.toArray.size = i := by
      have := ry.length
      rw [List.size_toArray]
      omega
    exact wpAny_pyNext_zipD2_end S (Draws.text (A := X.A.in1) (inv.ok.hd hc) i1 x t0) (Draws.tuple (A := X.A.in1) (inv.ok.hd hc) i2 b nb vy.toArray) m1 m2 m3 m4 ⟨m5, py'⟩ (Nat.le_of_eq n1.symm) (Nat.le_of_eq n2.symm) (.inl n1.symm) fun h' tk hk => ⟨rfl, inv.turnedL (ch := [z, TI, TO, i1, i2]) (fun c o out q =>
      hk c o (fun q' => out (by simp [q'])) (fun q' => out (by simp [q'])) (fun q' => out (by simp [q'])) (fun q' => out (by simp [q'])) q) free⟩
  self := fun A i s Q E st h => wpAny_pyIter_zip st.1 h
def iZipS (K : PySem.W.Frag) (ta : TA) : TI := fun σ H R => ta σ H fun vs H1 => ∃ x b ys, vs = [.str x, .ref b] ∧ SqT K H1 b ys ∧ R (ItzS K x b) H1
theorem pi_zipS {X : Cx} {e e2 : Expr} {ta : TA} {p pos tpos : Pos} {elts : List Expr} {kk : Nat} (hg : Gl X "zip") (hm : X.mg "zip" = none) (ha : PA X [e, e2] ta)
    (hs : starEach [e, e2] X.env = (false, eval e X.env) :: starEach [e2] X.env := by rfl) (hpl : (backTo pos (starEach [e2] X.env)).any (·.1) = false := by rfl) : PI X (.Tuple elts kk tpos) (.Call (.Name "zip" p) [e, e2] [] pos) (iZipS X.K ta) := by
  refine ⟨fun pins st σ H R inv h => ?_⟩
  refine Call_ (ld_blt inv hg hm PyProof.Rows.boot_zip (PyProof.Rows.callWith_type1 (thn (ha.run pos pins st σ H _ inv h) fun us s1 ⟨vs, H1, I1, rel, q1⟩ => ?_) hs hpl))
  obtain ⟨x, b, ys, rfl, hys, q⟩ := q1
  cases rel with
  | cons r1 rest =>
    cases rest with
    | cons r2 rest =>
      cases rest
      cases r2
      obtain ⟨t0, rfl⟩ := (show ∃ t, _ = Value.str x t from r1)
      obtain ⟨vy, ry, py, _⟩ := I1.tuple hys
      have py' : s1.heap.IsTuple b vy.toArray := py
      have lb : b < s1.heap.objs.size := by
        obtain ⟨o2, ho2, _⟩ := py'
        exact Heap.lt_size ho2
      refine zip_begins2 (begins_text x t0) (begins_tuple b vy.toArray) trivial py' fun h' z1 t1 t2 g1 g2 hsz hk => wpAny_pyIter_zip z1 ?_
      have I2 : Inv X pins σ H1 { s1 with heap := h' } := I1.kept (t' := s1.toks) hk
      refine ⟨s1.heap.objs.size + 4, [s1.heap.objs.size + 4, s1.heap.objs.size + 2, s1.heap.objs.size + 3, s1.heap.objs.size, s1.heap.objs.size + 1], _, _, H1, rfl, I2, turn_zipS (t0 := t0) (zip_sep2 (fp1 := []) (fp2 := [b]) (fun c hc => nomatch hc) (fun c hc => ?_)) (Nat.ne_of_lt (Nat.lt_succ_of_lt lb)), ⟨z1, t1, ⟨_, _, t2⟩, ⟨_, g1, rfl, rfl⟩, ⟨_, g2, rfl, rfl⟩⟩, fun c hc => ?_, q⟩
      · rw [List.mem_singleton.mp hc]
        exact lb
      · have up : s1.heap.objs.size ≤ c := by
          rcases five hc with rfl | rfl | rfl | rfl | rfl
          · omega
          · omega
          · omega
          · exact Nat.le_refl _
          · omega
        exact I1.fpOk up (I1.hok.fresh up)
end HH
set_option maxHeartbeats 4000000
namespace HH
open PySem PySem.Spec PyProof.Rows L2 Evl RZ
section
variable {K : PySem.W.Frag} {σ : L2.St} {H : Hp} {te ta tb : TE} {v : V} {l : List Fb} {c : Int} {r : RD} {D : Ends} {tz : TS}
theorem RdAt.ex {H' : Hp} (h : RdAt K H v r) (e : Ex H H') : RdAt K H' v r := by
  obtain ⟨o, h1, h2⟩ := h
  exact ⟨o, h1, ex_t e h2⟩
theorem et_eqS {s a : Str} {r : Bool} (h : Ev te σ H (.str s)) (e : decide (V.str s = V.str a) = r) : EvT (tTest (tOp rEq te (tC (.str a)))) σ H r := et_test (ev_is (ev_op h ev_c (rv_eq rfl)) (by rw [e]))
end
def Names1 (d : FD) (wd : Str) (n : Int) (rest : List V) : Prop := (d = .leave n ∧ wd = "leave" ∧ rest = []) ∨ (∃ w, d = .over w n ∧ wd = wordO w ∧ rest = []) ∨ (∃ e, d = .feed n e ∧ wd = "feed" ∧ rest = [.int e]) ∨ (∃ t, d = .ask n t ∧ wd = "ask" ∧ rest = [.int t])
theorem Names1.facts {d : FD} {wd : Str} {n : Int} {rest : List V} (h : Names1 d wd n rest) : fdV d = .str wd :: .int n :: rest ∧ decide (V.str wd = V.str "come") = false ∧ inV (.str wd) [.str "settle", .str "unsettle"] = false := by
  rcases h with ⟨rfl, rfl, rfl⟩ | ⟨w, rfl, rfl, rfl⟩ | ⟨e, rfl, rfl, rfl⟩ | ⟨t, rfl, rfl, rfl⟩
  · exact ⟨rfl, by decide, by decide⟩
  · cases w <;> exact ⟨rfl, by decide, by decide⟩
  · exact ⟨rfl, by decide, by decide⟩
  · exact ⟨rfl, by decide, by decide⟩
theorem Names1.not {l l' : List Fb} {c : Int} {d : FD} {wd : Str} {n : Int} {rest : List V} (h : Names1 d wd n rest) (hn : n ∉ namesF l) : Due l c d (.noBeast n) l c := by
  rcases h with ⟨rfl, _, _⟩ | ⟨w, rfl, _, _⟩ | ⟨e, rfl, _, _⟩ | ⟨t, rfl, _, _⟩
  · exact .inl ⟨hn, rfl, rfl, rfl⟩
  · exact .inl ⟨hn, rfl, rfl, rfl⟩
  · exact .inl ⟨hn, rfl, rfl, rfl⟩
  · exact .inl ⟨hn, rfl, rfl, rfl⟩
section
variable {K : PySem.W.Frag} {σ : L2.St} {H : Hp} {te ta tb tc : TE}
end
def rdC (CF CM CN CP : Addr) : RD → Addr
  | .told _ => CF
  | .full => CF
  | .noPlace _ => CP
  | .noBeast _ => CN
  | .mayNot _ => CM
def rdF : RD → Str
  | .told _ => "place"
  | .full => "many"
  | .noPlace _ => "place"
  | .noBeast _ => "name"
  | .mayNot _ => "place"
def isTold : RD → Bool
  | .told _ => true
  | _ => false
end HH
set_option maxHeartbeats 4000000
namespace HH
open PySem PySem.Spec PyProof.Rows L2 Evl RZ
def wordF : FD → Str
  | .come _ _ _ => "come"
  | .leave _ => "leave"
  | .over w _ => wordO w
  | .feed _ _ => "feed"
  | .ask _ _ => "ask"
  | .settle w => wordS w
def kindsF : FD → Str
  | .come _ _ _ => "ntp"
  | .leave _ => "n"
  | .over _ _ => "n"
  | .feed _ _ => "nn"
  | .ask _ _ => "nt"
  | .settle _ => ""
def handedL : List (Str × Str) := [("come", "ntp"), ("leave", "n"), ("overtake", "n"), ("fall_back", "n"), ("feed", "nn"), ("ask", "nt"), ("settle", ""), ("unsettle", "")]
theorem hand_mem (d : FD) : (wordF d, kindsF d) ∈ handedL := by
  cases d with
  | over w n =>
    cases w with
    | true => exact (by decide : (("overtake" : Str), ("n" : Str)) ∈ handedL)
    | false => exact (by decide : (("fall_back" : Str), ("n" : Str)) ∈ handedL)
  | settle w => cases w <;> decide
  | come s t o => exact List.mem_cons_self
  | leave n => exact List.mem_cons_of_mem _ List.mem_cons_self
  | feed n e => exact List.mem_cons_of_mem _ (List.mem_cons_of_mem _ (List.mem_cons_of_mem _ (List.mem_cons_of_mem _ List.mem_cons_self)))
  | ask n t => exact List.mem_cons_of_mem _ (List.mem_cons_of_mem _ (List.mem_cons_of_mem _ (List.mem_cons_of_mem _ (List.mem_cons_of_mem _ List.mem_cons_self))))
structure Handed (K : PySem.W.Frag) (w : World) (dH : Addr) : Prop where
  kd : ∃ es n, KDict K w dH es n
  v : ∀ q ∈ handedL, ∃ u, PySem.W.nsIn K dH q.1 = some (some u) ∧ RelV (.str q.2) u
theorem Handed.get {K : PySem.W.Frag} {w : World} {dH : Addr} (h : Handed K w dH) (d : FD) : KDct K w dH (wordF d) (.str (kindsF d)) := by
  obtain ⟨es, n, D⟩ := h.kd
  obtain ⟨u, e, r⟩ := h.v _ (hand_mem d)
  exact ⟨es, n, u, D.at_, D.lit, e, r⟩
theorem pe_gref {X : Cx} {x : Str} {a : Addr} {p : Pos} (hg : Gl X x) (h : X.mg x = some (.ref a)) (hdb : (x == ("__debug__" : Str)) = false := by decide) : PE X (.Name x p) (tC (.ref a)) := pe_glob (v := .ref a) hg h rfl hdb
def spNum : Sp := fun vs H Q _ => ∃ i : Int, vs = [.int i] ∧ RetV (.bl true) H Q
def spIsHanded : Sp := fun vs H Q _ => ∃ (k : Str) (v : V), vs = [.str k, v] ∧ ((k = "p" ∧ v = .non) ∨ ∃ i : Int, v = .int i ∧ (k = "t" → 0 ≤ i)) ∧ RetV (.bl true) H Q
def spIsDeed (K : PySem.W.Frag) : Sp := fun vs H Q _ => ∃ (v : V) (d : FD), vs = [v] ∧ FDAt K H v d ∧ tollOk d ∧ RetV (.bl true) H Q
def FDs (K : PySem.W.Frag) (H : Hp) (v : V) (ds : List FD) : Prop := ∃ (a : Addr) (us : List V), v = .ref a ∧ (SqL K H a us ∨ SqT K H a us) ∧ All2 (FDAt K H) us ds
def spNoBad (K : PySem.W.Frag) : Sp := fun vs H Q _ => ∃ (v : V) (ds : List FD), vs = [v] ∧ FDs K H v ds ∧ (∀ d ∈ ds, tollOk d) ∧ ds.length ≤ 1000 ∧ RetV .non H Q
inductive DoTo : FoldS → List FD → List (Option Int) → FoldS → Prop where
  | nil (st : FoldS) : DoTo st [] [] st
  | cons {st st2 : FoldS} {d : FD} {ds : List FD} {x : Option Int} {xs : List (Option Int)} {l : List Fb} {c : Int} (h : Due st.1 st.2.1 d (.told x) l c) (r : DoTo (turnF st l c) ds xs st2) : DoTo st (d :: ds) (x :: xs) st2
theorem DoTo.snoc {st st2 : FoldS} {ds : List FD} {d : FD} {x : Option Int} {xs : List (Option Int)} {l : List Fb} {c : Int} (r : DoTo st ds xs st2) (h : Due st2.1 st2.2.1 d (.told x) l c) : DoTo st (ds ++ [d]) (xs ++ [x]) (turnF st2 l c) := by
  induction r with
  | nil st => exact .cons h (.nil _)
  | cons h0 _ ih => exact .cons h0 (ih h)
theorem DoTo.len {st st2 : FoldS} {ds : List FD} {xs : List (Option Int)} (r : DoTo st ds xs st2) : ds.length = xs.length ∧ st2.2.2.length = st.2.2.length + ds.length := by
  induction r with
  | nil st => exact ⟨rfl, rfl⟩
  | @cons st st2 d ds x xs l c h0 _ ih =>
    refine ⟨by rw [List.length_cons, List.length_cons, ih.1], ?_⟩
    have h1 := ih.2
    have h2 : (turnF st l c).2.2.length = st.2.2.length + 1 := by
      show (st.2.2 ++ [(st.1, st.2.1)]).length = _
      rw [List.length_append]
      rfl
    rw [h1, h2, List.length_cons]
    omega
theorem DoTo.ok {st st2 : FoldS} {ds : List FD} {xs : List (Option Int)} (r : DoTo st ds xs st2) (h : OkL st.1 st.2.1) (t : ∀ d ∈ ds, tollOk d) : OkL st2.1 st2.2.1 := by
  induction r with
  | nil st => exact h
  | @cons st st2 d ds x xs l c h0 _ ih => exact ih (h0.ok h (t d List.mem_cons_self)) fun e he => t e (List.mem_cons_of_mem _ he)
theorem DoTo.past {st st2 : FoldS} {ds : List FD} {xs : List (Option Int)} (r : DoTo st ds xs st2) : ∃ more, st2.2.2 ++ [(st2.1, st2.2.1)] = st.2.2 ++ (st.1, st.2.1) :: more ∧ more.length = ds.length := by
  induction r with
  | nil st => exact ⟨[], rfl, rfl⟩
  | @cons st st2 d ds x xs l c h0 _ ih =>
    obtain ⟨more, e, hl⟩ := ih
    refine ⟨(l, c) :: more, ?_, by rw [List.length_cons, List.length_cons, hl]⟩
    rw [e]
    show (st.2.2 ++ [(st.1, st.2.1)]) ++ (l, c) :: more = _
    rw [List.append_assoc]
    rfl
def partsF : FD → List V
  | .come s t o => [.int s, .int t, placeV o]
  | .leave n => [.int n]
  | .over _ n => [.int n]
  | .feed n d => [.int n, .int d]
  | .ask n t => [.int n, .int t]
  | .settle _ => []
theorem fdV_eq (d : FD) : fdV d = .str (wordF d) :: partsF d := by cases d <;> rfl
theorem parts_len (d : FD) : (kindsF d).cps.size = (partsF d).length := by cases d <;> rfl
def HdV (k : Str) (v : V) : Prop := (k = "p" ∧ v = .non) ∨ ∃ i : Int, v = .int i ∧ (k = "t" → 0 ≤ i)
theorem parts_hd {d : FD} (ht : tollOk d) : ∀ (i c : Nat) (y : V), (kindsF d).cps[i]? = some c → (partsF d)[i]? = some y → HdV ⟨#[c]⟩ y := by
  have nt : (⟨#[110]⟩ : Str) ≠ "t" := by decide
  have n1 : ∀ {c : Nat} {x : Int}, (some (110 : Nat)) = some c → HdV ⟨#[c]⟩ (.int x) := fun {c x} h => by cases h; exact .inr ⟨x, rfl, fun z => absurd z nt⟩
  cases d with
  | come s t o =>
    intro i c y hc hy
    match i, hc, hy with
    | 0, hc, hy => cases hy; exact n1 hc
    | 1, hc, hy =>
      cases hy
      have hc : some (116 : Nat) = some c := hc
      cases hc
      exact .inr ⟨t, rfl, fun _ => ht⟩
    | 2, hc, hy =>
      cases hy
      have hc : some (112 : Nat) = some c := hc
      cases hc
      cases o with
      | none => exact .inl ⟨by decide, rfl⟩
      | some p => exact .inr ⟨p, rfl, fun z => absurd z (by decide)⟩
    | i + 3, hc, hy => cases hy
  | leave n =>
    intro i c y hc hy
    match i, hc, hy with
    | 0, hc, hy => cases hy; exact n1 hc
    | i + 1, hc, hy => cases hy
  | over w n =>
    intro i c y hc hy
    match i, hc, hy with
    | 0, hc, hy => cases hy; exact n1 hc
    | i + 1, hc, hy => cases hy
  | feed n e =>
    intro i c y hc hy
    match i, hc, hy with
    | 0, hc, hy => cases hy; exact n1 hc
    | 1, hc, hy => cases hy; exact n1 hc
    | i + 2, hc, hy => cases hy
  | ask n t =>
    intro i c y hc hy
    match i, hc, hy with
    | 0, hc, hy => cases hy; exact n1 hc
    | 1, hc, hy =>
      cases hy
      have hc : some (116 : Nat) = some c := hc
      cases hc
      exact .inr ⟨t, rfl, fun _ => ht⟩
    | i + 2, hc, hy => cases hy
  | settle w =>
    intro i c y hc hy
    cases hy
section
variable {K : PySem.W.Frag} {σ : L2.St} {H : Hp} {tk ts : TE} {x : Str} {ys : List V} {a1 a2 : Option V}
theorem walk_zipS {b : Addr} (hl : x.cps.size = ys.length) : Walk (ItzS K x b) ys.length (fun H => SqT K H b ys) (YPair (fun i => (x.cps[i]?).map sg) (fun i => ys[i]?)) := by
  refine ⟨fun i _ hi g => ⟨ys, x.cps[i], ys[i], Array.getElem?_eq_getElem (by omega), g, List.getElem?_eq_getElem hi⟩, fun _ g => ⟨ys, g, hl, rfl⟩, fun i H v H' _ g y => ?_⟩
  obtain ⟨T, c, z, h1, h2, h3, h4, h5⟩ := y
  exact ⟨T, sg c, z, h1, h2, h3, by (show (x.cps[i]?).map sg = some (sg c)); rw [h4]; rfl, h5 ys g⟩
theorem el_handed (hk : Ev tk [a1, a2, none, none] H (.str x)) (hs : ∀ H1, Ex H H1 → ∀ Q : VK, (∀ b H2, Ex H1 H2 → SqT K H2 b ys → Q (.ref b) H2) → ts [a1, a2, none, none] H1 Q) (hl : x.cps.size = ys.length) (hz : ys.length ≤ 1000) (hd : ∀ (i c : Nat) (y : V), x.cps[i]? = some c → ys[i]? = some y → HdV ⟨#[c]⟩ y) :
    EvL (tLc (iZipS K (tCons tk (tCons ts tNil))) (gTup K 2 (gCons (gName 2) (gCons (gName 3) gNil))) tYes (tCall spIsHanded [] E0 (tCons (tVar 2) (tCons (tVar 3) tNil))) [2, 3]) [a1, a2, none, none] H ((List.replicate ys.length true).map V.bl) := fun H0 e Q q =>
  hk H0 e _ fun H1 e1 => hs H1 (e.trans e1) _ fun b H2 e2 hb => ⟨x, b, ys, rfl, hb, fun Dl hD => by
    refine lc_it (walk_zipS hl) (fun i H3 => Ex H2 H3 ∧ H3 Dl = some (.lst ((List.replicate i true).map V.bl))) ⟨Ex.new hD, upd_same⟩ (fun i H3 _ p => ex_t p.1 hb) (fun i v H3 H4 hi p y => ?_) (fun H3 p => q Dl H3 (fresh_back (e1.trans e2) hD) ((e1.trans e2).trans p.1) p.2)
    obtain ⟨T, u, w, rfl, nT, rfl, hu, hw⟩ := y
    obtain ⟨c, hc, rfl⟩ := Option.map_eq_some_iff.mp hu
    refine ⟨T, [sg c, w], rfl, st_of upd_same, rfl, sg c, [w], rfl, w, [], rfl, rfl, rfl, ?_⟩
    show tCall spIsHanded [] E0 (tCons (tVar 2) (tCons (tVar 3) tNil)) _ _ _
    have e3 : Ex H2 (upd H3 T (.tup [sg c, w])) := p.1.trans (Ex.new nT)
    refine ⟨sg c, rfl, w, rfl, _, w, rfl, hd i c w hc hw, fun H5 e5 => ⟨_, e5 _ _ ((Ex.new nT) _ _ p.2), ?_, ?_, ?_⟩⟩
    · rw [List.length_map, List.length_replicate]
      exact sz_lt (by omega)
    · exact Ex.mut (e3.trans e5) hD
    · rw [upd_same, List.replicate_succ', List.map_append]
      rfl⟩
theorem ev_tail {a : Addr} {te : TE} {v : V} (h : Ev te σ H (.ref a)) (ha : SqT K H a (v :: ys)) : ∀ H1, Ex H H1 → ∀ Q : VK, (∀ b H2, Ex H1 H2 → SqT K H2 b ys → Q (.ref b) H2) → tSl (rSlA K) te (tPart (tC (.int 1))) tNoPart σ H1 Q := fun H1 e Q q => h H1 e _ fun H2 e2 => by
  have c1 : HT.sIx (v :: ys).length 0 (some 1) = 1 := by
    have := HT.sIx_nat (v :: ys).length 0 1
    rw [List.length_cons] at this ⊢
    exact this.trans (by omega)
  have cv : cutV (v :: ys) (some 1) none = ys := by
    unfold cutV
    rw [c1, HT.sIx_none]
    show (ys.take _) = ys
    rw [List.take_of_length_le (by rw [List.length_cons]; omega)]
  refine ⟨1, rfl, a, v :: ys, rfl, ex_t (e.trans e2) ha, fun z => ?_, fun _ p hp => ?_⟩
  · rw [c1] at z
    exact absurd z.1 (by decide)
  · rw [cv]
    exact q p _ (e2.trans (Ex.new hp)) (st_of upd_same)
end
end HH
set_option maxHeartbeats 4000000
namespace HH
open PySem PySem.Spec PyProof.Rows L2 Evl RZ
section
variable {K : PySem.W.Frag} {σ : L2.St} {H H' : Hp} {te ta tb t2 : TE} {v : V} {l : List Fb} {c : Int} {p : Addr} {zs : List V} {C a dx pl ml : Addr} {st : FoldS}
theorem LineAt.exB (h : LineAt K H v l) (e : ExB p H H') (hp : H p = some (.lst zs)) : LineAt K H' v l := by
  obtain ⟨a, us, rfl, h1, h2⟩ := h
  exact ⟨a, us, rfl, e.t hp h1, All2.mono (fun _ _ ⟨t, z, g⟩ => ⟨t, z, e.t hp g⟩) h2⟩
theorem PastAt.exB {x : List Fb × Int} (h : PastAt K H v x) (e : ExB p H H') (hp : H p = some (.lst zs)) : PastAt K H' v x := by
  obtain ⟨t, lv, h1, h2, h3⟩ := h
  exact ⟨t, lv, h1, e.t hp h2, h3.exB e hp⟩
theorem FDAt.exB {d : FD} (h : FDAt K H v d) (e : ExB p H H') (hp : H p = some (.lst zs)) : FDAt K H' v d := by
  obtain ⟨t, h1, h2⟩ := h
  exact ⟨t, h1, e.t hp h2⟩
theorem RdAt.exB {d : RD} (h : RdAt K H v d) (e : ExB p H H') (hp : H p = some (.lst zs)) : RdAt K H' v d := by
  obtain ⟨t, h1, h2⟩ := h
  exact ⟨t, h1, e.t hp h2⟩
theorem FoldAt.exB (h : FoldAt K H C a dx pl ml st) (e : ExB p H H') (hp : H p = some (.lst zs)) (n2 : pl ≠ p) (n3 : ml ≠ p) : FoldAt K H' C a dx pl ml st := by
  obtain ⟨lv, ps, h1, h2, h3, h4, ms, h5⟩ := h
  have n1 : a ≠ p := fun z => by rw [z, hp] at h1; cases h1
  exact ⟨lv, ps, e _ _ n1 h1, h2.exB e hp, e _ _ n2 h3, All2.mono (fun _ _ g => PastAt.exB g e hp) h4, ms, e _ _ n3 h5⟩
variable {p1 p2 : Addr} {z1 z2 : List V} {us : List V} {ds : List PyData}
end
theorem EndW.eq {w : Bool} {rs : HH.Row} {L L' : List Cow} (ht : ∀ b ∈ rs, 0 ≤ b.2) (h : EndW w (tag 0 rs) L) (h' : EndW w (tag 0 rs) L') : L' = L := by
  cases w with
  | true => exact one_nf _ (good_tag ht) (Nat.le_refl _) h'.1 h'.2 h.1 h.2
  | false => exact one_ff _ (fgood_tag ht) (Nat.le_refl _) h'.1 h'.2 h.1 h.2
theorem At1.eq {l : List Fb} {n : Int} {i j : Nat} (h : At1 l n i) (g : At1 l n j) : i = j := by
  rcases Nat.lt_trichotomy i j with z | z | z
  · exact absurd h.1 (g.2 i z)
  · exact z
  · exact absurd g.1 (h.2 j z)
theorem At1.mem {l : List Fb} {n : Int} {i : Nat} (h : At1 l n i) : n ∈ namesF l := List.mem_of_getElem? h.1
theorem Due.one {l l1 l2 : List Fb} {c c1 c2 : Int} {d : FD} {r1 r2 : RD} (ht : ∀ b ∈ rowF l, 0 ≤ b.2) (h : Due l c d r1 l1 c1) (g : Due l c d r2 l2 c2) : r1 = r2 ∧ l1 = l2 ∧ c1 = c2 := by
  cases d with
  | come s t o =>
    rcases h with ⟨a1, rfl, rfl, rfl⟩ | ⟨a1, a2, rfl, rfl, rfl⟩ | ⟨a1, i, a2, a3, rfl, rfl, rfl⟩ <;> rcases g with ⟨b1, rfl, rfl, rfl⟩ | ⟨b1, b2, rfl, rfl, rfl⟩ | ⟨b1, j, b2, b3, rfl, rfl, rfl⟩ <;> first | exact ⟨rfl, rfl, rfl⟩ | omega | skip
    have : i = j := by omega
    subst this
    exact ⟨rfl, rfl, rfl⟩
  | settle w =>
    obtain ⟨L, a1, rfl, rfl, rfl, _⟩ := h
    obtain ⟨L', b1, rfl, rfl, rfl, _⟩ := g
    have := a1.eq ht b1
    subst this
    exact ⟨rfl, rfl, rfl⟩
  | leave n =>
    rcases h with ⟨a1, rfl, rfl, rfl⟩ | ⟨i, a1, rfl, rfl, rfl⟩ <;> rcases g with ⟨b1, rfl, rfl, rfl⟩ | ⟨j, b1, rfl, rfl, rfl⟩
    · exact ⟨rfl, rfl, rfl⟩
    · exact absurd b1.mem a1
    · exact absurd a1.mem b1
    · have := a1.eq b1
      subst this
      exact ⟨rfl, rfl, rfl⟩
  | feed n e =>
    rcases h with ⟨a1, rfl, rfl, rfl⟩ | ⟨i, x, a1, a2, rfl, rfl, rfl⟩ <;> rcases g with ⟨b1, rfl, rfl, rfl⟩ | ⟨j, y, b1, b2, rfl, rfl, rfl⟩
    · exact ⟨rfl, rfl, rfl⟩
    · exact absurd b1.mem a1
    · exact absurd a1.mem b1
    · have := a1.eq b1
      subst this
      rw [a2] at b2
      cases b2
      exact ⟨rfl, rfl, rfl⟩
  | ask n t =>
    rcases h with ⟨a1, rfl, rfl, rfl⟩ | ⟨i, x, a1, a2, rfl, rfl, rfl⟩ <;> rcases g with ⟨b1, rfl, rfl, rfl⟩ | ⟨j, y, b1, b2, rfl, rfl, rfl⟩
    · exact ⟨rfl, rfl, rfl⟩
    · exact absurd b1.mem a1
    · exact absurd a1.mem b1
    · have := a1.eq b1
      subst this
      rw [a2] at b2
      cases b2
      exact ⟨rfl, rfl, rfl⟩
  | over w n =>
    rcases h with ⟨a1, rfl, rfl, rfl⟩ | ⟨i, a1, h⟩ <;> rcases g with ⟨b1, rfl, rfl, rfl⟩ | ⟨j, b1, g⟩
    · exact ⟨rfl, rfl, rfl⟩
    · exact absurd b1.mem a1
    · exact absurd a1.mem b1
    · have := a1.eq b1
      subst this
      rcases h with ⟨a2, rfl, rfl, rfl⟩ | ⟨a2, x, a3, rfl, rfl, rfl⟩ <;> rcases g with ⟨b2, rfl, rfl, rfl⟩ | ⟨b2, y, b3, rfl, rfl, rfl⟩
      · exact ⟨rfl, rfl, rfl⟩
      · rw [a2] at b2; cases b2
      · rw [a2] at b2; cases b2
      · rw [a3] at b3
        cases b3
        exact ⟨rfl, rfl, rfl⟩
theorem Due.same {l l1 : List Fb} {c c1 : Int} {d : FD} {r1 : RD} (h : Due l c d r1 l1 c1) (hr : isTold r1 = false) : l1 = l ∧ c1 = c := by
  cases d with
  | come s t o => rcases h with ⟨a1, rfl, rfl, rfl⟩ | ⟨a1, a2, rfl, rfl, rfl⟩ | ⟨a1, i, a2, a3, rfl, rfl, rfl⟩ <;> first | exact ⟨rfl, rfl⟩ | cases hr
  | settle w =>
    obtain ⟨L, a1, rfl, rfl, rfl, _⟩ := h
    cases hr
  | leave n => rcases h with ⟨a1, rfl, rfl, rfl⟩ | ⟨i, a1, rfl, rfl, rfl⟩ <;> first | exact ⟨rfl, rfl⟩ | cases hr
  | feed n e => rcases h with ⟨a1, rfl, rfl, rfl⟩ | ⟨i, x, a1, a2, rfl, rfl, rfl⟩ <;> first | exact ⟨rfl, rfl⟩ | cases hr
  | ask n t => rcases h with ⟨a1, rfl, rfl, rfl⟩ | ⟨i, x, a1, a2, rfl, rfl, rfl⟩ <;> first | exact ⟨rfl, rfl⟩ | cases hr
  | over w n =>
    rcases h with ⟨a1, rfl, rfl, rfl⟩ | ⟨i, a1, ⟨a2, rfl, rfl, rfl⟩ | ⟨a2, x, a3, rfl, rfl, rfl⟩⟩ <;> first | exact ⟨rfl, rfl⟩ | cases hr
theorem Due.fresh {l l1 : List Fb} {c c1 : Int} {d : FD} {r1 : RD} (h : Due l c d r1 l1 c1) : c1 ≤ c + 1 := by
  cases d with
  | come s t o => rcases h with ⟨a1, rfl, rfl, rfl⟩ | ⟨a1, a2, rfl, rfl, rfl⟩ | ⟨a1, i, a2, a3, rfl, rfl, rfl⟩ <;> omega
  | settle w =>
    obtain ⟨L, a1, rfl, rfl, rfl, _⟩ := h
    omega
  | leave n => rcases h with ⟨a1, rfl, rfl, rfl⟩ | ⟨i, a1, rfl, rfl, rfl⟩ <;> omega
  | feed n e => rcases h with ⟨a1, rfl, rfl, rfl⟩ | ⟨i, x, a1, a2, rfl, rfl, rfl⟩ <;> omega
  | ask n t => rcases h with ⟨a1, rfl, rfl, rfl⟩ | ⟨i, x, a1, a2, rfl, rfl, rfl⟩ <;> omega
  | over w n =>
    rcases h with ⟨a1, rfl, rfl, rfl⟩ | ⟨i, a1, ⟨a2, rfl, rfl, rfl⟩ | ⟨a2, x, a3, rfl, rfl, rfl⟩⟩ <;> omega
end HH
set_option maxHeartbeats 4000000
namespace HH
open PySem PySem.Spec PyProof.Rows L2 Evl RZ
def paidOf (l : List Fb) (x : Int) : Int := ((l.find? fun b => b.1 == x).map (·.2.2.2)).getD 0
theorem paid_of : ∀ {l : List Fb} {b : Fb}, (namesF l).Nodup → b ∈ l → paidOf l b.1 = b.2.2.2
  | [], b, _, hb => by cases hb
  | x :: l, b, nd, hb => by
    have nd := List.nodup_cons.mp nd
    unfold paidOf
    rw [List.find?_cons]
    rcases List.mem_cons.mp hb with rfl | hb
    · rw [show (b.1 == b.1) = true from beq_self_eq_true _]
      rfl
    · have ne : x.1 ≠ b.1 := fun z => nd.1 (by show x.1 ∈ _; rw [z]; exact List.mem_map_of_mem (f := fun b : Fb => b.1) hb)
      rw [show (x.1 == b.1) = false from by simpa using ne]
      exact paid_of nd.2 hb
theorem led_names {l : List Fb} {L : List Cow} (e : ∀ x ∈ L.map (·.1), x < l.length) : namesF (L.map (mvC l)) = L.map fun c => (namesF l).getD c.1 0 := by
  unfold namesF
  rw [List.map_map]
  refine List.map_congr_left fun cw hc => ?_
  have := e cw.1 (List.mem_map_of_mem (f := (·.1)) hc)
  show (mvF l cw.1 cw.2).1 = _
  unfold mvF
  rw [List.getElem?_eq_getElem this, List.getD_eq_getElem?_getD, List.getElem?_map, List.getElem?_eq_getElem this]
  rfl
section
variable {K : PySem.W.Frag} {σ : L2.St} {H : Hp} {te ta t2 : TE} {D : Ends} {tz : TS} {g : TG} {t : TT} {vs : List Nat} {Q : VK}
end
end HH
set_option maxHeartbeats 4000000
namespace HH
open PySem PySem.Spec PyProof.Rows L2 Evl RZ
def spInitL (K : PySem.W.Frag) (C : Addr) : Sp := fun vs H Q _ => ∃ (a dx : Addr) (rv : V) (rs : HH.Row), vs = [.ref a, rv] ∧ FoldC K C ∧ H a = some (.ins C dx []) ∧ RowAt K H rv rs ∧ rs.length ≤ 1000 ∧
  ∀ pl ml H', H pl = none → H ml = none → a ≠ pl → ml ≠ pl → ml ≠ a → (∀ c o, c ≠ a → H c = some o → H' c = some o) → FoldAt K H' C a dx pl ml (startF rs, (rs.length : Int), []) → H' ml = some (.lst []) → Q .non H'
section
variable {K : PySem.W.Frag} {C a dx pl ml p : Addr} {σ : L2.St} {te : TE} {st : FoldS} {H H' H0 H1 H2 : Hp} {v : V} {E : XK} {rs : HH.Row}
theorem mk_foldL {Q : VK} (fc : FoldC K C) (h : EvR K te σ H rs) (hl : rs.length ≤ 1000)
    (k : ∀ a dx pl ml H1, H a = none → H pl = none → H ml = none → a ≠ pl → ml ≠ pl → ml ≠ a → Ex H H1 → FoldAt K H1 C a dx pl ml (startF rs, (rs.length : Int), []) → H1 ml = some (.lst []) → Q (.ref a) H1) : tMake C (spInitL K C) [] E (tCons te tNil) σ H Q :=
  h H (Ex.refl H) _ fun v H1 e1 hv => fun x dx hx hdx nx => by
    have i1 : (upd (upd H1 dx (.own x)) x (.ins C dx [])) x = some (.ins C dx []) := upd_same
    have x1 : Ex H1 (upd (upd H1 dx (.own x)) x (.ins C dx [])) := (Ex.new hdx).trans (Ex.new (by rw [upd_ne nx.symm]; exact hx))
    refine ⟨x, dx, v, rs, rfl, fc, i1, hv.ex x1, hl, fun pl ml H2 hpl hml n1 n2 n3 e2 hf hm => ⟨rfl, ?_⟩⟩
    have ex : Ex H H2 := fun c o z => e2 c o (fun w => by
      have := e1 c o z
      rw [w, hx] at this
      cases this) (x1 _ _ (e1 c o z))
    exact k x dx pl ml H2 (fresh_back e1 hx) (fresh_back (e1.trans x1) hpl) (fresh_back (e1.trans x1) hml) n1 n2 n3 ex hf hm
theorem exb_f (x : ExB p H0 H1) (ha : H0 a = none) (hp : H0 pl = none) (e : ExF a pl H1 H2) : ExB p H0 H2 := fun c o n h => e c o (fun z => by rw [z, ha] at h; cases h) (fun z => by rw [z, hp] at h; cases h) (x c o n h)
theorem Bx.exF {n : Nat} (h : Bx H p n) (e : ExF a pl H H') (n1 : p ≠ a) (n2 : p ≠ pl) : Bx H' p n := by
  obtain ⟨x, y, z, h1, h2⟩ := h
  exact ⟨x, y, z, e _ _ n1 n2 h1, h2⟩
theorem FDAt.exF {d : FD} {lv : List (Str × V)} {ps : List V} (h : FDAt K H v d) (e : ExF a pl H H') (ha : H a = some (.ins C dx lv)) (hp : H pl = some (.lst ps)) : FDAt K H' v d := by
  obtain ⟨t, h1, h2⟩ := h
  exact ⟨t, h1, sqt_exF h2 e ha hp⟩
theorem RdAt.exF {d : RD} {lv : List (Str × V)} {ps : List V} (h : RdAt K H v d) (e : ExF a pl H H') (ha : H a = some (.ins C dx lv)) (hp : H pl = some (.lst ps)) : RdAt K H' v d := by
  obtain ⟨t, h1, h2⟩ := h
  exact ⟨t, h1, sqt_exF h2 e ha hp⟩
def placeD : Option Int → PyData
  | none => .none
  | some i => .int i
def rdD (r : RD) : PyData := .tuple [.str (rdW r), placeD (rdX r)]
theorem placeD_at (o : Option Int) : At0 (placeD o) ∧ Dp K H (placeV o) (placeD o) := by
  cases o with
  | none => exact ⟨True.intro, .non⟩
  | some i => exact ⟨True.intro, .int i⟩
theorem RdAt.dp {r : RD} (h : RdAt K H v r) : Dp K H v (rdD r) := by
  obtain ⟨o, rfl, h2⟩ := h
  exact .tup h2 (.cons (.str _) (.cons (placeD_at _).2 .nil))
theorem start_ok {rs : HH.Row} (hl : rs.length ≤ 24) (ht : ∀ b ∈ rs, 0 ≤ b.2) : OkL (startF rs) (rs.length : Int) := by
  have en : namesF (startF rs) = (List.range rs.length).map fun (n : Nat) => (n : Int) := by
    rw [namesF, startF, List.map_map]
    rfl
  refine ⟨?_, fun n hn => ?_, fun b hb => ?_, by rw [startF, List.length_map, List.length_range]; exact hl, by omega⟩
  · rw [en]
    exact List.Pairwise.map _ (fun a b (n : a ≠ b) z => n (by omega)) List.nodup_range
  · rw [en] at hn
    obtain ⟨k, hk, rfl⟩ := List.mem_map.mp hn
    have := List.mem_range.mp hk
    omega
  · obtain ⟨z, hz, rfl⟩ := List.mem_map.mp hb
    obtain ⟨k, hk, rfl⟩ := List.mem_map.mp hz
    have hk := List.mem_range.mp hk
    show 0 ≤ tS rs k
    unfold tS
    rw [List.getElem?_eq_getElem hk]
    exact ht _ (List.getElem_mem hk)
end
end HH
set_option maxHeartbeats 4000000
namespace HH
open PySem PySem.Spec PyProof.Rows L2 Evl RZ
def iSeqB (K : PySem.W.Frag) (tl : TE) : TI := fun σ H R => tl σ H fun x H1 => ∃ a xs, x = .ref a ∧ ((SqL K H1 a xs ∧ R (Itl K a) H1) ∨ (SqT K H1 a xs ∧ R (Itt K a) H1))
theorem pi_seqB {X : Cx} {tg : Expr} {l : Expr} {tl : TE} (hl : PE X l tl) : PI X tg l (iSeqB X.K tl) := by
  refine ⟨fun pins s σ H R I h => ?_⟩
  refine thn (hl.run pins s σ H _ I h) fun v s1 ⟨x, H1, I1, r1, q1⟩ => ?_
  obtain ⟨a, xs, e, q1⟩ := q1
  subst e
  cases r1
  have fp : ∀ b, b ∈ [s1.heap.objs.size] → FpOk X pins H1 b := fun b hb => by
    have e : b = s1.heap.objs.size := by simpa using hb
    subst e
    exact I1.fpOk (Nat.le_refl _) (I1.hok.fresh (Nat.le_refl _))
  rcases q1 with ⟨hq, q⟩ | ⟨hq, q⟩
  · obtain ⟨its, rv, p, hz⟩ := I1.list hq
    refine wpAny_pyIter_list p.isList ?_
    exact ⟨s1.heap.objs.size, [s1.heap.objs.size], _, _, H1, rfl, I1.kept (t' := s1.toks) fun b o e => Heap.get?_push_of_some _ e, turn_list a _, ⟨_, Heap.get?_push_size _ rfl, rfl, rfl⟩, fp, q⟩
  · obtain ⟨its, rv, p, hz⟩ := I1.tuple hq
    refine wpAny_pyIter_tuple (show s1.heap.IsTuple a its.toArray from p) ?_
    exact ⟨s1.heap.objs.size, [s1.heap.objs.size], _, _, H1, rfl, I1.kept (t' := s1.toks) fun b o e => Heap.get?_push_of_some _ e, turn_tuple a _, ⟨_, Heap.get?_push_size _ rfl, rfl, rfl⟩, fp, q⟩
theorem pe_fldK {X : Cx} {K : PySem.W.Frag} {e : Expr} {ta : TE} {f : Str} {pos : Pos} (he : PE X e ta) (hb : attributeBase e f X.env (eval e X.env) = eval e X.env) (hK : X.K = K := by rfl) : PE X (.Attribute e f pos) (tFld K ta f) := by
  subst hK
  exact pe_fld he hb
theorem pe_bmK {X : Cx} {K : PySem.W.Frag} {e : Expr} {T : String} {r : V → List V → Hp → VK → Prop} {to : TE} {t : TA} (h : PE X e (tBM X.K T r to t)) (hK : X.K = K := by rfl) : PE X e (tBM K T r to t) := by
  subst hK
  exact h
theorem pi_seqBK {X : Cx} {K : PySem.W.Frag} {tg : Expr} {l : Expr} {tl : TE} (hl : PE X l tl) (hK : X.K = K := by rfl) : PI X tg l (iSeqB K tl) := by
  subst hK
  exact pi_seqB hl
section
variable {K : PySem.W.Frag} {C a dx pl ml p : Addr} {σ : L2.St} {te : TE} {D : Ends} {tz tu : TS} {st : FoldS} {H H' H'' : Hp} {ms ms' xs : List V} {j : Nat}
theorem s_forSeq {H0 : Hp} {q : Addr} (h : Ev te σ H (.ref q)) (hs : SqL K H0 q xs ∨ SqT K H0 q xs) (c1 : SqL K H0 q xs → SqL K H q xs) (c2 : SqT K H0 q xs → SqT K H q xs) (Pv : Nat → L2.St → Hp → Prop) (h0 : ∀ H1, Ex H H1 → Pv 0 σ H1) (hl : ∀ i σ' H', i ≤ xs.length → Pv i σ' H' → SqL K H0 q xs → SqL K H' q xs) (ht : ∀ i σ' H', i ≤ xs.length → Pv i σ' H' → SqT K H0 q xs → SqT K H' q xs)
    (hb : ∀ i x σ' H', xs[i]? = some x → Pv i σ' H' → tu { D with nx := Pv (i + 1), ct := Pv (i + 1), bk := D.nx } (σ'.set j (some x)) H') (hd : ∀ σ' H', Pv xs.length σ' H' → D.nx σ' H') : tFor (iSeqB K te) (gName j) tu D σ H := h H (Ex.refl H) _ fun H1 e1 => by
  rcases hs with hs | hs
  · exact ⟨q, xs, rfl, .inl ⟨ex_l e1 (c1 hs), for_it walk_list Pv (h0 H1 e1) (fun i σ' H' hi g => hl i σ' H' hi g hs) (fun i x σ' H' H2 hi g y => by
      obtain ⟨rfl, e⟩ := y
      exact hb i x σ' H2 e g) hd⟩⟩
  · exact ⟨q, xs, rfl, .inr ⟨ex_t e1 (c2 hs), for_it walk_tup Pv (h0 H1 e1) (fun i σ' H' hi g => ht i σ' H' hi g hs) (fun i x σ' H' H2 hi g y => by
      obtain ⟨rfl, e⟩ := y
      exact hb i x σ' H2 e g) hd⟩⟩
def ExM (a pl ml : Addr) (H H' : Hp) : Prop := ∀ c o, c ≠ a → c ≠ pl → c ≠ ml → H c = some o → H' c = some o
theorem ExM.refl : ExM a pl ml H H := fun _ _ _ _ _ h => h
theorem ExM.trans (h : ExM a pl ml H H') (g : ExM a pl ml H' H'') : ExM a pl ml H H'' := fun c o n1 n2 n3 e => g c o n1 n2 n3 (h c o n1 n2 n3 e)
theorem ExM.of (e : Ex H H') : ExM a pl ml H H' := fun c o _ _ _ h => e c o h
theorem ExM.ofF (e : ExF a pl H H') : ExM a pl ml H H' := fun c o n1 n2 _ h => e c o n1 n2 h
theorem ExM.mark (l : List V) : ExM a pl ml H (upd H ml (.lst l)) := fun c o _ _ n3 h => by rw [upd_ne n3]; exact h
theorem FoldAt.marked (h : FoldAt K H C a dx pl ml st) (hm : H ml = some (.lst ms)) (n1 : ml ≠ a) (n2 : ml ≠ pl) : FoldAt K (upd H ml (.lst ms')) C a dx pl ml st := by
  obtain ⟨lv, us, h1, h2, h3, h4, _⟩ := h
  have e : ExB ml H (upd H ml (.lst ms')) := (ExB.refl _ _).upd
  exact ⟨lv, us, e _ _ n1.symm h1, h2.exB e hm, e _ _ n2.symm h3, All2.mono (fun _ _ g => PastAt.exB g e hm) h4, ms', upd_same⟩
def mkV (p : Bool × Nat) : List V := [.str (if p.1 then "in" else "out"), .int (p.2 : Int)]
def MarkAt (K : PySem.W.Frag) (H : Hp) (v : V) (p : Bool × Nat) : Prop := ∃ t, v = .ref t ∧ SqT K H t (mkV p)
def MarksAt (K : PySem.W.Frag) (H : Hp) (ml : Addr) (L : List (Bool × Nat)) : Prop := ∃ us, H ml = some (.lst us) ∧ All2 (MarkAt K H) us L
theorem MarkAt.ex {v : V} {x : Bool × Nat} (h : MarkAt K H v x) (e : Ex H H') : MarkAt K H' v x := by
  obtain ⟨t, h1, h2⟩ := h
  exact ⟨t, h1, ex_t e h2⟩
theorem MarkAt.exB {v : V} {x : Bool × Nat} (h : MarkAt K H v x) (e : ExB p H H') (hp : H p = some (.lst xs)) : MarkAt K H' v x := by
  obtain ⟨t, h1, h2⟩ := h
  exact ⟨t, h1, e.t hp h2⟩
theorem MarkAt.exF {v : V} {x : Bool × Nat} {fs : List (Str × V)} (h : MarkAt K H v x) (e : ExF a pl H H') (ha : H a = some (.ins C dx fs)) (hp : H pl = some (.lst xs)) : MarkAt K H' v x := by
  obtain ⟨t, h1, h2⟩ := h
  exact ⟨t, h1, sqt_exF h2 e ha hp⟩
theorem MarksAt.ex {L : List (Bool × Nat)} (h : MarksAt K H ml L) (e : Ex H H') : MarksAt K H' ml L := by
  obtain ⟨us, h1, h2⟩ := h
  exact ⟨us, e _ _ h1, All2.mono (fun _ _ z => z.ex e) h2⟩
theorem MarksAt.exF {L : List (Bool × Nat)} {fs : List (Str × V)} (h : MarksAt K H ml L) (e : ExF a pl H H') (n1 : ml ≠ a) (n2 : ml ≠ pl) (ha : H a = some (.ins C dx fs)) (hp : H pl = some (.lst xs)) : MarksAt K H' ml L := by
  obtain ⟨us, h1, h2⟩ := h
  exact ⟨us, e _ _ n1 n2 h1, All2.mono (fun _ _ z => z.exF e ha hp) h2⟩
theorem MarksAt.exB {L : List (Bool × Nat)} (h : MarksAt K H ml L) (e : ExB p H H') (n : ml ≠ p) (hp : H p = some (.lst xs)) : MarksAt K H' ml L := by
  obtain ⟨us, h1, h2⟩ := h
  exact ⟨us, e _ _ n h1, All2.mono (fun _ _ z => z.exB e hp) h2⟩
def spDoM (K : PySem.W.Frag) (C CF CM CN CP : Addr) : Sp := fun vs H Q X => ∃ (a dx pl ml : Addr) (st : FoldS) (v : V) (ds : List FD) (wh : Bool) (L : List (Bool × Nat)), vs = [.ref a, v, .bl wh] ∧ FoldC K C ∧ FoldAt K H C a dx pl ml st ∧ MarksAt K H ml L ∧ a ≠ pl ∧ ml ≠ pl ∧ ml ≠ a ∧ FDs K H v ds ∧ (∀ x, v = .ref x → x ≠ pl ∧ x ≠ ml) ∧ (∀ d ∈ ds, tollOk d) ∧ ds.length ≤ 50 ∧ OkL st.1 st.2.1 ∧ st.2.2.length ≤ 900 ∧ L.length ≤ 1000 ∧
  (∀ xs st' q H', DoTo st ds xs st' → ExM a pl ml H H' → FoldAt K H' C a dx pl ml st' → MarksAt K H' ml (L ++ [(true, ds.length), (false, ds.length)]) → H q = none → H' q = some (.lst (xs.map placeV)) → Q (.ref q) H') ∧
  ∀ (k : Nat) xs st' d r l c dd H', DoTo st (ds.take k) xs st' → ds[k]? = some d → Due st'.1 st'.2.1 d r l c → isTold r = false → ExM a pl ml H H' → FoldAt K H' C a dx pl ml (if wh then st else st') → MarksAt K H' ml (L ++ [(true, ds.length), (false, k)]) → H dd = none → H' dd = some (.xd [(rdF r, placeV (rdX r))]) → X (.ref (rdC CF CM CN CP r)) (some dd) H'
end
end HH
set_option maxHeartbeats 4000000
namespace HH
open PySem PySem.Spec PyProof.Rows L2 Evl RZ
section
variable {K : PySem.W.Frag} {C a dx pl ml p : Addr} {σ : L2.St} {te tn : TE} {D : Ends} {tz tu : TS} {st : FoldS} {H H' H'' : Hp} {ms ms' xs zs : List V} {L : List (Bool × Nat)} {b : Bool} {n : Nat} {v : V}
theorem sqt_exM {c : Addr} {fs : List (Str × V)} (h : SqT K H c xs) (e : ExM a pl ml H H') (ha : H a = some (.ins C dx fs)) (hp : H pl = some (.lst zs)) (hm : H ml = some (.lst ms)) : SqT K H' c xs := by
  rcases h with h | h
  · rcases h with h | ⟨o, h⟩
    · exact .inl (.inl (e _ _ (fun z => by rw [z, ha] at h; cases h) (fun z => by rw [z, hp] at h; cases h) (fun z => by rw [z, hm] at h; cases h) h))
    · exact .inl (.inr ⟨o, e _ _ (fun z => by rw [z, ha] at h; cases h) (fun z => by rw [z, hp] at h; cases h) (fun z => by rw [z, hm] at h; cases h) h⟩)
  · exact .inr h
theorem FDAt.exM {d : FD} {fs : List (Str × V)} (h : FDAt K H v d) (e : ExM a pl ml H H') (ha : H a = some (.ins C dx fs)) (hp : H pl = some (.lst zs)) (hm : H ml = some (.lst ms)) : FDAt K H' v d := by
  obtain ⟨t, h1, h2⟩ := h
  exact ⟨t, h1, sqt_exM h2 e ha hp hm⟩
theorem PastAt.exM {z : List Fb × Int} {fs : List (Str × V)} (h : PastAt K H v z) (e : ExM a pl ml H H') (ha : H a = some (.ins C dx fs)) (hp : H pl = some (.lst zs)) (hm : H ml = some (.lst ms)) : PastAt K H' v z := by
  obtain ⟨t, lv, h1, h2, bb, us, k1, k2, k3⟩ := h
  exact ⟨t, lv, h1, sqt_exM h2 e ha hp hm, bb, us, k1, sqt_exM k2 e ha hp hm, All2.mono (fun _ _ ⟨t, z, g⟩ => ⟨t, z, sqt_exM g e ha hp hm⟩) k3⟩
theorem ExM.ofB (e : ExB ml H H') : ExM a pl ml H H' := fun c o _ _ n3 h => e c o n3 h
theorem q_forArg {te : TE} {tz tu : TS} {D : Ends} {σ : L2.St} {H : Hp} {j : Nat} (M : Nat → Hp → Prop) (h : ∀ Q : VK, (∀ n H1, M n H1 → Q (.int ((n : Nat) : Int)) H1) → te σ H Q) (k : ∀ n H1, M n H1 → tSeq (tFor (iRng1 (tCons (tC (.int ((n : Nat) : Int))) tNil)) (gName j) tu) tz D σ H1) : tSeq (tFor (iRng1 (tCons te tNil)) (gName j) tu) tz D σ H :=
  h _ fun n H1 hM => k n H1 hM
theorem q_dropB {te : TE} {tz : TS} {D : Ends} {σ : L2.St} {H : Hp} (h : te σ H fun _ H1 => tz D σ H1) : tSeq (tDrop te) tz D σ H := h
theorem ev_mark {w : Str} {Q : VK} (fc : FoldC K C) (h0 : σ[0]? = some (some (.ref a))) (hf : FoldAt K H C a dx pl ml st) (hm : MarksAt K H ml L) (n3 : ml ≠ a) (n2 : ml ≠ pl) (hn : Ev tn σ H (.int (n : Int))) (hL : L.length ≤ 50000) (hw : mkV (b, n) = [.str w, .int (n : Int)])
    (k : ∀ H', ExB ml H H' → FoldAt K H' C a dx pl ml st → MarksAt K H' ml (L ++ [(b, n)]) → Q .non H') : tBM K "list" rAppend (tFld K (tVar 0) "marks") (tCons (tTup (tCons (tC (.str w)) (tCons tn tNil))) tNil) σ H Q := by
  obtain ⟨us, hu, hus⟩ := id hm
  obtain ⟨lv, ps, h1, _⟩ := id hf
  have ul := All2.len hus
  refine (ev_fld (ev_var h0) h1 fc.c fc.m rfl) H (Ex.refl H) _ fun H1 e1 => ⟨.inl ⟨rfl, us, sq_of (e1 _ _ hu)⟩, hn H1 e1 _ fun H2 e2 => ⟨by show 2 ≤ sizeLine; decide, fun T hT => ?_⟩⟩
  have e12 := e1.trans e2
  have eT := Ex.new (o := .tup [.str w, .int (n : Int)]) hT
  have e3 := e12.trans eT
  have uT : (upd H2 T (.tup [.str w, .int (n : Int)])) ml = some (.lst us) := e3 _ _ hu
  refine ⟨ml, us, .ref T, rfl, rfl, uT, sz_lt (by omega), ?_⟩
  have x : ExB ml (upd H2 T (.tup [.str w, .int (n : Int)])) (upd (upd H2 T (.tup [.str w, .int (n : Int)])) ml (.lst (us ++ [.ref T]))) := (ExB.refl _ _).upd
  have nT : T ≠ ml := fun z => by rw [z, e12 _ _ hu] at hT; cases hT
  refine k _ ((ExB.of e3).trans x) ((hf.ex e3).marked uT n3 n2) ⟨_, upd_same, All2.app (All2.mono (fun _ _ z => (z.ex e3).exB x uT) hus) (.cons ⟨T, rfl, ?_⟩ .nil)⟩
  refine st_of ?_
  rw [upd_ne nT, upd_same, hw]
end
theorem DoTo.one {st st1 st2 : FoldS} {ds : List FD} {xs ys : List (Option Int)} (ok : OkL st.1 st.2.1) (tk : ∀ d ∈ ds, tollOk d) (h : DoTo st ds xs st1) (g : DoTo st ds ys st2) : xs = ys ∧ st1 = st2 := by
  induction h generalizing ys with
  | nil st =>
    cases g
    exact ⟨rfl, rfl⟩
  | @cons st st1 d ds x xs l c h0 _ ih =>
    cases g with
    | @cons _ _ _ _ y ys l' c' g0 gr =>
      obtain ⟨e1, rfl, rfl⟩ := Due.one ok.2.2.1 h0 g0
      cases e1
      obtain ⟨r1, r2⟩ := ih (h0.ok ok (tk d List.mem_cons_self)) (fun e he => tk e (List.mem_cons_of_mem _ he)) gr
      exact ⟨by rw [r1], r2⟩
theorem DoTo.front {st st2 : FoldS} {d : FD} {ds es : List FD} {xs : List (Option Int)} (h : DoTo st (ds ++ d :: es) xs st2) : ∃ ys st1 x l c, DoTo st ds ys st1 ∧ Due st1.1 st1.2.1 d (.told x) l c := by
  induction ds generalizing st xs with
  | nil =>
    cases h with
    | cons h0 r => exact ⟨[], st, _, _, _, .nil _, h0⟩
  | cons e ds ih =>
    cases h with
    | cons h0 r =>
      obtain ⟨ys, st1, x, l, c, k1, k2⟩ := ih r
      exact ⟨_ :: ys, st1, x, l, c, .cons h0 k1, k2⟩
theorem DoTo.not {st st1 st2 : FoldS} {ds : List FD} {d : FD} {k : Nat} {xs ys : List (Option Int)} {r : RD} {l : List Fb} {c : Int} (ok : OkL st.1 st.2.1) (tk : ∀ d ∈ ds, tollOk d) (h : DoTo st ds xs st1) (g : DoTo st (ds.take k) ys st2) (hk : ds[k]? = some d) (hD : Due st2.1 st2.2.1 d r l c) (hr : isTold r = false) : False := by
  have hkl := (List.getElem?_eq_some_iff.mp hk).1
  have e : ds = ds.take k ++ d :: ds.drop (k + 1) := by
    have h1 := (List.take_append_drop k ds).symm
    rw [List.drop_eq_getElem_cons hkl] at h1
    have h2 : ds[k] = d := by
      rw [List.getElem?_eq_getElem hkl] at hk
      exact Option.some.inj hk
    rwa [h2] at h1
  rw [e] at h
  obtain ⟨zs, s3, x, l3, c3, k1, k2⟩ := h.front
  have tk2 : ∀ d ∈ ds.take k, tollOk d := fun z hz => tk z (List.mem_of_mem_take hz)
  obtain ⟨_, rfl⟩ := DoTo.one ok tk2 g k1
  obtain ⟨e1, _, _⟩ := Due.one (g.ok ok tk2).2.2.1 hD k2
  rw [e1] at hr
  cases hr
theorem DoTo.same {st st1 st2 : FoldS} {ds : List FD} {d e : FD} {i k : Nat} {xs ys : List (Option Int)} {r r2 : RD} {l l2 : List Fb} {c c2 : Int} (ok : OkL st.1 st.2.1) (tk : ∀ d ∈ ds, tollOk d) (h : DoTo st (ds.take i) xs st1) (hi : ds[i]? = some e) (hD : Due st1.1 st1.2.1 e r l c) (hr : isTold r = false) (g : DoTo st (ds.take k) ys st2) (hk : ds[k]? = some d) (gD : Due st2.1 st2.2.1 d r2 l2 c2) (gr : isTold r2 = false) : i = k ∧ r = r2 ∧ st1 = st2 := by
  have tkt : ∀ n, ∀ d ∈ ds.take n, tollOk d := fun n z hz => tk z (List.mem_of_mem_take hz)
  have key : ∀ {a b : Nat} {s1 s2 : FoldS} {xs ys : List (Option Int)} {e : FD} {r : RD} {l : List Fb} {c : Int}, a < b → DoTo st (ds.take a) xs s1 → ds[a]? = some e → Due s1.1 s1.2.1 e r l c → isTold r = false → DoTo st (ds.take b) ys s2 → False := fun {a b s1 s2 xs ys e r l c} hab h hi hD hr g => by
    refine DoTo.not (ds := ds.take b) (k := a) ok (tkt b) g ?_ ?_ hD hr (d := e) (ys := xs)
    · rwa [List.take_take, Nat.min_eq_left (Nat.le_of_lt hab)]
    · rw [List.getElem?_take_of_lt hab]
      exact hi
  rcases Nat.lt_trichotomy i k with z | z | z
  · exact (key z h hi hD hr g).elim
  · subst z
    obtain ⟨_, rfl⟩ := DoTo.one ok (tkt i) h g
    rw [hi] at hk
    cases hk
    obtain ⟨e1, _, _⟩ := Due.one (h.ok ok (tkt i)).2.2.1 hD gD
    exact ⟨rfl, e1, rfl⟩
  · exact (key z g hk gD gr h).elim
section
variable {K : PySem.W.Frag} {σ : L2.St} {H : Hp} {ta tb tl : TE} {D : Ends} {tz : TS} {L : List (Bool × Nat)} {n k i : Nat} {lg : Addr}
end
end HH
set_option maxHeartbeats 4000000
namespace HH
open PySem PySem.Spec PyProof.Rows L2 Evl RZ
section
variable {K : PySem.W.Frag} {σ : L2.St} {H Hb : Hp} {D : Ends} {tz : TS} {xs : List V} {j : Nat} {t : Addr}
end
end HH
set_option maxHeartbeats 4000000
namespace HH
open PySem PySem.Spec PyProof.Rows L2 Evl RZ
section
variable {X : Cx} {CX : CXT} {k : Nat} {f C : Addr} {fd : FuncData} {ps : List Str} {sp : Sp} {E : XK}
inductive OthV (K : PySem.W.Frag) (H : Hp) : V → String → Prop where
  | int (i : Int) : OthV K H (.int i) "int"
  | str (x : Str) : OthV K H (.str x) "str"
  | lst {q : Addr} {xs : List V} (h : H q = some (.lst xs)) : OthV K H (.ref q) "list"
  | tup {q : Addr} {xs : List V} (h : SqT K H q xs) : OthV K H (.ref q) "tuple"
end
section
variable {prog : Program} {w : World} {A : Around} {E : Value → Shared → Prop} {s : Shared} {K : PySem.W.Frag} {x C : Addr} {ox : Obj} {od : Option Obj} {b : Value}
end
section
variable {X : Cx} {CX : CXT} {k : Nat} {f C : Addr} {fd : FuncData} {ps : List Str} {sp : Sp} {E : XK}
end
end HH
set_option maxHeartbeats 4000000
namespace HH
open PySem PySem.Spec PyProof.Rows L2 Evl RZ
def spTwinM (K : PySem.W.Frag) (C : Addr) : Sp := fun vs H Q _ => ∃ (a dx pl ml : Addr) (st : FoldS), vs = [.ref a] ∧ FoldC K C ∧ FoldAt K H C a dx pl ml st ∧ st.2.2.length ≤ 1000 ∧
  ∀ a' dx' pl' ml' H', H a' = none → H pl' = none → H ml' = none → a' ≠ pl' → ml' ≠ pl' → ml' ≠ a' → Ex H H' → FoldAt K H' C a' dx' pl' ml' st → H' ml' = some (.lst []) → Q (.ref a') H'
theorem q_asg0 {te : TE} {tz : TS} {D : Ends} {σ : L2.St} {H : Hp} {i : Nat} (h : te σ H fun x H1 => tz D (σ.set i (some x)) H1) : tSeq (tAsg te (gName i)) tz D σ H := h
end HH
set_option maxHeartbeats 4000000
namespace HH
open PySem PySem.Spec PyProof.Rows L2 Evl RZ
structure FR where
  a : Addr
  dx : Addr
  pl : Addr
  ml : Addr
  P : Addr
  st : FoldS
def FR.hist (r : FR) : List (List Fb × Int) := r.st.2.2 ++ [(r.st.1, r.st.2.1)]
structure FRAt (K : PySem.W.Frag) (C : Addr) (H : Hp) (r : FR) : Prop where
  f : FoldAt K H C r.a r.dx r.pl r.ml r.st
  m : H r.ml = some (.lst [])
  n1 : r.a ≠ r.pl
  n2 : r.ml ≠ r.pl
  n3 : r.ml ≠ r.a
  p : ∃ us, H r.P = some (.lst us) ∧ All2 (PastAt K H) us r.hist
structure OkR (r : FR) : Prop where
  o : ∀ x ∈ r.hist, OkL x.1 x.2
  l : r.st.2.2.length ≤ 900
theorem FRAt.ex {K : PySem.W.Frag} {C : Addr} {H H' : Hp} {r : FR} (h : FRAt K C H r) (e : Ex H H') : FRAt K C H' r := by
  obtain ⟨us, h1, h2⟩ := h.p
  exact ⟨h.f.ex e, e _ _ h.m, h.n1, h.n2, h.n3, us, e _ _ h1, All2.mono (fun _ _ z => PastAt.ex z e) h2⟩
theorem FRAt.last {K : PySem.W.Frag} {C : Addr} {H : Hp} {r : FR} (h : FRAt K C H r) : ∃ (us : List V) (v : V), H r.P = some (.lst (us ++ [v])) ∧ PastAt K H v (r.st.1, r.st.2.1) ∧ All2 (PastAt K H) us r.st.2.2 := by
  obtain ⟨us, h1, h2⟩ := h.p
  obtain ⟨u1, u2, rfl, h3, h4⟩ := All2.split h2
  cases h4 with
  | cons h5 h6 =>
    cases h6
    exact ⟨u1, _, h1, h5, h3⟩
theorem OkR.now {r : FR} (h : OkR r) : OkL r.st.1 r.st.2.1 := h.o (r.st.1, r.st.2.1) (List.mem_append_right _ (List.mem_singleton.mpr rfl))
section
variable {K : PySem.W.Frag} {σ : L2.St} {H : Hp} {ta tb te : TE} {D : Ends} {tz tu : TS} {xs ys : List V} {fa fb : Addr} {i j : Nat}
end
section
variable {K : PySem.W.Frag} {σ : L2.St} {H : Hp} {ta tb te : TE} {C : Addr} {E : XK} {r s : FR}
end
end HH
set_option maxHeartbeats 4000000
namespace HH
open PySem PySem.Spec PyProof.Rows L2 Evl RZ
section
variable {K : PySem.W.Frag} {C a dx pl ml p q : Addr} {σ : L2.St} {te ta tb t1 t2 : TE} {D : Ends} {tz tu : TS} {st : FoldS} {H H' H0 H1 H2 : Hp} {ms xs zs : List V} {L : List (Bool × Nat)} {n : Nat} {v : V} {E E' : XK}
theorem MarkAt.exM {x : Bool × Nat} {fs : List (Str × V)} (h : MarkAt K H v x) (e : ExM a pl ml H H') (ha : H a = some (.ins C dx fs)) (hp : H pl = some (.lst zs)) (hm : H ml = some (.lst ms)) : MarkAt K H' v x := by
  obtain ⟨t, h1, h2⟩ := h
  exact ⟨t, h1, sqt_exM h2 e ha hp hm⟩
theorem MarksAt.exM {fs : List (Str × V)} (h : MarksAt K H q L) (e : ExM a pl ml H H') (n2 : q ≠ pl) (n3 : q ≠ ml) (ha : H a = some (.ins C dx fs)) (hp : H pl = some (.lst zs)) (hm : H ml = some (.lst ms)) : MarksAt K H' q L := by
  obtain ⟨us, h1, h2⟩ := h
  exact ⟨us, e _ _ (fun z => by rw [z, ha] at h1; cases h1) n2 n3 h1, All2.mono (fun _ _ z => z.exM e ha hp hm) h2⟩
theorem exb_m (x : ExB p H0 H1) (ha : H0 a = none) (hp : H0 pl = none) (hm : H0 ml = none) (e : ExM a pl ml H1 H2) : ExB p H0 H2 := fun c o n h => e c o (fun z => by rw [z, ha] at h; cases h) (fun z => by rw [z, hp] at h; cases h) (fun z => by rw [z, hm] at h; cases h) (x c o n h)
theorem Bx.exM (h : Bx H p n) (e : ExM a pl ml H H') (n1 : p ≠ a) (n2 : p ≠ pl) (n3 : p ≠ ml) : Bx H' p n := by
  obtain ⟨x, y, z, h1, h2⟩ := h
  exact ⟨x, y, z, e _ _ n1 n2 n3 h1, h2⟩
def markD (x : Bool × Nat) : PyData := .tuple [.str (if x.1 then "in" else "out"), .int (x.2 : Int)]
theorem marks_dp : ∀ {us : List V} {L : List (Bool × Nat)}, All2 (MarkAt K H) us L → DpAll K H us (L.map markD)
  | _, _, .nil => .nil
  | _, _, .cons ⟨t, e, g⟩ r => by
    subst e
    exact .cons (.tup g (.cons (.str _) (.cons (.int _) .nil))) (marks_dp r)
theorem MarksAt.dp (h : MarksAt K H q L) : Dp K H (.ref q) (.list (L.map markD)) := by
  obtain ⟨us, h1, h2⟩ := h
  exact .lst (sq_of h1) (marks_dp h2)
end
end HH
set_option maxHeartbeats 4000000
namespace HH
open PySem PySem.Spec PyProof.Rows L2 Evl RZ
def Mut : HO → Bool
  | .lst _ => true
  | .ins _ _ _ => true
  | _ => false
def St (H0 H H' : Hp) : Prop := ∀ c o, H c = some o → H0 c = none ∨ Mut o = false → H' c = some o
section
variable {K : PySem.W.Frag} {H0 H H' H1 H2 : Hp} {a pl ml p C dx : Addr} {xs zs ms us : List V} {fs : List (Str × V)} {d : PyData} {v : V} {σ : L2.St} {te ta tb : TE} {rs : HH.Row}
theorem St.refl : St H0 H H := fun _ _ h _ => h
theorem St.trans (h : St H0 H H1) (g : St H0 H1 H2) : St H0 H H2 := fun c o e z => g c o (h c o e z) z
theorem St.of (e : Ex H H') : St H0 H H' := fun c o h _ => e c o h
theorem St.exB (e : ExB p H H') (hp : H p = some (.lst zs)) (n : H0 p ≠ none) : St H0 H H' := fun c o h z => by
  by_cases q : c = p
  · subst q
    rw [hp] at h
    cases h
    rcases z with z | z
    · exact (n z).elim
    · cases z
  · exact e c o q h
theorem St.exF (e : ExF a pl H H') (ha : H a = some (.ins C dx fs)) (hp : H pl = some (.lst zs)) (n1 : H0 a ≠ none) (n2 : H0 pl ≠ none) : St H0 H H' := fun c o h z => by
  by_cases q : c = a
  · subst q
    rw [ha] at h
    cases h
    rcases z with z | z
    · exact (n1 z).elim
    · cases z
  by_cases q2 : c = pl
  · subst q2
    rw [hp] at h
    cases h
    rcases z with z | z
    · exact (n2 z).elim
    · cases z
  exact e c o q q2 h
theorem St.exM (e : ExM a pl ml H H') (ha : H a = some (.ins C dx fs)) (hp : H pl = some (.lst zs)) (hm : H ml = some (.lst ms)) (n1 : H0 a ≠ none) (n2 : H0 pl ≠ none) (n3 : H0 ml ≠ none) : St H0 H H' := fun c o h z => by
  by_cases q : c = a
  · subst q
    rw [ha] at h
    cases h
    rcases z with z | z
    · exact (n1 z).elim
    · cases z
  by_cases q2 : c = pl
  · subst q2
    rw [hp] at h
    cases h
    rcases z with z | z
    · exact (n2 z).elim
    · cases z
  by_cases q3 : c = ml
  · subst q3
    rw [hm] at h
    cases h
    rcases z with z | z
    · exact (n3 z).elim
    · cases z
  exact e c o q q2 q3 h
theorem sqt_st {c : Addr} (h : SqT K H c xs) (e : St H0 H H') : SqT K H' c xs := by
  rcases h with h | h
  · rcases h with h | ⟨o, h⟩
    · exact .inl (.inl (e _ _ h (.inr rfl)))
    · exact .inl (.inr ⟨o, e _ _ h (.inr rfl)⟩)
  · exact .inr h
theorem RowAt.st (h : RowAt K H v rs) (e : St H0 H H') : RowAt K H' v rs := by
  obtain ⟨b, us, rfl, g1, g2, g3⟩ := h
  exact ⟨b, us, rfl, sqt_st g1 e, g2, fun i x hx => by
    obtain ⟨u, hu, p, hp', hs⟩ := g3 i x hx
    exact ⟨u, hu, p, hp', sqt_st hs e⟩⟩
def FrQ (K : PySem.W.Frag) (H0 H : Hp) (v : V) (d : PyData) : Prop := ∀ H', St H0 H H' → Dp K H' v d
def FrQs (K : PySem.W.Frag) (H0 H : Hp) (us : List V) (ds : List PyData) : Prop := ∀ H', St H0 H H' → DpAll K H' us ds
theorem FrQ.st (h : FrQ K H0 H v d) (e : St H0 H H') : FrQ K H0 H' v d := fun H2 g => h H2 (e.trans g)
theorem FrQs.st {ds : List PyData} (h : FrQs K H0 H us ds) (e : St H0 H H') : FrQs K H0 H' us ds := fun H2 g => h H2 (e.trans g)
theorem FrQ.dp (h : FrQ K H0 H v d) : Dp K H v d := h H St.refl
def FrL (K : PySem.W.Frag) (H0 H : Hp) (p : Addr) (ds : List PyData) : Prop := ∃ us, H p = some (.lst us) ∧ H0 p = none ∧ FrQs K H0 H us ds
theorem FrL.st {ds : List PyData} (h : FrL K H0 H p ds) (e : St H0 H H') : FrL K H0 H' p ds := by
  obtain ⟨us, h1, h2, h3⟩ := h
  exact ⟨us, e _ _ h1 (.inl h2), h2, h3.st e⟩
theorem FrL.q {ds : List PyData} (h : FrL K H0 H p ds) : FrQ K H0 H (.ref p) (.list ds) := fun H' e => by
  obtain ⟨us, h1, h2, h3⟩ := h.st e
  exact .lst (sq_of h1) (h3 _ St.refl)
theorem FrQs.nil : FrQs K H0 H [] [] := fun _ _ => .nil
theorem FrQs.cons {ds : List PyData} (h : FrQ K H0 H v d) (g : FrQs K H0 H us ds) : FrQs K H0 H (v :: us) (d :: ds) := fun H' e => .cons (h H' e) (g H' e)
theorem FrQs.app {es ds : List PyData} (h : FrQs K H0 H us ds) (g : FrQs K H0 H xs es) : FrQs K H0 H (us ++ xs) (ds ++ es) := fun H' e => dps_app (h H' e) (g H' e)
theorem FrQs.len {ds : List PyData} (h : FrQs K H0 H us ds) : us.length = ds.length := dps_len (h H St.refl)
end
section
variable {K : PySem.W.Frag} {C a dx pl ml : Addr} {σ : L2.St} {ta : TE} {st : FoldS} {H : Hp} {E : XK}
theorem el_lastM {L : List Cow} (fc : FoldC K C) (hf : FoldAt K H C a dx pl ml st) (h : ∀ H1, Ev ta σ H1 (.ref a)) (hl : st.1.length ≤ 30) (ht : ∀ b ∈ rowF st.1, 0 ≤ b.2) (one : ∀ L', Steps (tag 0 (rowF st.1)) L' → NfR L' → L' = L) :
    EvL (tMeth C "last_names" (spLastNamesM K C) [] E ta tNil) σ H ((L.map fun c => (namesF st.1).getD c.1 0).map V.int) := fun H0 e0 Q q => by
  obtain ⟨lv, ps, h1, h2, h3, h4⟩ := id hf
  exact h H0 H0 (Ex.refl _) _ fun H1 e1 => ⟨a, dx, _, rfl, (e0.trans e1) _ _ h1, rfl, a, dx, pl, ml, st, rfl, fc, hf.ex (e0.trans e1), hl, ht, fun L' p H2 s nf hp e2 g => by
    have := one L' s nf
    subst this
    exact q _ H2 (fresh_back e1 hp) (e1.trans e2) g⟩
end
section
variable {K : PySem.W.Frag} {σ : L2.St} {ta tb te : TE} {H H' : Hp} {q : Addr} {ds es : List FD} {d : FD} {D : Ends} {tz : TS}
def NewDs (K : PySem.W.Frag) (H : Hp) (q : Addr) (ds : List FD) : Prop := ∃ us, H q = some (.lst us) ∧ All2 (FDAt K H) us ds
theorem NewDs.ex (h : NewDs K H q ds) (e : Ex H H') : NewDs K H' q ds := by
  obtain ⟨us, h1, h2⟩ := h
  exact ⟨us, e _ _ h1, All2.mono (fun _ _ z => FDAt.ex z e) h2⟩
end
def allD (l : List Fb) (L : List Cow) (m1 m2 : List Int) (k : Nat) : PyData := .list [rowD (rowF l), .list ((namesF l).map PyData.int), .list ((l.map fun b => b.2.2.2).map PyData.int), .list (m1.map PyData.int), .list (m2.map PyData.int), .list ((L.map fun c => (namesF l).getD c.1 0).map PyData.int), .int (k : Int), .int (l.length : Int)]
def AllOf (l : List Fb) (k : Nat) (d : PyData) : Prop := ∃ L m1 m2, Steps (tag 0 (rowF l)) L ∧ NfR L ∧ (mayF l letsZ).Perm m1 ∧ m1.Pairwise (· ≤ ·) ∧ (mayF l fallsZ).Perm m2 ∧ m2.Pairwise (· ≤ ·) ∧ d = allD l L m1 m2 k
theorem sorted_one {l m n : List Int} (h1 : l.Perm m) (s1 : m.Pairwise (· ≤ ·)) (h2 : l.Perm n) (s2 : n.Pairwise (· ≤ ·)) : n = m :=
  (List.Perm.eq_of_pairwise (fun a b _ _ (x : a ≤ b) (y : b ≤ a) => by omega) s2 s1 (h2.symm.trans h1))
theorem nf_nfr : ∀ {L : List Cow}, Nf L → NfR L
  | [], _ => True.intro
  | [_], _ => True.intro
  | a :: b :: r, h => ⟨fun z => h _ ⟨[], r, a, b, rfl, z, rfl⟩, nf_nfr fun M s => h (a :: M) (by
      have := s.under [a] []
      rw [List.append_nil, List.append_nil] at this
      exact this)⟩
theorem AllOf.is {l : List Fb} {k : Nat} (ht : ∀ b ∈ rowF l, 0 ≤ b.2) : ∃ d, AllOf l k d := by
  obtain ⟨L, s, nf⟩ := some_nf _ (good_tag ht) (Nat.le_refl _)
  obtain ⟨m1, p1, s1⟩ := some_sort (mayF l letsZ)
  obtain ⟨m2, p2, s2⟩ := some_sort (mayF l fallsZ)
  exact ⟨_, L, m1, m2, s, nf_nfr nf, p1, s1, p2, s2, rfl⟩
theorem AllOf.one {l : List Fb} {k : Nat} {d e : PyData} (ht : ∀ b ∈ rowF l, 0 ≤ b.2) (h : AllOf l k d) (g : AllOf l k e) : d = e := by
  obtain ⟨L, m1, m2, s, nf, p1, s1, p2, s2, rfl⟩ := h
  obtain ⟨L', m1', m2', s', nf', p1', s1', p2', s2', rfl⟩ := g
  rw [one_nf _ (good_tag ht) (Nat.le_refl _) s (nfr_nf nf) s' (nfr_nf nf'), sorted_one p1 s1 p1' s1', sorted_one p2 s2 p2' s2']
end HH
set_option maxHeartbeats 4000000
namespace HH
open PySem PySem.Spec PyProof.Rows L2 Evl RZ
def Kp (S : Addr → Prop) (H H' : Hp) : Prop := ∀ c o, ¬ S c → H c = some o → H' c = some o
def MutAt (S : Addr → Prop) (H : Hp) : Prop := ∀ c, S c → ∃ o, H c = some o ∧ Mut o = true
section
variable {S : Addr → Prop} {K : PySem.W.Frag} {H0 H H' H1 H2 H3 : Hp} {a pl ml p C dx t : Addr} {xs zs ms us : List V} {fs : List (Str × V)} {v : V} {l : List Fb} {st : FoldS} {n : Nat} {rs : HH.Row} {L : List (Bool × Nat)} {ds : List FD}
theorem Kp.of (e : Ex H H') : Kp S H H' := fun c o _ h => e c o h
theorem Kp.exB (e : ExB p H H') (hp : H p = some (.lst zs)) : Kp (fun c => c = p) H H' ∧ MutAt (fun c => c = p) H := ⟨fun c o n h => e c o n h, fun c z => ⟨_, z ▸ hp, rfl⟩⟩
theorem Kp.exF (e : ExF a pl H H') (ha : H a = some (.ins C dx fs)) (hp : H pl = some (.lst zs)) : Kp (fun c => c = a ∨ c = pl) H H' ∧ MutAt (fun c => c = a ∨ c = pl) H := ⟨fun c o n h => e c o (fun z => n (.inl z)) (fun z => n (.inr z)) h, fun c z => by
  rcases z with rfl | rfl
  · exact ⟨_, ha, rfl⟩
  · exact ⟨_, hp, rfl⟩⟩
theorem Kp.exM (e : ExM a pl ml H H') (ha : H a = some (.ins C dx fs)) (hp : H pl = some (.lst zs)) (hm : H ml = some (.lst ms)) : Kp (fun c => c = a ∨ c = pl ∨ c = ml) H H' ∧ MutAt (fun c => c = a ∨ c = pl ∨ c = ml) H := ⟨fun c o n h => e c o (fun z => n (.inl z)) (fun z => n (.inr (.inl z))) (fun z => n (.inr (.inr z))) h, fun c z => by
  rcases z with rfl | rfl | rfl
  · exact ⟨_, ha, rfl⟩
  · exact ⟨_, hp, rfl⟩
  · exact ⟨_, hm, rfl⟩⟩
theorem sqt_kp (h : SqT K H t xs) (e : Kp S H H' ∧ MutAt S H) : SqT K H' t xs := by
  have key : ∀ {o : HO}, Mut o = false → H t = some o → H' t = some o := fun {o} m h => e.1 t o (fun z => by
    obtain ⟨o', h', m'⟩ := e.2 t z
    rw [h] at h'
    cases h'
    rw [m] at m'
    cases m') h
  rcases h with h | h
  · rcases h with h | ⟨o, h⟩
    · exact .inl (.inl (key rfl h))
    · exact .inl (.inr ⟨o, key rfl h⟩)
  · exact .inr h
theorem LineAt.kp (h : LineAt K H v l) (e : Kp S H H' ∧ MutAt S H) : LineAt K H' v l := by
  obtain ⟨a, us, rfl, h1, h2⟩ := h
  exact ⟨a, us, rfl, sqt_kp h1 e, All2.mono (fun _ _ ⟨t, z, g⟩ => ⟨t, z, sqt_kp g e⟩) h2⟩
theorem PastAt.kp {x : List Fb × Int} (h : PastAt K H v x) (e : Kp S H H' ∧ MutAt S H) : PastAt K H' v x := by
  obtain ⟨t, lv, h1, h2, h3⟩ := h
  exact ⟨t, lv, h1, sqt_kp h2 e, h3.kp e⟩
theorem FDAt.kp {d : FD} (h : FDAt K H v d) (e : Kp S H H' ∧ MutAt S H) : FDAt K H' v d := by
  obtain ⟨t, h1, h2⟩ := h
  exact ⟨t, h1, sqt_kp h2 e⟩
theorem RdAt.kp {d : RD} (h : RdAt K H v d) (e : Kp S H H' ∧ MutAt S H) : RdAt K H' v d := by
  obtain ⟨t, h1, h2⟩ := h
  exact ⟨t, h1, sqt_kp h2 e⟩
theorem RowAt.kp (h : RowAt K H v rs) (e : Kp S H H' ∧ MutAt S H) : RowAt K H' v rs := by
  obtain ⟨b, us, rfl, g1, g2, g3⟩ := h
  exact ⟨b, us, rfl, sqt_kp g1 e, g2, fun i x hx => by
    obtain ⟨u, hu, p, hp', hs⟩ := g3 i x hx
    exact ⟨u, hu, p, hp', sqt_kp hs e⟩⟩
theorem FoldAt.kp (h : FoldAt K H C a dx pl ml st) (e : Kp S H H' ∧ MutAt S H) (n1 : ¬ S a) (n2 : ¬ S pl) (n3 : ¬ S ml) : FoldAt K H' C a dx pl ml st := by
  obtain ⟨lv, ps, h1, h2, h3, h4, ms, h5⟩ := h
  exact ⟨lv, ps, e.1 _ _ n1 h1, h2.kp e, e.1 _ _ n2 h3, All2.mono (fun _ _ g => PastAt.kp g e) h4, ms, e.1 _ _ n3 h5⟩
theorem MarksAt.kp (h : MarksAt K H t L) (e : Kp S H H' ∧ MutAt S H) (n : ¬ S t) : MarksAt K H' t L := by
  obtain ⟨us, h1, h2⟩ := h
  exact ⟨us, e.1 _ _ n h1, All2.mono (fun _ _ ⟨t, z, g⟩ => ⟨t, z, sqt_kp g e⟩) h2⟩
theorem Bx.kp (h : Bx H p n) (e : Kp S H H' ∧ MutAt S H) (m : ¬ S p) : Bx H' p n := by
  obtain ⟨x, y, z, h1, h2⟩ := h
  exact ⟨x, y, z, e.1 _ _ m h1, h2⟩
theorem NewDs.kp (h : NewDs K H t ds) (e : Kp S H H' ∧ MutAt S H) (n : ¬ S t) : NewDs K H' t ds := by
  obtain ⟨us, h1, h2⟩ := h
  exact ⟨us, e.1 _ _ n h1, All2.mono (fun _ _ z => FDAt.kp z e) h2⟩
end
structure Apart (p a pl ml lg q4 q5 : Addr) : Prop where
  c1 : p ≠ pl
  c2 : p ≠ ml
  c3 : p ≠ lg
  c4 : p ≠ q4
  c5 : p ≠ q5
  d1 : lg ≠ pl
  d2 : lg ≠ ml
  d4 : lg ≠ q4
  d5 : lg ≠ q5
  e1 : q4 ≠ pl
  e2 : q4 ≠ ml
  e5 : q4 ≠ q5
  f1 : q5 ≠ pl
  f2 : q5 ≠ ml
  n1 : a ≠ pl
  n2 : ml ≠ pl
  n3 : ml ≠ a
structure WR (K : PySem.W.Frag) (C : Addr) (H3 H : Hp) (p a dx pl ml lg q4 q5 : Addr) (sv : V) (s0 sf st1 : FoldS) (L G : List (Bool × Nat)) (ds : List FD) (n : Nat) : Prop where
  f : FoldAt K H C a dx pl ml sf
  m : MarksAt K H ml L
  g : MarksAt K H lg G
  b : Bx H p n
  y : Kp (fun c => c = p ∨ c = a ∨ c = pl ∨ c = ml ∨ c = lg ∨ c = q4 ∨ c = q5) H3 H
  z : MutAt (fun c => c = p ∨ c = a ∨ c = pl ∨ c = ml ∨ c = lg ∨ c = q4 ∨ c = q5) H3
  d : NewDs K H q5 ds
  s : ∃ us v, H q4 = some (.lst (us ++ [v])) ∧ PastAt K H v (st1.1, st1.2.1) ∧ us.length = ds.length
  v : PastAt K H sv (s0.1, s0.2.1)
  j : Apart p a pl ml lg q4 q5
section
variable {S : Addr → Prop} {K : PySem.W.Frag} {C p a dx pl ml lg q4 q5 : Addr} {H3 H H' : Hp} {sv : V} {s0 sf st1 : FoldS} {L G : List (Bool × Nat)} {ds : List FD} {n n' : Nat}
abbrev All7 (p a pl ml lg q4 q5 : Addr) : Addr → Prop := fun c => c = p ∨ c = a ∨ c = pl ∨ c = ml ∨ c = lg ∨ c = q4 ∨ c = q5
theorem WR.ins (h : WR K C H3 H p a dx pl ml lg q4 q5 sv s0 sf st1 L G ds n) : (∃ fs, H a = some (.ins C dx fs)) ∧ (∃ x, H pl = some (.lst x)) ∧ (∃ x, H ml = some (.lst x)) ∧ (∃ x, H p = some (.lst x)) ∧ (∃ x, H lg = some (.lst x)) ∧ (∃ x, H q4 = some (.lst x)) ∧ ∃ x, H q5 = some (.lst x) := by
  obtain ⟨lv, ps, h1, _, h3, _, ms, h5⟩ := h.f
  obtain ⟨u1, u2, _⟩ := h.g
  obtain ⟨d1, d2, _⟩ := h.d
  obtain ⟨s1, s2, s3, _⟩ := h.s
  exact ⟨⟨_, h1⟩, ⟨_, h3⟩, ⟨_, h5⟩, h.b.lst, ⟨_, u2⟩, ⟨_, s3⟩, ⟨_, d2⟩⟩
theorem WR.ex (h : WR K C H3 H p a dx pl ml lg q4 q5 sv s0 sf st1 L G ds n) (e : Ex H H') : WR K C H3 H' p a dx pl ml lg q4 q5 sv s0 sf st1 L G ds n := by
  obtain ⟨us, v, s1, s2, s3⟩ := h.s
  exact ⟨h.f.ex e, h.m.ex e, h.g.ex e, h.b.ex e, fun c o n g => e _ _ (h.y c o n g), h.z, h.d.ex e, ⟨us, v, e _ _ s1, s2.ex e, s3⟩, h.v.ex e, h.j⟩
theorem WR.draw (h : WR K C H3 H p a dx pl ml lg q4 q5 sv s0 sf st1 L G ds n) (e : ExB p H H') (hb : Bx H' p n') : WR K C H3 H' p a dx pl ml lg q4 q5 sv s0 sf st1 L G ds n' := by
  obtain ⟨⟨fs, ha⟩, _, _, ⟨x, hp⟩, _⟩ := h.ins
  have k := Kp.exB e hp
  obtain ⟨us, v, s1, s2, s3⟩ := h.s
  exact ⟨h.f.kp k (fun z => by rw [z, hp] at ha; cases ha) h.j.c1.symm h.j.c2.symm, h.m.kp k h.j.c2.symm, h.g.kp k h.j.c3.symm, hb, fun c o n g => e _ _ (fun z => n (.inl z)) (h.y c o n g), h.z, h.d.kp k h.j.c5.symm, ⟨us, v, e _ _ h.j.c4.symm s1, s2.kp k, s3⟩, h.v.kp k, h.j⟩
theorem WR.kp (h : WR K C H3 H p a dx pl ml lg q4 q5 sv s0 sf st1 L G ds n) (k : Kp S H H' ∧ MutAt S H) (nw : ∀ c, S c → H3 c = none) : WR K C H3 H' p a dx pl ml lg q4 q5 sv s0 sf st1 L G ds n := by
  have av : ∀ {c}, All7 p a pl ml lg q4 q5 c → ¬ S c := fun {c} hc z => by
    obtain ⟨o, ho, _⟩ := h.z c hc
    rw [nw c z] at ho
    cases ho
  obtain ⟨us, v, s1, s2, s3⟩ := h.s
  exact ⟨h.f.kp k (av (.inr (.inl rfl))) (av (.inr (.inr (.inl rfl)))) (av (.inr (.inr (.inr (.inl rfl))))), h.m.kp k (av (.inr (.inr (.inr (.inl rfl))))), h.g.kp k (av (.inr (.inr (.inr (.inr (.inl rfl)))))), h.b.kp k (av (.inl rfl)), fun c o n g => k.1 _ _ (fun z => by rw [nw c z] at g; cases g) (h.y c o n g), h.z, h.d.kp k (av (.inr (.inr (.inr (.inr (.inr (.inr rfl))))))), ⟨us, v, k.1 _ _ (av (.inr (.inr (.inr (.inr (.inr (.inl rfl))))))) s1, s2.kp k, s3⟩, h.v.kp k, h.j⟩
theorem WR.told {sf' : FoldS} {L' : List (Bool × Nat)} (h : WR K C H3 H p a dx pl ml lg q4 q5 sv s0 sf st1 L G ds n) (e : ExM a pl ml H H') (f' : FoldAt K H' C a dx pl ml sf') (m' : MarksAt K H' ml L') : WR K C H3 H' p a dx pl ml lg q4 q5 sv s0 sf' st1 L' G ds n := by
  obtain ⟨⟨fs, ha⟩, ⟨x1, h1⟩, ⟨x2, h2⟩, ⟨x3, h3⟩, ⟨x4, h4⟩, ⟨x5, h5⟩, ⟨x6, h6⟩⟩ := h.ins
  have k := Kp.exM e ha h1 h2
  have na : ∀ {c x}, H c = some (.lst x) → c ≠ a := fun {c x} g z => by rw [z, ha] at g; cases g
  obtain ⟨us, v, s1, s2, s3⟩ := h.s
  have av : ∀ {c x}, H c = some (.lst x) → c ≠ pl → c ≠ ml → ¬ (c = a ∨ c = pl ∨ c = ml) := fun {c x} g z1 z2 z => by
    rcases z with z | z | z
    · exact na g z
    · exact z1 z
    · exact z2 z
  exact ⟨f', m', h.g.kp k (av h4 h.j.d1 h.j.d2), h.b.kp k (av h3 h.j.c1 h.j.c2), fun c o n g => e _ _ (fun z => n (.inr (.inl z))) (fun z => n (.inr (.inr (.inl z)))) (fun z => n (.inr (.inr (.inr (.inl z))))) (h.y c o n g), h.z, h.d.kp k (av h6 h.j.f1 h.j.f2), ⟨us, v, e _ _ (na s1) h.j.e1 h.j.e2 s1, s2.kp k, s3⟩, h.v.kp k, h.j⟩
theorem WR.app {d : FD} {l : List Fb} {c : Int} {dv sv' : V} {dus us : List V} {v : V} (h : WR K C H3 H p a dx pl ml lg q4 q5 sv s0 sf st1 L G ds n) (hd : H q5 = some (.lst dus)) (hdus : All2 (FDAt K H) dus ds) (hdv : FDAt K H dv d) (hs : H q4 = some (.lst (us ++ [v]))) (hl : us.length = ds.length) (hsv : PastAt K H sv' (l, c)) {H1 : Hp} (e1 : Ex (upd H q5 (.lst (dus ++ [dv]))) H1) :
    WR K C H3 (upd H1 q4 (.lst ((us ++ [v]) ++ [sv']))) p a dx pl ml lg q4 q5 sv s0 sf (turnF st1 l c) L G (ds ++ [d]) n := by
  obtain ⟨⟨fs, ha⟩, ⟨x1, h1⟩, ⟨x2, h2⟩, ⟨x3, h3⟩, ⟨x4, h4⟩, ⟨x5, h5⟩, ⟨x6, h6⟩⟩ := h.ins
  have kk : Kp (fun c => c = q5 ∨ c = q4) H (upd H1 q4 (.lst ((us ++ [v]) ++ [sv']))) ∧ MutAt (fun c => c = q5 ∨ c = q4) H := ⟨fun c o n g => by
    rw [upd_ne (fun z => n (.inr z))]
    refine e1 _ _ ?_
    rw [upd_ne (fun z => n (.inl z))]
    exact g, fun c z => by
    rcases z with rfl | rfl
    · exact ⟨_, h6, rfl⟩
    · exact ⟨_, h5, rfl⟩⟩
  have av : ∀ {c}, c ≠ q5 → c ≠ q4 → ¬ (c = q5 ∨ c = q4) := fun {c} z1 z2 z => by
    rcases z with z | z
    · exact z1 z
    · exact z2 z
  have na : ¬ (a = q5 ∨ a = q4) := av (fun z => by rw [z, h6] at ha; cases ha) (fun z => by rw [z, h5] at ha; cases ha)
  refine ⟨h.f.kp kk na (av h.j.f1.symm h.j.e1.symm) (av h.j.f2.symm h.j.e2.symm), h.m.kp kk (av h.j.f2.symm h.j.e2.symm), h.g.kp kk (av h.j.d5 h.j.d4), h.b.kp kk (av h.j.c5 h.j.c4), fun c o n g => kk.1 _ _ (av (fun z => n (.inr (.inr (.inr (.inr (.inr (.inr z))))))) (fun z => n (.inr (.inr (.inr (.inr (.inr (.inl z)))))))) (h.y c o n g), h.z, ⟨dus ++ [dv], ?_, All2.app (All2.mono (fun _ _ z => FDAt.kp z kk) hdus) (.cons (hdv.kp kk) .nil)⟩, ⟨us ++ [v], sv', upd_same, hsv.kp kk, by rw [List.length_append, List.length_append, hl]; rfl⟩, h.v.kp kk, h.j⟩
  rw [upd_ne h.j.e5.symm]
  exact e1 _ _ upd_same
theorem WR.st {Hb : Hp} (h : WR K C H3 H p a dx pl ml lg q4 q5 sv s0 sf st1 L G ds n) (e : Ex Hb H3) (hb : ∀ c, All7 p a pl ml lg q4 q5 c → Hb c ≠ none) : St Hb H3 H := fun c o g z => by
  by_cases q : All7 p a pl ml lg q4 q5 c
  · obtain ⟨o', h', m'⟩ := h.z c q
    rw [g] at h'
    cases h'
    rcases z with z | z
    · exact (hb c q z).elim
    · rw [m'] at z
      cases z
  · exact h.y c o q g
end
end HH
set_option maxHeartbeats 4000000
namespace HH
open PySem PySem.Spec PyProof.Rows L2 Evl RZ
section
variable {α : Type} {K : PySem.W.Frag} {H H' : Hp} {σ : L2.St} {te ta tb tl : TE} {p q lg : Addr} {D : Ends} {tz : TS} {Q : VK} {us xs : List V} {L : List (Bool × Nat)} {n k m : Nat} {ds es : List FD} {d : FD} {v : V}
end
section
variable {K : PySem.W.Frag} {C a dx pl ml a' dx' pl' ml' : Addr} {σ : L2.St} {ta tb : TE} {st st' : FoldS} {H : Hp} {E : XK} {d : PyData} {c : Int}
end
end HH
set_option maxHeartbeats 4000000
namespace HH
open PySem PySem.Spec PyProof.Rows L2 Evl RZ
inductive OdK (K : PySem.W.Frag) (H0 H : Hp) : V → String → Prop where
  | non : OdK K H0 H .non "NoneType"
  | bl (b : Bool) : OdK K H0 H (.bl b) "bool"
  | int (i : Int) : OdK K H0 H (.int i) "int"
  | str (s : Str) : OdK K H0 H (.str s) "str"
  | lst {a : Addr} {xs : List V} (h : H a = some (.lst xs)) (n : H0 a = none) : OdK K H0 H (.ref a) "list"
  | tup {a : Addr} {xs : List V} (h : SqT K H a xs) : OdK K H0 H (.ref a) "tuple"
section
variable {K : PySem.W.Frag} {H0 H H' H1 H2 : Hp} {v : V} {T : String} {σ : L2.St} {te ta tb : TE} {q : Addr} {us : List V} {D : Ends} {tz : TS}
theorem OdK.st (h : OdK K H0 H v T) (e : St H0 H H') : OdK K H0 H' v T := by
  cases h with
  | non => exact .non
  | bl b => exact .bl b
  | int i => exact .int i
  | str s => exact .str s
  | lst h n => exact .lst (e _ _ h (.inl n)) n
  | tup h => exact .tup (sqt_st h e)
theorem OdK.ty (h : OdK K H0 H v T) : TyN K H v T := by
  cases h with
  | non => exact .non
  | bl b => exact .bl b
  | int i => exact .int i
  | str s => exact .str s
  | lst h n => exact .lst (sq_of h)
  | tup h => exact .tup h
def oddWords : List Str := ["undo", "do", "pass", "fall"]
inductive OddAt (K : PySem.W.Frag) (H0 H : Hp) : V → Prop where
  | kind {v : V} {T : String} (h : OdK K H0 H v T) (k : kitB T "tuple" = some false) : OddAt K H0 H v
  | emp {a : Addr} (h : SqT K H a []) : OddAt K H0 H (.ref a)
  | fst {a : Addr} {x : V} {xs : List V} {T : String} (h : SqT K H a (x :: xs)) (hx : OdK K H0 H x T) (k : kitB T "str" = some false) : OddAt K H0 H (.ref a)
  | word {a : Addr} {s : Str} {xs : List V} (h : SqT K H a (.str s :: xs)) (hs : s ∈ oddWords) : OddAt K H0 H (.ref a)
  | len {a : Addr} {s k : Str} {xs : List V} (h : SqT K H a (.str s :: xs)) (hs : (s, k) ∈ handedL) (hl : k.cps.size ≠ xs.length) (hz : xs.length ≤ 1000) : OddAt K H0 H (.ref a)
theorem OddAt.st (h : OddAt K H0 H v) (e : St H0 H H') : OddAt K H0 H' v := by
  cases h with
  | kind h k => exact .kind (h.st e) k
  | emp h => exact .emp (sqt_st h e)
  | fst h hx k => exact .fst (sqt_st h e) (hx.st e) k
  | word h hs => exact .word (sqt_st h e) hs
  | len h hs hl hz => exact .len (sqt_st h e) hs hl hz
theorem Handed.at' {w : World} {dH : Addr} (h : Handed K w dH) {s k : Str} (m : (s, k) ∈ handedL) : KDct K w dH s (.str k) := by
  obtain ⟨es, n, D⟩ := h.kd
  obtain ⟨u, e, r⟩ := h.v _ m
  exact ⟨es, n, u, D.at_, D.lit, e, r⟩
def OddsAt (K : PySem.W.Frag) (H0 H : Hp) (q : Addr) (k : Nat) : Prop := ∃ us, H q = some (.lst us) ∧ us.length ≤ 1000 ∧ (∀ i < k, ∃ v d, us[i]? = some v ∧ FDAt K H v d ∧ tollOk d) ∧ ∃ v, us[k]? = some v ∧ OddAt K H0 H v
theorem OddsAt.st {k : Nat} (h : OddsAt K H0 H q k) (hq : H0 q = none) (e : St H0 H H') : OddsAt K H0 H' q k := by
  obtain ⟨us, h1, h2, h3, v, h4, h5⟩ := h
  refine ⟨us, e _ _ h1 (.inl hq), h2, fun i hi => ?_, v, h4, h5.st e⟩
  obtain ⟨u, d, g1, ⟨p, rfl, g2⟩, g3⟩ := h3 i hi
  exact ⟨_, d, g1, ⟨p, rfl, sqt_st g2 e⟩, g3⟩
theorem OddsAt.ex {k : Nat} (h : OddsAt K H0 H q k) (e : Ex H H') : OddsAt K H0 H' q k := by
  obtain ⟨us, h1, h2, h3, v, h4, h5⟩ := h
  refine ⟨us, e _ _ h1, h2, fun i hi => ?_, v, h4, h5.st (.of e)⟩
  obtain ⟨u, d, g1, g2, g3⟩ := h3 i hi
  exact ⟨u, d, g1, g2.ex e, g3⟩
def OdsAt (K : PySem.W.Frag) (H0 H : Hp) (q : Addr) (n : Nat) : Prop := ∃ us, H q = some (.lst us) ∧ us.length = n ∧ ∀ v ∈ us, OddAt K H0 H v
theorem OdsAt.ex {n : Nat} (h : OdsAt K H0 H q n) (e : Ex H H') : OdsAt K H0 H' q n := by
  obtain ⟨us, h1, h2, h3⟩ := h
  exact ⟨us, e _ _ h1, h2, fun v hv => (h3 v hv).st (.of e)⟩
end
end HH
set_option maxHeartbeats 4000000
namespace HH
open PySem PySem.Spec PyProof.Rows L2 Evl RZ
section
variable {K : PySem.W.Frag} {σ : L2.St} {H : Hp} {ta te tb tc : TE} {C fI : Addr} {f : Str} {b : Bk}
end
end HH
set_option maxHeartbeats 4000000
namespace HH
open PySem PySem.Spec PyProof.Rows L2 Evl RZ
end HH
set_option maxHeartbeats 4000000
namespace HH
open PySem PySem.Spec PyProof.Rows L2 Evl RZ
section
variable {K : PySem.W.Frag} {H0 H H' H1 H2 Hk : Hp} {v : V} {σ : L2.St} {te ta tb : TE} {q p : Addr} {us : List V} {D : Ends} {tz : TS} {d : PyData} {C a dx pl ml : Addr} {st st' : FoldS} {L L' : List (Bool × Nat)} {n n' : Nat}
end
structure WK (K : PySem.W.Frag) (C : Addr) (H0 H : Hp) (p a dx pl ml : Addr) (st : FoldS) (L : List (Bool × Nat)) (n : Nat) : Prop where
  f : FoldAt K H C a dx pl ml st
  m : MarksAt K H ml L
  b : Bx H p n
  x : ExB p H0 H
  oa : H0 a = none
  op : H0 pl = none
  om : H0 ml = none
  n1 : a ≠ pl
  n2 : ml ≠ pl
  n3 : ml ≠ a
  c1 : p ≠ pl
  c2 : p ≠ ml
section
variable {K : PySem.W.Frag} {C p a dx pl ml : Addr} {H0 H H' : Hp} {st st' : FoldS} {L L' : List (Bool × Nat)} {n n' : Nat}
theorem WK.ex (h : WK K C H0 H p a dx pl ml st L n) (e : Ex H H') : WK K C H0 H' p a dx pl ml st L n := ⟨h.f.ex e, h.m.ex e, h.b.ex e, h.x.trans (ExB.of e), h.oa, h.op, h.om, h.n1, h.n2, h.n3, h.c1, h.c2⟩
theorem WK.le (h : WK K C H0 H p a dx pl ml st L n) (e : n ≤ n') : WK K C H0 H p a dx pl ml st L n' := ⟨h.f, h.m, h.b.le e, h.x, h.oa, h.op, h.om, h.n1, h.n2, h.n3, h.c1, h.c2⟩
theorem WK.ins (h : WK K C H0 H p a dx pl ml st L n) : ∃ lv ps zs gs, H a = some (.ins C dx (fldF lv st.2.1 pl ml)) ∧ H pl = some (.lst ps) ∧ H p = some (.lst zs) ∧ H ml = some (.lst gs) := by
  obtain ⟨lv, ps, h1, _, h3, _⟩ := id h.f
  obtain ⟨zs, hz⟩ := h.b.lst
  obtain ⟨gs, hg, _⟩ := id h.m
  exact ⟨lv, ps, zs, gs, h1, h3, hz, hg⟩
theorem WK.c0 (h : WK K C H0 H p a dx pl ml st L n) : p ≠ a := by
  obtain ⟨lv, ps, zs, gs, ha, hp, hz, hg⟩ := h.ins
  exact fun z => by rw [z, ha] at hz; cases hz
theorem WK.draw (h : WK K C H0 H p a dx pl ml st L n) (e : ExB p H H') (hb : Bx H' p n') : WK K C H0 H' p a dx pl ml st L n' := by
  obtain ⟨lv, ps, zs, gs, ha, hp, hz, hg⟩ := h.ins
  have k := Kp.exB e hz
  exact ⟨h.f.kp k h.c0.symm h.c1.symm h.c2.symm, h.m.kp k h.c2.symm, hb, h.x.trans e, h.oa, h.op, h.om, h.n1, h.n2, h.n3, h.c1, h.c2⟩
theorem WK.fold (h : WK K C H0 H p a dx pl ml st L n) (e : ExF a pl H H') (f' : FoldAt K H' C a dx pl ml st') : WK K C H0 H' p a dx pl ml st' L n := by
  obtain ⟨lv, ps, zs, gs, ha, hp, hz, hg⟩ := h.ins
  have k := Kp.exF e ha hp
  exact ⟨f', h.m.kp k (fun y => by rcases y with y | y; exact h.n3 y; exact h.n2 y), h.b.kp k (fun y => by rcases y with y | y; exact h.c0 y; exact h.c1 y), exb_f h.x h.oa h.op e, h.oa, h.op, h.om, h.n1, h.n2, h.n3, h.c1, h.c2⟩
theorem WK.many (h : WK K C H0 H p a dx pl ml st L n) (e : ExM a pl ml H H') (f' : FoldAt K H' C a dx pl ml st') (m' : MarksAt K H' ml L') : WK K C H0 H' p a dx pl ml st' L' n := by
  obtain ⟨lv, ps, zs, gs, ha, hp, hz, hg⟩ := h.ins
  have k := Kp.exM e ha hp hg
  exact ⟨f', m', h.b.kp k (fun y => by rcases y with y | y | y; exact h.c0 y; exact h.c1 y; exact h.c2 y), exb_m h.x h.oa h.op h.om e, h.oa, h.op, h.om, h.n1, h.n2, h.n3, h.c1, h.c2⟩
end
end HH
set_option maxHeartbeats 4000000
namespace HH
open PySem PySem.Spec PyProof.Rows L2 Evl RZ
theorem given_range (n : Nat) (f : Nat → Bool) (g : Nat → V) : given n f g = ((List.range n).filter f).map g := by
  induction n with
  | zero => rfl
  | succ n ih =>
    rw [List.range_succ, List.filter_append, List.map_append, ← ih]
    cases h : f n with
    | true => rw [given_yes h, List.filter_cons_of_pos h]; rfl
    | false => rw [given_no h, List.filter_cons_of_neg (by rw [h]; decide), List.filter_nil, List.map_nil, List.append_nil]
section
variable {l : List Fb} {L : List Cow}
end
section
variable {K : PySem.W.Frag} {σ : L2.St} {H : Hp} {te t2 : TE}
theorem ex_fresh {H0 H1 H2 : Hp} {a pl : Addr} (e : Ex H0 H1) (x : ExF a pl H1 H2) (ha : H0 a = none) (hp : H0 pl = none) : Ex H0 H2 := fun c o h => x c o (fun z => by rw [z, ha] at h; cases h) (fun z => by rw [z, hp] at h; cases h) (e c o h)
end
end HH
set_option maxHeartbeats 4000000
namespace HH
open PySem PySem.Spec PyProof.Rows L2 Evl RZ
theorem row_led {l : List Fb} {L : List Cow} (e : ∀ x ∈ L.map (·.1), x < l.length) : rowF (L.map (mvC l)) = rowsOf L := by
  unfold rowF rowsOf
  rw [List.map_map]
  refine List.map_congr_left fun cw hc => ?_
  have := e cw.1 (List.mem_map_of_mem (f := (·.1)) hc)
  show ((mvF l cw.1 cw.2).2.1, (mvF l cw.1 cw.2).2.2.1) = cw.2
  unfold mvF
  rw [List.getElem?_eq_getElem this]
theorem ids_ltF {l : List Fb} {L : List Cow} (h : (L.map (·.1)).Perm (List.range (rowF l).length)) : ∀ x ∈ L.map (·.1), x < l.length := fun x hx => by
  have := List.mem_range.mp (h.mem_iff.mp hx)
  rw [rowF_len] at this
  exact this
theorem names_led {l : List Fb} {L : List Cow} (h : (L.map (·.1)).Perm (List.range (rowF l).length)) (nd : (namesF l).Nodup) : (namesF (L.map (mvC l))).Nodup := by
  rw [led_names (ids_ltF h)]
  have h2 : (L.map fun c => (namesF l).getD c.1 0) = (L.map (·.1)).map fun k => (namesF l).getD k 0 := by
    rw [List.map_map]
    rfl
  rw [h2]
  refine (h.map fun k => (namesF l).getD k 0).nodup_iff.mpr ?_
  have h3 : (List.range (rowF l).length).map (fun k => (namesF l).getD k 0) = namesF l := by
    have hl : (rowF l).length = (namesF l).length := by rw [rowF_len, namesF, List.length_map]
    rw [hl]
    refine List.ext_getElem? fun i => ?_
    rw [List.getElem?_map]
    rcases Nat.lt_or_ge i (namesF l).length with c | c
    · rw [List.getElem?_range c, Option.map_some, List.getD_eq_getElem?_getD, List.getElem?_eq_getElem c]
      rfl
    · rw [List.getElem?_eq_none (by rw [List.length_range]; exact c), List.getElem?_eq_none c]
      rfl
  rw [h3]
  exact nd
section
variable {K : PySem.W.Frag} {σ : L2.St} {H : Hp} {te t2 ta : TE} {v : V} {rs : HH.Row}
theorem LastAtF.up {H' : Hp} {q : Addr} {L : List Cow} (h : LastAtF K H q L) (e : Ex H H') : LastAtF K H' q L := by
  obtain ⟨u, ot, o, h1, h2, h3, h4⟩ := h.ex
  exact ⟨⟨u, ot, o, e _ _ h1, h2.ex e, e _ _ h3, h4⟩⟩
theorem LastAtF.st {H0 H' : Hp} {q : Addr} {L : List Cow} (h : LastAtF K H q L) (e : St H0 H H') : LastAtF K H' q L := by
  obtain ⟨u, ot, o, h1, h2, h3, h4⟩ := h.ex
  exact ⟨⟨u, ot, o, e _ _ h1 (.inr rfl), h2.st e, e _ _ h3 (.inr rfl), h4⟩⟩
theorem ev_paidX {C CN a dx pl ml : Addr} {st : FoldS} {x : Int} {tn : TE} {E : L2.St → XK} (fc : FoldC K C) (h : Ev ta σ H (.ref a)) (hn : Ev tn σ H (.int x)) (hf : FoldAt K H C a dx pl ml st) (nd : (namesF st.1).Nodup) (hl : st.1.length ≤ 1000) (hx : x ∈ namesF st.1) :
    Ev (tMethX C "paid" (spPaidM K C CN) [] E ta (tCons tn tNil)) σ H (.int (paidOf st.1 x)) := fun H1 e1 Q q => by
  obtain ⟨lv, ps, h1, h2, h3, h4⟩ := id hf
  refine h H1 e1 _ fun H2 e2 => ⟨a, dx, _, rfl, (e1.trans e2) _ _ h1, rfl, hn H2 (e1.trans e2) _ fun H3 e3 => ⟨a, dx, pl, ml, st, x, rfl, fc, hf.ex ((e1.trans e2).trans e3), hl, fun i bb hb hbn no H9 e9 => ?_, fun z => absurd hx z⟩⟩
  have := paid_of nd (List.mem_of_getElem? hb)
  rw [hbn] at this
  rw [← this]
  exact q H9 ((e2.trans e3).trans e9)
end
end HH
set_option maxHeartbeats 4000000
namespace HH
open PySem PySem.Spec PyProof.Rows L2 Evl RZ
theorem DoTo.fresh {st st2 : FoldS} {ds : List FD} {xs : List (Option Int)} (r : DoTo st ds xs st2) : st2.2.1 ≤ st.2.1 + (ds.length : Int) := by
  induction r with
  | nil st => show _ ≤ _ + ((0 : Nat) : Int); omega
  | @cons st st2 d ds x xs l c h0 _ ih =>
    have h1 := h0.fresh
    have ih : st2.2.1 ≤ c + (ds.length : Int) := ih
    rw [List.length_cons]
    omega
theorem DoTo.last {st0 st : FoldS} {ds : List FD} {d : FD} {xs : List (Option Int)} (h : DoTo st0 (ds ++ [d]) xs st) : ∃ ys st1 x l c, DoTo st0 ds ys st1 ∧ Due st1.1 st1.2.1 d (.told x) l c ∧ st = turnF st1 l c := by
  induction ds generalizing st0 xs with
  | nil =>
    cases h with
    | cons h0 r =>
      cases r with
      | nil => exact ⟨[], st0, _, _, _, .nil _, h0, rfl⟩
  | cons e ds ih =>
    cases h with
    | cons h0 r =>
      obtain ⟨ys, st1, x, l, c, k1, k2, k3⟩ := ih r
      exact ⟨_ :: ys, st1, x, l, c, .cons h0 k1, k2, k3⟩
theorem DoTo.at' {st0 st stj : FoldS} {ds : List FD} {d : FD} {j : Nat} {xs ys : List (Option Int)} (ok : OkL st0.1 st0.2.1) (tk : ∀ d ∈ ds, tollOk d) (h : DoTo st0 ds xs st) (g : DoTo st0 (ds.take j) ys stj) (hj : ds[j]? = some d) : ∃ x l c, Due stj.1 stj.2.1 d (.told x) l c := by
  have hjl := (List.getElem?_eq_some_iff.mp hj).1
  have e : ds = ds.take j ++ d :: ds.drop (j + 1) := by
    have h1 := (List.take_append_drop j ds).symm
    rw [List.drop_eq_getElem_cons hjl] at h1
    have h2 : ds[j] = d := by
      rw [List.getElem?_eq_getElem hjl] at hj
      exact Option.some.inj hj
    rwa [h2] at h1
  rw [e] at h
  obtain ⟨zs, s3, x, l3, c3, k1, k2⟩ := h.front
  obtain ⟨_, rfl⟩ := DoTo.one ok (fun z hz => tk z (List.mem_of_mem_take hz)) g k1
  exact ⟨x, l3, c3, k2⟩
section
variable {K : PySem.W.Frag} {σ : L2.St} {H : Hp} {te : TE}
theorem ev_neNil {k : Nat} {a : Addr} {xs : List V} {ds : List PyData} (h : Ev te σ H (.ref a)) (ha : SqL K H a xs) (hd : DpAll K H xs ds) (hn : ∀ d ∈ ds, Nice k d) (hk : k < 64) : Ev (tOp (rNeD K) te (tLst tNil)) σ H (.bl (!xs.isEmpty)) := fun H1 e Q q =>
  h H1 e _ fun H2 e2 => ⟨by show 0 ≤ sizeLine; decide, fun p hp => by
    have e3 := (e.trans e2).trans (Ex.new (o := .lst []) hp)
    refine ⟨.list ds, .list [], .lst (ex_l e3 ha) (dps_ex e3 hd), .lst (sq_of upd_same) .nil, (nice_list hn).shaped (by omega), (nice_list (k := 0) (fun d h => by cases h)).shaped (by omega), ?_⟩
    have e4 : PyData.eqv (.list ds) (.list []) = xs.isEmpty := by
      have hl := dps_len hd
      cases ds with
      | nil =>
        have : xs = [] := List.length_eq_zero_iff.mp hl
        subst this
        simp [PyData.eqv, PyData.eqvAll]
      | cons d ds =>
        cases xs with
        | nil => cases hl
        | cons x xs => simp [PyData.eqv, PyData.eqvAll]
    rw [e4]
    exact q _ (e2.trans (Ex.new hp))⟩
end
end HH
set_option maxHeartbeats 4000000
namespace HH
open PySem PySem.Spec PyProof.Rows L2 Evl RZ
def spEndedP (K : PySem.W.Frag) : Sp := fun vs H Q _ => ∃ (p : Addr) (v : V) (rs : HH.Row) (n : Nat), vs = [.ref p, v] ∧ RowAt K H v rs ∧ rs.length ≤ 30 ∧ (∀ b ∈ rs, 0 ≤ b.2) ∧ Bx H p n ∧ n + 1000 < Lim ∧
  ∀ (q : Addr) (v' : V) (ot lp : Addr) (o : Obj) (pvs : List V) (L : List Cow) (ps : List (Int × Int)) (H' : Hp), ExB p H H' → Bx H' p (n + 1000) → H' q = some (.tup [v', .ref ot, .ref lp]) → RowAt K H' v' (rowsOf L) → H' ot = some (.frz o (.tup (ordL L))) → PlainT o → H' lp = some (.lst pvs) → Beasts K H' pvs ps → PRun (tag 0 rs) L ps → Facts rs.length L ps → passL (rowsOf L) = [] → Q (.ref q) H'
theorem Step.appR {L M : List Cow} (X : List Cow) (h : Step L M) : Step (L ++ X) (M ++ X) := by
  obtain ⟨pre, post, a, b, rfl, hp, rfl⟩ := h
  exact ⟨pre, post ++ X, a, b, by simp, hp, by simp⟩
theorem Step.consL {L M : List Cow} (x : Cow) (h : Step L M) : Step (x :: L) (x :: M) := by
  obtain ⟨pre, post, a, b, rfl, hp, rfl⟩ := h
  exact ⟨x :: pre, post, a, b, rfl, hp, rfl⟩
theorem Steps.appR {L M : List Cow} (X : List Cow) (h : Steps L M) : Steps (L ++ X) (M ++ X) := by
  induction h with
  | refl => exact .refl _
  | head s _ ih => exact .head (s.appR X) ih
theorem Steps.consL {L M : List Cow} (x : Cow) (h : Steps L M) : Steps (x :: L) (x :: M) := by
  induction h with
  | refl => exact .refl _
  | head s _ ih => exact .head (s.consL x) ih
def cameC (R : HH.Row) (cs : List Int) (c : Cow) : Fb := (cs.getD c.1 0, c.2.1, c.2.2, sS R c.1 - c.2.1)
structure CameM (R : HH.Row) (cs : List Int) (l : List Fb) (M E : List Cow) : Prop where
  s : Steps (tag 0 R) E
  nf : Nf E
  m : Steps M E
  tl : ∀ x ∈ M, 0 ≤ x.2.2
  is : l = M.map (cameC R cs)
def Came (R : HH.Row) (cs : List Int) (l : List Fb) : Prop := ∃ M E, CameM R cs l M E
theorem came_row {R : HH.Row} {cs : List Int} (M : List Cow) : rowF (M.map (cameC R cs)) = rowsOf M := by
  unfold rowF rowsOf
  rw [List.map_map]
  rfl
theorem came_start {R : HH.Row} (tl : ∀ b ∈ R, 0 ≤ b.2) : Came R ((List.range R.length).map fun (k : Nat) => (k : Int)) (startF R) := by
  obtain ⟨E, s, n⟩ := nf_is (good_tag tl).tl
  refine ⟨tag 0 R, E, s, n, s, (good_tag tl).tl, ?_⟩
  refine List.ext_getElem? fun i => ?_
  rw [startF, List.getElem?_map, List.getElem?_map, tag_at]
  rcases Nat.lt_or_ge i R.length with c | c
  · rw [List.getElem?_range c, List.getElem?_eq_getElem c]
    show some ((i : Int), sS R i, tS R i, (0 : Int)) = some (cameC R _ (0 + i, R[i]))
    have h1 : sS R i = R[i].1 := by unfold sS; rw [List.getElem?_eq_getElem c]; rfl
    have h2 : tS R i = R[i].2 := by unfold tS; rw [List.getElem?_eq_getElem c]; rfl
    unfold cameC
    rw [Nat.zero_add, List.getD_eq_getElem?_getD, List.getElem?_map, List.getElem?_range c]
    show some ((i : Int), sS R i, tS R i, (0 : Int)) = some ((i : Int), R[i].1, R[i].2, sS R i - R[i].1)
    rw [h1, h2, Int.sub_self]
  · rw [List.getElem?_eq_none (by rw [List.length_range]; exact c), List.getElem?_eq_none c]
    rfl
theorem came_turn {R : HH.Row} {cs : List Int} {l : List Fb} {w : Bool} {i : Nat} (h : Came R cs l) (hc : canZ (rowF l) (w, (i : Int)) = true) : Came R cs (turnL w l i) := by
  obtain ⟨M, E, s, n, m, tl, rfl⟩ := h
  rw [came_row] at hc
  cases w with
  | true =>
    have hc : (decide (1 ≤ (i : Int) ∧ (i : Int) < ((rowsOf M).length : Int)) && letsN (rowsOf M) (i : Int).toNat) = true := hc
    rw [Bool.and_eq_true, decide_eq_true_iff, Int.toNat_natCast] at hc
    obtain ⟨pre, post, a, b, rfl, rfl, hp, _⟩ := cow_pass (by omega) hc.2
    have st : Step (pre ++ a :: b :: post) (pre ++ (b.1, (b.2.1 - a.2.2, b.2.2)) :: a :: post) := ⟨_, _, _, _, rfl, hp, rfl⟩
    refine ⟨_, E, s, n, ends_step tl st m n, step_tl st tl, ?_⟩
    rw [List.map_append, List.map_cons, List.map_cons]
    have hl : (pre.map (cameC R cs)).length = pre.length := List.length_map ..
    have := turnL_pass (pre.map (cameC R cs)) (post.map (cameC R cs)) (cameC R cs a) (cameC R cs b)
    rw [hl] at this
    rw [this, List.map_append, List.map_cons, List.map_cons]
    congr 2
    show (cs.getD b.1 0, b.2.1 - a.2.2, b.2.2, sS R b.1 - b.2.1 + a.2.2) = (cs.getD b.1 0, b.2.1 - a.2.2, b.2.2, sS R b.1 - (b.2.1 - a.2.2))
    congr 3
    omega
  | false =>
    have hc : (decide (0 ≤ (i : Int) ∧ (i : Int) + 1 < ((rowsOf M).length : Int)) && fallsN (rowsOf M) (i : Int).toNat) = true := hc
    rw [Bool.and_eq_true, decide_eq_true_iff, Int.toNat_natCast] at hc
    obtain ⟨pre, post, a, b, rfl, rfl, hp, _⟩ := cow_fall (by omega) hc.2
    have st : FStep (pre ++ a :: b :: post) (pre ++ b :: (a.1, (a.2.1 + b.2.2, a.2.2)) :: post) := ⟨_, _, _, _, rfl, hp, rfl⟩
    refine ⟨_, E, s, n, .head (fstep_back st) m, fstep_tl st tl, ?_⟩
    rw [List.map_append, List.map_cons, List.map_cons]
    have hl : (pre.map (cameC R cs)).length = pre.length := List.length_map ..
    have := turnL_fall (pre.map (cameC R cs)) (post.map (cameC R cs)) (cameC R cs a) (cameC R cs b)
    rw [hl] at this
    rw [this, List.map_append, List.map_cons, List.map_cons]
    congr 3
    show (cs.getD a.1 0, a.2.1 + b.2.2, a.2.2, sS R a.1 - a.2.1 - b.2.2) = (cs.getD a.1 0, a.2.1 + b.2.2, a.2.2, sS R a.1 - (a.2.1 + b.2.2))
    congr 3
    omega
theorem CameM.ids {R : HH.Row} {cs : List Int} {l : List Fb} {M E : List Cow} (h : CameM R cs l M E) : (M.map (·.1)).Perm (List.range R.length) := h.m.ids.symm.trans h.s.idsT
theorem CameM.len {R : HH.Row} {cs : List Int} {l : List Fb} {M E : List Cow} (h : CameM R cs l M E) : l.length = R.length := by
  have := h.ids.length_eq
  rw [List.length_map, List.length_range] at this
  rw [h.is, List.length_map, this]
theorem came_back {R : HH.Row} {cs : List Int} {l : List Fb} {b : Int × Int} {n : Int} (h : Came R cs l) (ht : 0 ≤ b.2) (hl : cs.length = R.length) : Came (R ++ [b]) (cs ++ [n]) (l ++ [(n, b.1, b.2, 0)]) := by
  obtain ⟨M, E, k⟩ := h
  have ids := k.ids
  have tl2 : ∀ x ∈ M ++ [(R.length, b)], 0 ≤ x.2.2 := fun x hx => by
    rcases List.mem_append.mp hx with hx | hx
    · exact k.tl x hx
    · cases List.mem_singleton.mp hx
      exact ht
  have m2 := k.m.appR [(R.length, b)]
  obtain ⟨N, sN, nN⟩ := nf_is (m2.tl tl2)
  refine ⟨M ++ [(R.length, b)], N, ?_, nN, m2.trans sN, tl2, ?_⟩
  · rw [tag_app, Nat.zero_add]
    exact (k.s.appR [(R.length, b)]).trans sN
  · rw [List.map_append, k.is]
    congr 1
    · refine List.map_congr_left fun c hc => ?_
      have hi : c.1 < R.length := List.mem_range.mp (ids.mem_iff.mp (List.mem_map_of_mem hc))
      unfold cameC sS
      rw [List.getD_eq_getElem?_getD, List.getD_eq_getElem?_getD, List.getElem?_append_left (by omega), List.getElem?_append_left hi]
    · show [(n, b.1, b.2, (0 : Int))] = [cameC (R ++ [b]) (cs ++ [n]) (R.length, b)]
      unfold cameC sS
      rw [List.getD_eq_getElem?_getD, ← hl, List.getElem?_append_right (Nat.le_refl _), Nat.sub_self, hl, List.getElem?_append_right (Nat.le_refl _), Nat.sub_self]
      show [(n, b.1, b.2, (0 : Int))] = [(n, b.1, b.2, b.1 - b.1)]
      rw [Int.sub_self]
theorem tag_one (R : HH.Row) : tag 1 R = rlL (fun k => k + 1) (tag 0 R) := by
  refine List.ext_getElem? fun i => ?_
  unfold rlL
  rw [List.getElem?_map, tag_at, tag_at, Option.map_map]
  cases R[i]? with
  | none => rfl
  | some b =>
    show some (1 + i, b) = some (0 + i + 1, b)
    rw [Nat.zero_add, Nat.add_comm]
theorem came_front {R : HH.Row} {cs : List Int} {l : List Fb} {b : Int × Int} {n : Int} (h : Came R cs l) (ht : 0 ≤ b.2) : Came (b :: R) (n :: cs) ((n, b.1, b.2, 0) :: l) := by
  obtain ⟨M, E, k⟩ := h
  have tl2 : ∀ x ∈ (0, b) :: rlL (fun k => k + 1) M, 0 ≤ x.2.2 := fun x hx => by
    rcases List.mem_cons.mp hx with rfl | hx
    · exact ht
    · obtain ⟨y, hy, rfl⟩ := List.mem_map.mp hx
      exact k.tl y hy
  have m2 := (k.m.map (fun k => k + 1)).consL (0, b)
  obtain ⟨N, sN, nN⟩ := nf_is (m2.tl tl2)
  refine ⟨(0, b) :: rlL (fun k => k + 1) M, N, ?_, nN, m2.trans sN, tl2, ?_⟩
  · show Steps ((0, b) :: tag 1 R) N
    rw [tag_one]
    exact ((k.s.map (fun k => k + 1)).consL (0, b)).trans sN
  · rw [k.is, List.map_cons, rlL, List.map_map]
    congr 1
    show (n, b.1, b.2, (0 : Int)) = (n, b.1, b.2, b.1 - b.1)
    rw [Int.sub_self]
theorem CameM.ends {R : HH.Row} {cs : List Int} {l : List Fb} {M E L : List Cow} (k : CameM R cs l M E) (s : Steps (tag 0 (rowF l)) L) (n : Nf L) : E = rlL (ixN (M.map (·.1))) L := by
  rw [k.is, came_row] at s
  have s2 := s.map (ixN (M.map (·.1)))
  rw [rl_tag] at s2
  exact nf_any k.tl k.m k.nf s2 (nf_map n)
theorem CameM.at' {R : HH.Row} {cs : List Int} {l : List Fb} {M E : List Cow} (k : CameM R cs l M E) {i : Nat} (hi : i < l.length) : ∃ c, M[i]? = some c ∧ ixN (M.map (·.1)) i = c.1 ∧ l[i]? = some (cameC R cs c) := by
  have hm : i < M.length := by rw [k.is, List.length_map] at hi; exact hi
  refine ⟨M[i], List.getElem?_eq_getElem hm, ?_, ?_⟩
  · unfold ixN
    rw [List.getElem?_map, List.getElem?_eq_getElem hm]
    rfl
  · rw [k.is, List.getElem?_map, List.getElem?_eq_getElem hm]
    rfl
theorem CameM.lastNames {R : HH.Row} {cs : List Int} {l : List Fb} {M E L : List Cow} (k : CameM R cs l M E) (s : Steps (tag 0 (rowF l)) L) (n : Nf L) : (L.map fun c => (namesF l).getD c.1 0) = E.map fun c => cs.getD c.1 0 := by
  have e := k.ends s n
  have il := ids_ltF s.idsT
  rw [e, rlL, List.map_map]
  refine List.map_congr_left fun c hc => ?_
  obtain ⟨m, h1, h2, h3⟩ := k.at' (il c.1 (List.mem_map_of_mem hc))
  show (namesF l).getD c.1 0 = cs.getD (ixN (M.map (·.1)) c.1) 0
  rw [h2, List.getD_eq_getElem?_getD, namesF, List.getElem?_map, h3]
  rfl
theorem CameM.rows {R : HH.Row} {cs : List Int} {l : List Fb} {M E L : List Cow} (k : CameM R cs l M E) (s : Steps (tag 0 (rowF l)) L) (n : Nf L) : rowsOf L = rowsOf E := by
  rw [k.ends s n, rl_rows]
theorem CameM.paid {R : HH.Row} {cs : List Int} {l : List Fb} {M E L : List Cow} (k : CameM R cs l M E) (nd : (namesF l).Nodup) (s : Steps (tag 0 (rowF l)) L) (n : Nf L) {e : Cow} (he : e ∈ E) : paidOf (L.map (mvC l)) (cs.getD e.1 0) = sS R e.1 - e.2.1 ∧ cs.getD e.1 0 ∈ namesF (L.map (mvC l)) := by
  have il := ids_ltF s.idsT
  rw [k.ends s n] at he
  obtain ⟨c, hc, rfl⟩ := List.mem_map.mp he
  obtain ⟨m, h1, h2, h3⟩ := k.at' (il c.1 (List.mem_map_of_mem hc))
  have hm := List.mem_map_of_mem (f := mvC l) hc
  have key : mvC l c = (cs.getD m.1 0, c.2.1, c.2.2, sS R m.1 - m.2.1 + m.2.1 - c.2.1) := by
    unfold mvC mvF
    rw [h3]
    rfl
  show paidOf (L.map (mvC l)) (cs.getD (ixN (M.map (·.1)) c.1) 0) = sS R (ixN (M.map (·.1)) c.1) - c.2.1 ∧ cs.getD (ixN (M.map (·.1)) c.1) 0 ∈ namesF (L.map (mvC l))
  rw [h2]
  have := paid_of (names_led s.idsT nd) hm
  rw [key] at this hm
  refine ⟨?_, List.mem_map.mpr ⟨_, hm, rfl⟩⟩
  have this : paidOf (L.map (mvC l)) (cs.getD m.1 0) = sS R m.1 - m.2.1 + m.2.1 - c.2.1 := this
  rw [this]
  omega
def duesP (R : HH.Row) (ps : HH.Row) (k : Nat) : List Int := (ps.filter fun b => decide (b.2 = (k : Int))).map fun b => tS R b.1.toNat
theorem dues_snoc (R ps : HH.Row) (q : Int × Int) (k : Nat) : duesP R (ps ++ [q]) k = duesP R ps k ++ (if q.2 = (k : Int) then [tS R q.1.toNat] else []) := by
  unfold duesP
  rw [List.filter_append, List.map_append]
  congr 1
  by_cases c : q.2 = (k : Int)
  · simp [c]
  · simp [c]
theorem lost_all {R : HH.Row} {E : List Cow} {ps : HH.Row} (h : PRun (tag 0 R) E ps) (nd : ((tag 0 R).map (·.1)).Nodup) : (E.map (·.1)).Nodup ∧ ∀ c ∈ E, c.2.2 = tS R c.1 ∧ c.2.1 = sS R c.1 - (duesP R ps c.1).sum := by
  induction h with
  | nil =>
    refine ⟨nd, fun c hc => ?_⟩
    obtain ⟨i, hi⟩ := List.getElem?_of_mem hc
    rw [tag_at, Option.map_eq_some_iff] at hi
    obtain ⟨b, hb, rfl⟩ := hi
    rw [Nat.zero_add]
    show b.2 = tS R i ∧ b.1 = sS R i - 0
    unfold tS sS
    rw [hb]
    exact ⟨rfl, by show b.1 = b.1 - 0; omega⟩
  | @step pre post a b ps _ hp ih =>
    obtain ⟨n1, n2⟩ := ih
    have pm : ((pre ++ (b.1, (b.2.1 - a.2.2, b.2.2)) :: a :: post).map (·.1)).Perm ((pre ++ a :: b :: post).map (·.1)) := by
      rw [List.map_append, List.map_append]
      exact List.Perm.append_left _ (List.Perm.swap ..)
    have nd2 := pm.nodup_iff.mpr n1
    refine ⟨nd2, fun c hc => ?_⟩
    have ha := n2 a (by simp)
    have hb := n2 b (by simp)
    rw [dues_snoc]
    by_cases e : c = (b.1, (b.2.1 - a.2.2, b.2.2))
    · subst e
      refine ⟨hb.1, ?_⟩
      show b.2.1 - a.2.2 = sS R b.1 - (duesP R ps b.1 ++ if ((b.1 : Int)) = ((b.1 : Nat) : Int) then [tS R ((a.1 : Int)).toNat] else []).sum
      rw [if_pos rfl, sum_snoc, Int.toNat_natCast, ← ha.1]
      have := hb.2
      omega
    · have hc2 : c ∈ pre ++ a :: b :: post ∧ c.1 ≠ b.1 := by
        rw [List.map_append, List.map_cons, List.map_cons] at nd2
        rcases List.mem_append.mp hc with h | h
        · refine ⟨by simp [h], fun z => ?_⟩
          have := (List.nodup_append.mp nd2).2.2 c.1 (List.mem_map_of_mem h) b.1 (by simp)
          exact this z
        · rcases List.mem_cons.mp h with h | h
          · exact absurd h e
          · have h3 := (List.nodup_cons.mp (List.nodup_append.mp nd2).2.1).1
            rcases List.mem_cons.mp h with rfl | h
            · exact ⟨by simp, fun z => h3 (by simp [← z])⟩
            · refine ⟨by simp [h], fun z => h3 ?_⟩
              refine List.mem_cons_of_mem _ ?_
              show b.1 ∈ post.map (·.1)
              rw [← z]
              exact List.mem_map_of_mem h
      obtain ⟨g1, g2⟩ := n2 c hc2.1
      refine ⟨g1, ?_⟩
      rw [if_neg (fun z : ((b.1 : Nat) : Int) = (c.1 : Int) => hc2.2 (by omega)), List.append_nil]
      exact g2
end HH
set_option maxHeartbeats 4000000
namespace K77
open PySem PySem.Spec PyProof.Rows L2 Evl HH RZ
section
variable {P : Program} {w : World} {K : PySem.W.Frag} {mg : Str → Option Value} {base : Heap}
theorem ok_law_of {f f1 : Addr} {fd fd1 : FuncData} (F : FnP K "_law_of" s_law_of f fd) (g : mg "_law_of" = some (.ref f)) (b : Binds K fd ["_law_box", "_law_pool"] []) (h_law_take : Has P w K mg base 1 "_law_take" ["_law_box", "_law_many"] spTake f1 fd1) (m_len : mg "len" = none) :
    Has P w K mg base 2 "_law_of" ["_law_box", "_law_pool"] (spOf K) f fd := by
  refine ⟨F.ok sc_law_of (fun vs H Q E h => ?_) (fun cdv A outer s H vs Q E hr h => ?_), g, F.kp, b⟩
  · obtain ⟨p, l, xs, n, rfl, _⟩ := h
    rfl
  · obtain ⟨p, l, xs, n, rfl, hl, h0, h1, hne, hb, hn, q⟩ := h
    refine ⟨_, PSs.nox (pss_one (ps_ret (pe_ix ix_list (pv 1) (pe_call h_law_take.G (hr.mono (by decide)) (by rfl) h_law_take.g h_law_take.kp h_law_take.b .nil pass0 (pa_cons (pv 0) (pa_cons (pe_callB call_len_seq (by rfl) m_len PySem.boot_len (pa_cons (pv 1) pa_nil)) pa_nil))) (fun _ _ => rfl)))), ?_⟩
    refine ⟨.ref l, rfl, .ref p, rfl, .ref l, rfl, l, xs, rfl, .inl hl, p, (xs.length : Int), n, rfl, by omega, by omega, hb, hn, fun r H1 r0 r1 e1 hb1 => ?_⟩
    obtain ⟨k, rfl⟩ := Int.eq_ofNat_of_zero_le r0
    have hk : k < xs.length := by omega
    exact ⟨l, xs, k, xs[k], rfl, rfl, e1.l hne hl, atI_nat (List.getElem?_eq_getElem hk), q k _ H1 (List.getElem?_eq_getElem hk) e1 hb1⟩
theorem ok_law_row {f f1 f2 : Addr} {fd fd1 fd2 : FuncData} (F : FnP K "_law_row" s_law_row f fd) (g : mg "_law_row" = some (.ref f)) (b : Binds K fd ["_law_box", "_law_most"] []) (h_law_take : Has P w K mg base 1 "_law_take" ["_law_box", "_law_many"] spTake f1 fd1) (h_law_of : Has P w K mg base 2 "_law_of" ["_law_box", "_law_pool"] (spOf K) f2 fd2) (m_range : mg "range" = none) (m_tuple : mg "tuple" = none) :
    Has P w K mg base 3 "_law_row" ["_law_box", "_law_most"] (spRow K) f fd := by
  refine ⟨F.ok sc_law_row (fun vs H Q E h => ?_) (fun cdv A outer s H vs Q E hr h => ?_), g, F.kp, b⟩
  · obtain ⟨p, m, n, rfl, _⟩ := h
    rfl
  · obtain ⟨p, m, n, rfl, hm, hm2, hb, hn, q⟩ := h
    refine ⟨_, PSs.nox (pss_cons (ps_par3 (i := 2) (j := 3) (l := 4) (by rfl) sc_law_row.nd rfl rfl rfl (by decide) (by decide) (by decide) rfl rfl rfl (pa_cons (pe_op op_add pe_int (pe_call h_law_take.G (hr.mono (by decide)) (by rfl) h_law_take.g h_law_take.kp h_law_take.b .nil pass0 (pa_cons (pv 0) (pa_cons (pv 1) pa_nil)))) (pa_cons (pe_call h_law_take.G (hr.mono (by decide)) (by rfl) h_law_take.g h_law_take.kp h_law_take.b .nil pass0 (pa_cons (pv 0) (pa_cons pe_int pa_nil))) (pa_cons (pe_call h_law_of.G (hr.mono (by decide)) (by rfl) h_law_of.g h_law_of.kp h_law_of.b .nil pass0 (pa_cons (pv 0) (pa_cons (pe_lst (pa_cons pe_int (pa_cons pe_int (pa_cons pe_int (pa_cons pe_int pa_nil))))) pa_nil))) pa_nil))) (by rfl))
      (pss_cons (ps_par (i := 5) (j := 6) (by rfl) sc_law_row.nd rfl rfl (by decide) rfl rfl (pa_cons (pe_ix ix_list (pe_lst (pa_cons pe_int (pa_cons pe_int (pa_cons pe_int (pa_cons pe_int (pa_cons pe_int (pa_cons pe_int pa_nil))))))) (pv 3) (fun _ _ => rfl)) (pa_cons (pe_ix ix_list (pe_lst (pa_cons pe_int (pa_cons pe_int (pa_cons pe_int (pa_cons pe_int (pa_cons pe_int (pa_cons pe_int pa_nil))))))) (pv 3) (fun _ _ => rfl)) pa_nil)) (by rfl))
      (Evl.pss_cut (ps_par (i := 7) (j := 8) (by rfl) sc_law_row.nd rfl rfl (by decide) rfl rfl (pa_cons (pe_ix ix_list (pe_lst (pa_cons pe_int (pa_cons (pe_un un_neg pe_int) (pa_cons (pe_un un_neg pe_int) (pa_cons pe_int (pa_cons (pe_op op_sub (pe_op op_pow pe_int pe_int) pe_int) (pa_cons (pe_un un_neg pe_int) pa_nil))))))) (pv 3) (fun _ _ => rfl)) (pa_cons (pe_ifExp (pt_cmpR op_eq (pv 3) pe_int (nomark _)) (pe_call h_law_take.G (hr.mono (by decide)) (by rfl) h_law_take.g h_law_take.kp h_law_take.b .nil pass0 (pa_cons (pv 0) (pa_cons pe_int pa_nil))) pe_int) pa_nil)) (by rfl))
      (pss_cons (ps_set (i := 9) sc_law_row.nd rfl (.inl rfl) (pe_lst pa_nil))
      (pss_cons (ps_for PassesOwn.never rfl (pi_range1 (by rfl) m_range (pa_cons (pv 2) pa_nil)) (pg_name (i := 10) sc_law_row.nd rfl (Or.inl rfl))
        (pss_one (ps_expr (pe_bm PySem.F.plainAttrs_list PySem.F.slot_list_append PySem.F.type_list_append mt_append (pv 9) (pa_cons (pe_tup (pa_cons (pe_op op_add (pe_op op_add (pv 7) (pe_op op_mul (pv 4) (pv 10))) (pe_call h_law_take.G (hr.mono (by decide)) (by rfl) h_law_take.g h_law_take.kp h_law_take.b .nil pass0 (pa_cons (pv 0) (pa_cons (pv 5) pa_nil)))) (pa_cons (pe_op op_add (pv 8) (pe_call h_law_take.G (hr.mono (by decide)) (by rfl) h_law_take.g h_law_take.kp h_law_take.b .nil pass0 (pa_cons (pv 0) (pa_cons (pv 6) pa_nil)))) pa_nil))) pa_nil)))))
      (pss_one (ps_ret (pe_tupleOf (by rfl) m_tuple (pv 9))))))))), ?_⟩
    refine ⟨.ref p, rfl, .int (m : Int), rfl, p, (m : Int), n, rfl, by omega, by omega, hb, by omega, fun r1 H1 r10 r11 e1 hb1 => ?_⟩
    refine ⟨1, r1, rfl, rfl, .ref p, rfl, p, 6, n + 1, rfl, by decide, by decide, hb1, by omega, fun way H2 w0 w1 e2 hb2 => ?_⟩
    refine ⟨.ref p, rfl, by show 4 ≤ sizeLine; decide, fun l hl => ?_⟩
    refine ⟨p, l, _, n + 2, rfl, sq_of upd_same, by show 0 < 4; decide, by show 4 < 100000; decide, (hb2.ne hl).symm, hb2.ex (Ex.new hl), by omega, fun k x H3 hx e3 hb3 => ?_⟩
    obtain ⟨rise, rfl, hr0, hr1⟩ : ∃ rise : Int, x = .int rise ∧ 0 ≤ rise ∧ rise ≤ 3 := by
      match k, hx with
      | 0, hx => cases hx; exact ⟨0, rfl, by decide, by decide⟩
      | 1, hx => cases hx; exact ⟨0, rfl, by decide, by decide⟩
      | 2, hx => cases hx; exact ⟨1, rfl, by decide, by decide⟩
      | 3, hx => cases hx; exact ⟨3, rfl, by decide, by decide⟩
      | k + 4, hx => cases hx
    have eb3 : ExB p H H3 := ((e1.trans e2).trans (.of (Ex.new hl))).trans e3
    clear e1 e2 e3 hb1 hb2
    refine ⟨_, _, _, rfl, ?_⟩
    obtain ⟨high, hh, ah⟩ := at_ints (zs := [9, 9, 30, 60, 25, 200]) w0 w1
    obtain ⟨dear, hd, ad⟩ := at_ints (zs := [3, 1, 1, 10, 4, 40]) w0 w1
    have hh0 : 0 < high ∧ high ≤ 200 := by
      simp only [List.mem_cons, List.not_mem_nil, or_false] at hh
      omega
    have hd0 : 0 < dear ∧ dear ≤ 40 := by
      simp only [List.mem_cons, List.not_mem_nil, or_false] at hd
      omega
    refine ⟨by show 6 ≤ sizeLine; decide, fun l2 hl2 => ⟨.int way, rfl, l2, _, way, .int high, rfl, rfl, sq_of upd_same, ah, ?_⟩⟩
    refine ⟨by show 6 ≤ sizeLine; decide, fun l3 hl3 => ⟨.int way, rfl, l3, _, way, .int dear, rfl, rfl, sq_of upd_same, ad, _, _, rfl, ?_⟩⟩
    have eb4 := (eb3.new (o := .lst [.int 9, .int 9, .int 30, .int 60, .int 25, .int 200]) hl2).new (o := .lst [.int 3, .int 1, .int 1, .int 10, .int 4, .int 40]) hl3
    have hb4 := (hb3.ex (Ex.new (o := .lst [.int 9, .int 9, .int 30, .int 60, .int 25, .int 200]) hl2)).ex (Ex.new (o := .lst [.int 3, .int 1, .int 1, .int 10, .int 4, .int 40]) hl3)
    clear eb3 hb3
    obtain ⟨bs, hbs, abs⟩ := at_ints (zs := [0, -4, -15, 0, 10 ^ (12 : Int).toNat - 1000, -100]) w0 w1
    have hbs0 : -100 ≤ bs ∧ bs ≤ 999999999000 := by
      have e12 : (10 : Int) ^ (12 : Int).toNat - 1000 = 999999999000 := by decide
      rw [e12] at hbs
      simp only [List.mem_cons, List.not_mem_nil, or_false] at hbs
      omega
    refine q_cut (M := fun σ' H' => ∃ toll : Int, σ' = [some (.ref p), some (.int (m : Int)), some (.int (1 + r1)), some (.int way), some (.int rise), some (.int high), some (.int dear), some (.int bs), some (.int toll), none, none] ∧ 0 ≤ toll ∧ toll ≤ 6 ∧ ExB p H H' ∧ Bx H' p (n + 4)) ?_ (fun σ' H5 hM => ?_)
    · refine ⟨4, rfl, 15, rfl, 10, 12, rfl, rfl, ⟨by decide, by decide, by decide⟩, _, 1000, rfl, rfl, 100, rfl, by show 6 ≤ sizeLine; decide, fun l4 hl4 => ⟨.int way, rfl, l4, _, way, .int bs, rfl, rfl, sq_of upd_same, abs, ?_⟩⟩
      refine ⟨.int way, rfl, rfl, _, rfl, ite2 (fun e => ?_) (fun e => ?_)⟩
      · refine ⟨.ref p, rfl, p, 6, n + 3, rfl, by decide, by decide, hb4.ex (Ex.new hl4), by omega, fun r H5 r0 r1 e5 hb5 => ⟨_, _, rfl, r, rfl, r0, by omega, (eb4.new hl4).trans e5, hb5⟩⟩
      · exact ⟨_, _, rfl, 0, rfl, by decide, by decide, eb4.new hl4, (hb4.ex (Ex.new hl4)).le (by omega)⟩
    · obtain ⟨toll, rfl, t0, t1, eb5, hb5⟩ := hM
      refine q_asgL (el_lst ea_nil (by show 0 ≤ 100000; decide)) fun l5 H6 hl5 e6 h6 => ?_
      have hpl : p ≠ l5 := hb5.ne hl5
      have hl5H : H l5 = none := eb5.back hl5 (Ne.symm hpl)
      refine q_forR1 (n := 1 + r1) (ea_cons (ev_var rfl) ea_nil) (by omega) (fun i σ' H' => ∃ (y : Option V) (vs : List V) (rs : HH.Row), σ' = [some (.ref p), some (.int (m : Int)), some (.int (1 + r1)), some (.int way), some (.int rise), some (.int high), some (.int dear), some (.int bs), some (.int toll), some (.ref l5), y] ∧ rs.length = i ∧ H' l5 = some (.lst vs) ∧ Beasts K H' vs rs ∧ (∀ b ∈ rs, Tame b) ∧ Bx H' p (n + 4 + 2 * i) ∧ ExB p H H') (fun H7 e7 => ?_) (fun i σ' H7 hi hp => ?_) (fun σ' H7 hp => ?_)
      · exact ⟨none, [], [], rfl, rfl, e7 _ _ h6, Beasts.nil, (fun b h => by cases h), (hb5.ex (e6.trans e7)).le (by omega), eb5.trans (.of (e6.trans e7))⟩
      · obtain ⟨y, vs, rs, rfl, p1, p2, p3, p4, p5, p6⟩ := hp
        have hri := mul_bd hr0 hr1 (Int.natCast_nonneg i) (show (i : Int) ≤ 40 by omega)
        refine ⟨.ref l5, rfl, .inl ⟨rfl, _, sq_of p2⟩, .int bs, rfl, .int rise, rfl, .int (i : Int), rfl, rise, (i : Int), rfl, rfl, .inl ⟨by omega, by omega⟩, bs, rise * (i : Int), rfl, rfl, .ref p, rfl, .int high, rfl, p, high, n + 4 + 2 * i, rfl, by omega, by omega, p5, by omega, fun s1 H8 s10 s11 e8 hb8 => ?_⟩
        refine ⟨_, _, rfl, rfl, .int toll, rfl, .ref p, rfl, .int dear, rfl, p, dear, n + 4 + 2 * i + 1, rfl, by omega, by omega, hb8, by omega, fun s2 H9 s20 s21 e9 hb9 => ?_⟩
        refine ⟨toll, s2, rfl, rfl, by show 2 ≤ sizeLine; decide, fun T hT => ?_⟩
        have q8 := e8 _ _ (Ne.symm hpl) p2
        have q9 := e9 _ _ (Ne.symm hpl) q8
        have hlT : l5 ≠ T := ne_of_none q9 hT
        have q10 : (upd H9 T (.tup [.int (bs + rise * (i : Int) + s1), .int (toll + s2)])) l5 = some (.lst vs) := by
          rw [upd_ne hlT]
          exact q9
        obtain ⟨xs8, hx8⟩ := p5.lst
        obtain ⟨xs9, hx9⟩ := hb8.lst
        have b10 : Beasts K (upd H9 T (.tup [.int (bs + rise * (i : Int) + s1), .int (toll + s2)])) vs rs := ((p3.exB e8 hx8).exB e9 hx9).ex (Ex.new hT)
        have bt : BeastAt K (upd H9 T (.tup [.int (bs + rise * (i : Int) + s1), .int (toll + s2)])) (.ref T) (bs + rise * (i : Int) + s1, toll + s2) := ⟨T, rfl, st_of upd_same⟩
        refine ⟨l5, vs, .ref T, rfl, rfl, q10, sz_lt (by rw [p3.1]; omega), some (.int (i : Int)), vs ++ [.ref T], rs ++ [(bs + rise * (i : Int) + s1, toll + s2)], rfl, ?_, upd_same, ?_, ?_, ?_, ?_⟩
        · rw [List.length_append, p1]
          rfl
        · exact (b10.app (Beasts.one bt)).exB (ExB.refl _ _).upd q10
        · intro b hb
          rcases List.mem_append.mp hb with h | h
          · exact p4 b h
          · have e := List.mem_singleton.mp h
            subst e
            have e12 : (10 : Int) ^ 12 = 1000000000000 := by decide
            unfold Tame
            rw [e12]
            refine ⟨?_, ?_, ?_, ?_⟩ <;> dsimp only <;> omega
        · exact (((hb9.ex (Ex.new hT)).mut hpl).le (by omega))
        · exact ((((p6.trans e8).trans e9).new hT).mut hl5H)
      · obtain ⟨y, vs, rs, rfl, p1, p2, p3, p4, p5, p6⟩ := hp
        refine ⟨.ref l5, rfl, .inl ⟨l5, vs, rfl, sq_of p2, fun T hT => ?_⟩⟩
        exact q _ _ rs (p6.new hT) ((p5.ex (Ex.new hT)).le (by omega)) ⟨T, vs, rfl, st_of upd_same, p3.ex (Ex.new hT)⟩ (by omega) (by omega) p4
theorem ok_law_same {f : Addr} {fd : FuncData} (F : FnP K "_law_same" s_law_same f fd) (g : mg "_law_same" = some (.ref f)) (b : Binds K fd ["_law_found", "_law_due"] []) (m_isinstance : mg "isinstance" = none) (m_list : mg "list" = none) (m_tuple : mg "tuple" = none) (m_bool : mg "bool" = none) (m_str : mg "str" = none) (m_int : mg "int" = none) (m_len : mg "len" = none) (m_all : mg "all" = none) (m_zip : mg "zip" = none) :
    ∀ d, Has P w K mg base d "_law_same" ["_law_found", "_law_due"] (spSame K d) f fd
  | 0 => ⟨has_none, g, F.kp, b⟩
  | d + 1 => by
    have h_law_same := ok_law_same F g b m_isinstance m_list m_tuple m_bool m_str m_int m_len m_all m_zip d
    refine ⟨F.ok sc_law_same (fun vs H Q E h => ?_) (fun cdv A outer s H vs Q E hr h => ?_), g, F.kp, b⟩
    · obtain ⟨x, y, rfl, _⟩ := h
      rfl
    · obtain ⟨x, y, rfl, hA, q⟩ := h
      refine ⟨_, PSs.nox (pss_cons (ps_if (pt_val (pe_callB call_isiT (by rfl) m_isinstance (by decide +kernel) (pa_cons (pv 1) (pa_cons (pe_tup (pa_cons (pe_bltn (v := .ty "list") (by rfl) m_list (by decide +kernel) rfl) (pa_cons (pe_bltn (v := .ty "tuple") (by rfl) m_tuple (by decide +kernel) rfl) pa_nil))) pa_nil)))) (pss_cons (ps_if (PW.pt (pw_or (pt_cmpR op_ne (pe_callB call_isi (by rfl) m_isinstance (by decide +kernel) (pa_cons (pv 0) (pa_cons (pe_bltn (v := .ty "list") (by rfl) m_list (by decide +kernel) rfl) pa_nil))) (pe_callB call_isi (by rfl) m_isinstance (by decide +kernel) (pa_cons (pv 1) (pa_cons (pe_bltn (v := .ty "list") (by rfl) m_list (by decide +kernel) rfl) pa_nil))) (nomark _)) (pw_or1 (pt_cmpR op_ne (pe_callB call_isi (by rfl) m_isinstance (by decide +kernel) (pa_cons (pv 0) (pa_cons (pe_bltn (v := .ty "tuple") (by rfl) m_tuple (by decide +kernel) rfl) pa_nil))) (pe_callB call_isi (by rfl) m_isinstance (by decide +kernel) (pa_cons (pv 1) (pa_cons (pe_bltn (v := .ty "tuple") (by rfl) m_tuple (by decide +kernel) rfl) pa_nil))) (nomark _))))) (pss_one (ps_ret pe_bl)) pss_nil)
      (pss_one (ps_ret (pe_and (pe_cmpR op_eq (pe_callB call_len_seq (by rfl) m_len PySem.boot_len (pa_cons (pv 0) pa_nil)) (pe_callB call_len_seq (by rfl) m_len PySem.boot_len (pa_cons (pv 1) pa_nil)) (nomark _)) (pe_one (pe_callB (cr_all rfl) (by rfl) m_all (by decide +kernel) (pa_cons (pe_lc (own := [("_law_one", 2), ("_law_two", 3)]) (g := gTup K 2 (gCons (gName 2) (gCons (gName 3) gNil))) (by rfl) sc_law_same.nd (pi_zipA (by rfl) m_zip (pa_cons (pv 0) (pa_cons (pv 1) pa_nil))) (blkOk_by (own := [("_law_one", 2), ("_law_two", 3)]) (N := ["_law_found", "_law_due", "_law_one", "_law_two"]) (sc := defScope s_law_same) (by decide +kernel)) (fun _ _ _ _ _ => (pg_tup rfl (pgs_cons (pg_name (i := 2) sc_law_same.nd rfl (Or.inl rfl)) (pgs_cons (pg_name (i := 3) sc_law_same.nd rfl (Or.inl rfl)) pgs_nil)))) (fun _ _ _ _ _ => pts_nil) (fun _ _ _ _ _ => (pe_call h_law_same.G hr (by rfl) h_law_same.g h_law_same.kp h_law_same.b .nil pass0 (pa_cons (pv 2) (pa_cons (pv 3) pa_nil))))) pa_nil))))))) pss_nil)
      (pss_cons (ps_if (PW.pt (pw_or (pt_cmpR op_isN (pv 1) pe_non (nomark _)) (pw_or1 (pt_cmpR op_isN (pv 0) pe_non (nomark _))))) (pss_one (ps_ret (pe_and (pe_cmpR op_isN (pv 1) pe_non (nomark _)) (pe_one (pe_cmpR op_isN (pv 0) pe_non (nomark _)))))) pss_nil)
      (pss_cons (ps_if (PW.pt (pw_or (pt_val (pe_callB call_isi (by rfl) m_isinstance (by decide +kernel) (pa_cons (pv 1) (pa_cons (pe_bltn (v := .ty "bool") (by rfl) m_bool (by decide +kernel) rfl) pa_nil)))) (pw_or1 (pt_val (pe_callB call_isi (by rfl) m_isinstance (by decide +kernel) (pa_cons (pv 1) (pa_cons (pe_bltn (v := .ty "str") (by rfl) m_str (by decide +kernel) rfl) pa_nil))))))) (pss_one (ps_ret (pe_and (pe_cmpR op_eq (pe_callB call_isi (by rfl) m_isinstance (by decide +kernel) (pa_cons (pv 0) (pa_cons (pe_bltn (v := .ty "bool") (by rfl) m_bool (by decide +kernel) rfl) pa_nil))) (pe_callB call_isi (by rfl) m_isinstance (by decide +kernel) (pa_cons (pv 1) (pa_cons (pe_bltn (v := .ty "bool") (by rfl) m_bool (by decide +kernel) rfl) pa_nil))) (nomark _)) (pe_one (pe_cmpR op_eq (pv 0) (pv 1) (nomark _)))))) pss_nil)
      (pss_one (ps_ret (pe_and (pe_callB call_isi (by rfl) m_isinstance (by decide +kernel) (pa_cons (pv 0) (pa_cons (pe_bltn (v := .ty "int") (by rfl) m_int (by decide +kernel) rfl) pa_nil))) (pe_and (pe_not (pe_callB call_isi (by rfl) m_isinstance (by decide +kernel) (pa_cons (pv 0) (pa_cons (pe_bltn (v := .ty "bool") (by rfl) m_bool (by decide +kernel) rfl) pa_nil)))) (pe_one (pe_cmpR op_eq (pv 0) (pv 1) (nomark _)))))))))), ?_⟩
      rcases hA with ⟨rfl, hf⟩ | ⟨a, c, xs, ys, rfl, rfl, h3, h4, h5, h6⟩
      · cases x with
        | int i =>
          refine q_when (et_B (ev_isiT (ev_var rfl) (.int i) kit_int)) (fun hd => by cases hd) fun _ H1 e1 => ?_
          refine q_when (b := false) (et_or (a := false) (b := false) (et_test (ev_op (ev_var rfl) ev_c (rv_isN2 rfl))) fun _ => et_test (ev_op (ev_var rfl) ev_c (rv_isN2 rfl))) (fun hd => by cases hd) fun _ H2 e2 => ?_
          refine q_when (b := false) (et_or (a := false) (b := false) (et_B (ev_isi (T := "int") (C := "bool") (ev_var rfl) (.int i) (by decide +kernel))) fun _ => et_B (ev_isi (T := "int") (C := "str") (ev_var rfl) (.int i) (by decide +kernel))) (fun hd => by cases hd) fun _ H3 e3 => ?_
          refine s_ret (v := .bl true) (ev_andV (a := true) (b := true) (ev_isi (T := "int") (C := "int") (b := true) (ev_var rfl) (.int i) (by decide +kernel)) fun _ => ev_andV (a := true) (b := true) (ev_notV (ev_isi (T := "int") (C := "bool") (b := false) (ev_var rfl) (.int i) (by decide +kernel))) fun _ => ev_is (ev_op (ev_var rfl) (ev_var rfl) (rv_eq rfl)) (by rw [decide_eq_true rfl])) fun H4 e4 => q H4 (((e1.trans e2).trans e3).trans e4)
        | bl i =>
          refine q_when (et_B (ev_isiT (ev_var rfl) (.bl i) kit_bool)) (fun hd => by cases hd) fun _ H1 e1 => ?_
          refine q_when (b := false) (et_or (a := false) (b := false) (et_test (ev_op (ev_var rfl) ev_c (rv_isN2 rfl))) fun _ => et_test (ev_op (ev_var rfl) ev_c (rv_isN2 rfl))) (fun hd => by cases hd) fun _ H2 e2 => ?_
          refine q_when (b := true) (et_or (a := true) (b := true) (et_B (ev_isi (T := "bool") (C := "bool") (ev_var rfl) (.bl i) (by decide +kernel))) fun hd => by cases hd) (fun _ H3 e3 => ?_) (fun hd => by cases hd)
          refine s_ret (v := .bl true) (ev_andV (a := true) (b := true) (ev_op (ev_isi (T := "bool") (C := "bool") (b := true) (ev_var rfl) (.bl i) (by decide +kernel)) (ev_isi (T := "bool") (C := "bool") (b := true) (ev_var rfl) (.bl i) (by decide +kernel)) (rv_eq rfl)) fun _ => ev_is (ev_op (ev_var rfl) (ev_var rfl) (rv_eq rfl)) (by rw [decide_eq_true rfl])) fun H4 e4 => q H4 (((e1.trans e2).trans e3).trans e4)
        | str i =>
          refine q_when (et_B (ev_isiT (ev_var rfl) (.str i) kit_str)) (fun hd => by cases hd) fun _ H1 e1 => ?_
          refine q_when (b := false) (et_or (a := false) (b := false) (et_test (ev_op (ev_var rfl) ev_c (rv_isN2 rfl))) fun _ => et_test (ev_op (ev_var rfl) ev_c (rv_isN2 rfl))) (fun hd => by cases hd) fun _ H2 e2 => ?_
          refine q_when (b := true) (et_or (a := false) (b := true) (et_B (ev_isi (T := "str") (C := "bool") (b := false) (ev_var rfl) (.str i) (by decide +kernel))) fun _ => et_B (ev_isi (T := "str") (C := "str") (b := true) (ev_var rfl) (.str i) (by decide +kernel))) (fun _ H3 e3 => ?_) (fun hd => by cases hd)
          refine s_ret (v := .bl true) (ev_andV (a := true) (b := true) (ev_op (ev_isi (T := "str") (C := "bool") (b := false) (ev_var rfl) (.str i) (by decide +kernel)) (ev_isi (T := "str") (C := "bool") (b := false) (ev_var rfl) (.str i) (by decide +kernel)) (rv_eq rfl)) fun _ => ev_is (ev_op (ev_var rfl) (ev_var rfl) (rv_eq rfl)) (by rw [decide_eq_true rfl])) fun H4 e4 => q H4 (((e1.trans e2).trans e3).trans e4)
        | non =>
          refine q_when (et_B (ev_isiT (ev_var rfl) .non kit_non)) (fun hd => by cases hd) fun _ H1 e1 => ?_
          refine q_when (b := true) (et_or (a := true) (b := true) (et_test (ev_op (ev_var rfl) ev_c (rv_isN2 rfl))) fun _ => et_test (ev_op (ev_var rfl) ev_c (rv_isN2 rfl))) (fun _ H2 e2 => ?_) (fun hd => by cases hd)
          refine s_ret (v := .bl true) (ev_andV (a := true) (b := true) (ev_op (ev_var rfl) ev_c (rv_isN2 rfl)) fun _ => ev_op (ev_var rfl) ev_c (rv_isN2 rfl)) fun H4 e4 => q H4 ((e1.trans e2).trans e4)
        | byt _ => exact hf.elim
        | flt _ => exact hf.elim
        | ref _ => exact hf.elim
        | ty _ => exact hf.elim
      · rcases h3 with ⟨ha, hc⟩ | ⟨ha, hc⟩
        · refine q_when (et_B (ev_isiT (ev_var rfl) (.lst hc) kit_list)) (fun _ H1 e1 => ?_) (fun hd => by cases hd)
          refine q_when (b := false) (et_or (et_test (ev_op (ev_isi (T := "list") (b := true) (ev_var rfl) (.lst (ex_l e1 ha)) (by decide +kernel)) (ev_isi (T := "list") (b := true) (ev_var rfl) (.lst (ex_l e1 hc)) (by decide +kernel)) (rv_ne rfl))) fun _ => et_test (ev_op (ev_isi (T := "list") (b := false) (ev_var rfl) (.lst (ex_l e1 ha)) (by decide +kernel)) (ev_isi (T := "list") (b := false) (ev_var rfl) (.lst (ex_l e1 hc)) (by decide +kernel)) (rv_ne rfl))) (fun hd => by cases hd) fun _ H2 e2 => ?_
          have e12 := e1.trans e2
          refine s_ret (v := .bl true) (ev_andV (a := true) (b := true) (ev_is (ev_op (ev_lenA (ev_var rfl) (.inl (ex_l e12 ha))) (ev_lenA (ev_var rfl) (.inl (ex_l e12 hc))) (rv_eq rfl)) (by rw [h4, decide_eq_true rfl])) fun _ => ev_allT (el_same h4 h5 (.inl ⟨ex_l e12 ha, ex_l e12 hc⟩) fun i u v hu hv => (h6 i u v hu hv).ex e12)) fun H4 e4 => q H4 (e12.trans e4)
        · refine q_when (et_B (ev_isiT (ev_var rfl) (.tup hc) kit_tuple)) (fun _ H1 e1 => ?_) (fun hd => by cases hd)
          refine q_when (b := false) (et_or (et_test (ev_op (ev_isi (T := "tuple") (b := false) (ev_var rfl) (.tup (ex_t e1 ha)) (by decide +kernel)) (ev_isi (T := "tuple") (b := false) (ev_var rfl) (.tup (ex_t e1 hc)) (by decide +kernel)) (rv_ne rfl))) fun _ => et_test (ev_op (ev_isi (T := "tuple") (b := true) (ev_var rfl) (.tup (ex_t e1 ha)) (by decide +kernel)) (ev_isi (T := "tuple") (b := true) (ev_var rfl) (.tup (ex_t e1 hc)) (by decide +kernel)) (rv_ne rfl))) (fun hd => by cases hd) fun _ H2 e2 => ?_
          have e12 := e1.trans e2
          refine s_ret (v := .bl true) (ev_andV (a := true) (b := true) (ev_is (ev_op (ev_lenA (ev_var rfl) (.inr (ex_t e12 ha))) (ev_lenA (ev_var rfl) (.inr (ex_t e12 hc))) (rv_eq rfl)) (by rw [h4, decide_eq_true rfl])) fun _ => ev_allT (el_same h4 h5 (.inr ⟨ex_t e12 ha, ex_t e12 hc⟩) fun i u v hu hv => (h6 i u v hu hv).ex e12)) fun H4 e4 => q H4 (e12.trans e4)
theorem ok_law_lets {f : Addr} {fd : FuncData} (F : FnP K "_law_lets" s_law_lets f fd) (g : mg "_law_lets" = some (.ref f)) (b : Binds K fd ["_law_row_here", "_law_place"] []) : Has P w K mg base 1 "_law_lets" ["_law_row_here", "_law_place"] (spCanPass K) f fd := by
  refine ⟨F.ok sc_law_lets (fun vs H Q E h => ?_) (fun cdv A outer s H vs Q E hr h => ?_), g, F.kp, b⟩
  · obtain ⟨v, rs, p, rfl, _⟩ := h
    rfl
  · obtain ⟨v, rs, p, rfl, hv, hp, q⟩ := h
    refine ⟨_, PSs.nox (pss_one (ps_ret (pe_and (pe_cmpR op_gt (pv 1) pe_int (nomark _)) (pe_one (pe_cmpR op_gt (pe_op op_sub (pe_ix ix_tup (pe_ix ix_tup (pv 0) (pv 1) (fun _ _ => rfl)) pe_int (fun _ _ => rfl)) (pe_ix ix_tup (pe_ix ix_tup (pv 0) (pe_op op_sub (pv 1) pe_int) (fun _ _ => rfl)) pe_int (fun _ _ => rfl))) (pe_ix ix_tup (pe_ix ix_tup (pv 0) (pe_op op_sub (pv 1) pe_int) (fun _ _ => rfl)) pe_int (fun _ _ => rfl)) (nomark _)))))), ?_⟩
    refine s_ret (v := .bl (decide ((p : Int) > 0) && decide (sS rs p - tS rs (p - 1) > sS rs (p - 1)))) (ev_andV (ev_op (ev_var rfl) ev_c rv_I0) fun hb => ?_) fun H1 e1 => ?_
    · have hp0 : 0 < p := by
        have := of_decide_eq_true hb
        omega
      refine ev_op (ev_op (ev_str (ev_var rfl) hv (ev_var rfl) rfl (row_get hp)) (ev_tol (ev_var rfl) hv (ev_op (ev_var rfl) ev_c rv_I0) (show (p : Int) - 1 = ((p - 1 : Nat) : Int) by omega) (row_get (by omega))) rv_I0) (ev_str (ev_var rfl) hv (ev_op (ev_var rfl) ev_c rv_I0) (show (p : Int) - 1 = ((p - 1 : Nat) : Int) by omega) (row_get (by omega))) rv_I0
    · have e : letsN rs p = (decide ((p : Int) > 0) && decide (sS rs p - tS rs (p - 1) > sS rs (p - 1))) := by
        unfold letsN
        congr 1
        exact decide_eq_decide.mpr (by omega)
      rw [← e]
      exact q H1 e1
theorem ok_law_passed {f : Addr} {fd : FuncData} (F : FnP K "_law_passed" s_law_passed f fd) (g : mg "_law_passed" = some (.ref f)) (b : Binds K fd ["_law_row_here", "_law_place"] []) : Has P w K mg base 1 "_law_passed" ["_law_row_here", "_law_place"] (spPassed K) f fd := by
  refine ⟨F.ok sc_law_passed (fun vs H Q E h => ?_) (fun cdv A outer s H vs Q E hr h => ?_), g, F.kp, b⟩
  · obtain ⟨v, rs, p, rfl, _⟩ := h
    rfl
  · obtain ⟨v, rs, p, rfl, hv, hl, ⟨h0, hp⟩, q⟩ := h
    refine ⟨_, PSs.nox (pss_cons (ps_asg (pe_tup (pa_cons (pe_ix ix_tup (pv 0) (pe_op op_sub (pv 1) pe_int) (fun _ _ => rfl)) (pa_cons (pe_ix ix_tup (pv 0) (pv 1) (fun _ _ => rfl)) pa_nil))) (pg_tup rfl (pgs_cons (pg_name (i := 2) sc_law_passed.nd rfl (Or.inl rfl)) (pgs_cons (pg_tup rfl (pgs_cons (pg_name (i := 3) sc_law_passed.nd rfl (Or.inl rfl)) (pgs_cons (pg_name (i := 4) sc_law_passed.nd rfl (Or.inl rfl)) pgs_nil))) pgs_nil))))
      (pss_one (ps_ret (pe_op op_catA (pe_op op_catA (pe_slice sl_tupA (pv 0) po_none (po_some (pe_op op_sub (pv 1) pe_int))) (pe_tup (pa_cons (pe_tup (pa_cons (pe_op op_sub (pv 3) (pe_ix ix_tup (pv 2) pe_int (fun _ _ => rfl))) (pa_cons (pv 4) pa_nil))) (pa_cons (pv 2) pa_nil)))) (pe_slice sl_tupA (pv 0) (po_some (pe_op op_add (pv 1) pe_int)) po_none))))), ?_⟩
    obtain ⟨a, h1, h2⟩ := ev_beast (te := tVar 0) (ti := tOp (rI0 fun i j => .int (i - j)) (tVar 1) (tC (.int 1))) (σ := start ["_law_row_here", "_law_place", "_law_ahead", "_law_strength", "_law_toll"] [v, .int (p : Int)]) (ev_var rfl) hv (ev_op (ev_var rfl) ev_c rv_I0) (show (p : Int) - 1 = ((p - 1 : Nat) : Int) by omega) (row_get (i := p - 1) (by omega))
    obtain ⟨c, g1, g2⟩ := ev_beast (te := tVar 0) (ti := tVar 1) (σ := start ["_law_row_here", "_law_place", "_law_ahead", "_law_strength", "_law_toll"] [v, .int (p : Int)]) (ev_var rfl) hv (ev_var rfl) rfl (row_get hp)
    refine q_asg12 h1 g1 g2 fun H1 e1 => ?_
    refine s_retR (rs := passR rs p) (er_cat (er_cat (er_to (er_val (ev_var rfl) (hv.ex e1)) (ev_op (ev_var rfl) ev_c rv_I0) (show (p : Int) - 1 = ((p - 1 : Nat) : Int) by omega)) (er_two (eb_tup (ev_op (ev_var rfl) (ev_op (ev_var rfl) ev_c (rv_ixT (ex_t e1 h2) rfl)) rv_I0) (ev_var rfl)) (eb_val (ev_var rfl) ⟨a, rfl, ex_t e1 h2⟩)) ?_) (er_from (er_val (ev_var rfl) (hv.ex e1)) (ev_op (ev_var rfl) ev_c rv_I0) (show (p : Int) + 1 = ((p + 1 : Nat) : Int) by omega)) ?_) fun v' H2 e2 h => q v' H2 (e1.trans e2) h
    · rw [List.length_take]
      show min (p - 1) rs.length + 2 ≤ 100000
      omega
    · rw [List.length_append, List.length_take, List.length_drop]
      show min (p - 1) rs.length + 2 + (rs.length - (p + 1)) ≤ 100000
      omega
theorem ok_law_ended {f f1 f2 f3 : Addr} {fd fd1 fd2 fd3 : FuncData} (F : FnP K "_law_ended" s_law_ended f fd) (g : mg "_law_ended" = some (.ref f)) (b : Binds K fd ["_law_box", "_law_row_here"] []) (h_law_of : Has P w K mg base 2 "_law_of" ["_law_box", "_law_pool"] (spOf K) f1 fd1) (h_law_lets : Has P w K mg base 1 "_law_lets" ["_law_row_here", "_law_place"] (spCanPass K) f2 fd2) (h_law_passed : Has P w K mg base 1 "_law_passed" ["_law_row_here", "_law_place"] (spPassed K) f3 fd3)
    (m_range : mg "range" = none) (m_tuple : mg "tuple" = none) (m_list : mg "list" = none) (m_len : mg "len" = none) : Has P w K mg base 3 "_law_ended" ["_law_box", "_law_row_here"] (spEndedP K) f fd := by
  refine ⟨F.ok sc_law_ended (fun vs H Q E h => ?_) (fun cdv A outer s H vs Q E hr h => ?_), g, F.kp, b⟩
  · obtain ⟨p, v, rs, n, rfl, _⟩ := h
    rfl
  · obtain ⟨p, v, rs, n, rfl, hv, hl, ht, hb, hn, q⟩ := h
    refine ⟨_, PSs.nox (pss_cons (ps_par (i := 2) (j := 3) (by rfl) sc_law_ended.nd rfl rfl (by decide) rfl rfl (pa_cons (pe_listRg rfl (by rfl) m_list (prg_1 (by rfl) m_range (pe_callB call_len_seq (by rfl) m_len PySem.boot_len (pa_cons (pv 1) pa_nil)))) (pa_cons (pe_lst pa_nil) pa_nil)) (by rfl))
      (pss_cons (ps_setLc (i := 5) (own := [("_law_place", 4)]) (g := gName 4) (by rfl) sc_law_ended.nd rfl rfl (sw_true rfl rfl rfl (by decide +kernel)) (pi_range1 (by rfl) m_range (pa_cons (pe_callB call_len_seq (by rfl) m_len PySem.boot_len (pa_cons (pv 1) pa_nil)) pa_nil)) (blkOk_by (own := [("_law_place", 4)]) (N := ["_law_box", "_law_row_here", "_law_order", "_law_pairs", "_law_place", "_law_some"]) (sc := defScope s_law_ended) (by decide +kernel)) (fun _ _ _ _ _ => (pg_name (i := 4) sc_law_ended.nd rfl (Or.inl rfl))) (fun _ _ _ _ _ => (pts_one (pt_val (pe_call h_law_lets.G (hr.mono (by decide)) (by rfl) h_law_lets.g h_law_lets.kp h_law_lets.b .nil pass0 (pa_cons (pv 1) (pa_cons (pv 4) pa_nil)))))) (fun _ _ _ _ _ => (pv 4)))
      (pss_cons (ps_while PassesOwn.never (pt_cmpR (op_neD hr.units) (pv 5) (pe_lst pa_nil) (nomark _)) (pss_cons (ps_set (i := 4) sc_law_ended.nd rfl (.inl rfl) (pe_call h_law_of.G (hr.mono (by decide)) (by rfl) h_law_of.g h_law_of.kp h_law_of.b .nil pass0 (pa_cons (pv 0) (pa_cons (pv 5) pa_nil))))
      (pss_cons (ps_set (i := 1) sc_law_ended.nd rfl (.inr rfl) (pe_call h_law_passed.G (hr.mono (by decide)) (by rfl) h_law_passed.g h_law_passed.kp h_law_passed.b .nil pass0 (pa_cons (pv 1) (pa_cons (pv 4) pa_nil))))
      (pss_cons (ps_expr (pe_bm PySem.F.plainAttrs_list PySem.F.slot_list_append PySem.F.type_list_append mt_append (pv 3) (pa_cons (pe_tup (pa_cons (pe_ix ix_list (pv 2) (pe_op op_sub (pv 4) pe_int) (fun _ _ => rfl)) (pa_cons (pe_ix ix_list (pv 2) (pv 4) (fun _ _ => rfl)) pa_nil))) pa_nil)))
      (pss_cons (ps_asg (pe_lst (pa_cons (pe_ix ix_list (pv 2) (pv 4) (fun _ _ => rfl)) (pa_cons (pe_ix ix_list (pv 2) (pe_op op_sub (pv 4) pe_int) (fun _ _ => rfl)) pa_nil))) (pg_sl (pv 2) (pe_op op_sub (pv 4) pe_int) (pe_op op_add (pv 4) pe_int)))
      (pss_one (ps_setLc (i := 5) (own := [("_law_place", 4)]) (g := gName 4) (by rfl) sc_law_ended.nd rfl rfl (sw_true rfl rfl rfl (by decide +kernel)) (pi_range1 (by rfl) m_range (pa_cons (pe_callB call_len_seq (by rfl) m_len PySem.boot_len (pa_cons (pv 1) pa_nil)) pa_nil)) (blkOk_by (own := [("_law_place", 4)]) (N := ["_law_box", "_law_row_here", "_law_order", "_law_pairs", "_law_place", "_law_some"]) (sc := defScope s_law_ended) (by decide +kernel)) (fun _ _ _ _ _ => (pg_name (i := 4) sc_law_ended.nd rfl (Or.inl rfl))) (fun _ _ _ _ _ => (pts_one (pt_val (pe_call h_law_lets.G (hr.mono (by decide)) (by rfl) h_law_lets.g h_law_lets.kp h_law_lets.b .nil pass0 (pa_cons (pv 1) (pa_cons (pv 4) pa_nil)))))) (fun _ _ _ _ _ => (pv 4)))))))))
      (pss_one (ps_ret (pe_tup (pa_cons (pv 1) (pa_cons (pe_tupleOfF (by rfl) m_tuple (pv 2)) (pa_cons (pv 3) pa_nil))))))))), ?_⟩
    have hv0 := hv
    obtain ⟨a, vs, rfl, hta, hbs⟩ := hv0
    refine ⟨.ref a, rfl, a, vs, rfl, .inr hta, _, rfl, RgOk.of_le (by decide) (by rw [hbs.1]; omega) (by decide) (by omega), fun lo hlo => ⟨by show 0 ≤ sizeLine; decide, fun lp hlp => ⟨_, _, rfl, ?_⟩⟩⟩
    rw [hbs.1, ord_tag] at hlp ⊢
    have e1 : Ex H (upd H lo (.lst (ordL (tag 0 rs)))) := Ex.new hlo
    have hlpH : H lp = none := fresh_back e1 hlp
    have hlolp : lo ≠ lp := fun z => by
      subst z
      rw [upd_same] at hlp
      cases hlp
    have e2 : Ex H (upd (upd H lo (.lst (ordL (tag 0 rs)))) lp (.lst [])) := e1.trans (Ex.new hlp)
    have hlo2 : (upd (upd H lo (.lst (ordL (tag 0 rs)))) lp (.lst [])) lo = some (.lst (ordL (tag 0 rs))) := by
      rw [upd_ne hlolp, upd_same]
    have hlp2 : (upd (upd H lo (.lst (ordL (tag 0 rs)))) lp (.lst [])) lp = some (.lst []) := upd_same
    generalize upd (upd H lo (.lst (ordL (tag 0 rs)))) lp (.lst []) = H2 at e2 hlo2 hlp2 ⊢
    refine q_asgL (el_lcR1 (letsN rs) (fun i => .int (i : Int)) (ea_cons (ev_lenR (ev_var rfl) (hv.ex e2)) ea_nil) (by omega) (fun x => rfl) (fun i H1 e1 hi => et_B (ev_call (ea_cons (ev_var rfl) (ea_cons (ev_var rfl) ea_nil)) (sv_can_pass (hv.ex (e2.trans e1)) (by omega)))) (fun i H1 e1 hi _ => ev_var rfl)) fun ls H3 hls e3 h3 => ?_
    refine q_while (fun m σ' H' => ∃ (v' : V) (y4 : Option V) (ls : Addr) (L : List Cow) (ps : List (Int × Int)) (pvs : List V) (c : Nat), σ' = [some (.ref p), some v', some (.ref lo), some (.ref lp), y4, some (.ref ls)] ∧ m = asc (L.map (·.1)) ∧ RowAt K H' v' (HH.rowsOf L) ∧ PRun (tag 0 rs) L ps ∧ Facts rs.length L ps ∧ PInv L ∧ H' lo = some (.lst (ordL L)) ∧ H' lp = some (.lst pvs) ∧ Beasts K H' pvs ps ∧ H' ls = some (.lst (HH.passL (HH.rowsOf L))) ∧ ls ≠ p ∧ Bx H' p c ∧ c + m ≤ n + 900 ∧ ExB p H H') (asc ((tag 0 rs).map (·.1))) ?_ (fun m σ' H' hW => ?_)
    · have hf := facts_tag ht
      have hfew := hf.few
      have hll : rs.length * rs.length ≤ 30 * 30 := Nat.mul_le_mul hl hl
      have e23 := e2.trans e3
      refine ⟨_, none, ls, tag 0 rs, [], [], n, rfl, rfl, ?_, .nil, hf, pinv_tag 0 rs, e3 _ _ hlo2, e3 _ _ hlp2, Beasts.nil, ?_, ((hb.ex e2).ne hls).symm, hb.ex e23, ?_, .of e23⟩
      · rw [show HH.rowsOf (tag 0 rs) = rs from tag_snd 0 rs]
        exact hv.ex e23
      · rw [show HH.rowsOf (tag 0 rs) = rs from tag_snd 0 rs]
        exact h3
      · have : ([] : List (Int × Int)).length = 0 := rfl
        omega
    · obtain ⟨v', y4, ls, L, ps, pvs, c, rfl, rfl, w1, w2, w3, w4, w5, w6, w7, w8, hlsp, w9, w10, w11⟩ := hW
      have hLl : (HH.rowsOf L).length = rs.length := by rw [cow_len, w3.len]
      obtain ⟨ns, hns⟩ : ∃ ns : List Int, HH.passL (HH.rowsOf L) = ns.map V.int := by
        refine ⟨((List.range (HH.rowsOf L).length).filter (letsN (HH.rowsOf L))).map fun (i : Nat) => (i : Int), ?_⟩
        unfold HH.passL given
        rw [List.map_map]
        rfl
      have w8' := w8
      rw [hns] at w8'
      refine ⟨!(HH.passL (HH.rowsOf L)).isEmpty, by rw [hns]; exact et_neNil (ev_var rfl) (sq_of w8') (dp_ints ns) (nice_ints ns) (by decide), fun hd H1 e1 => ?_, fun hd H1 e1 => ?_⟩
      · have hne : 0 < (HH.passL (HH.rowsOf L)).length := by
          cases hz : HH.passL (HH.rowsOf L) with
          | nil =>
            rw [hz] at hd
            cases hd
          | cons x r => exact Nat.succ_pos _
        have hshort : (HH.passL (HH.rowsOf L)).length ≤ rs.length := by
          rw [← hLl]
          exact given_len ..
        refine ⟨fun σ2 H2 => ∃ m', m' < asc (L.map (·.1)) ∧ ∃ (v' : V) (y4 : Option V) (ls : Addr) (L : List Cow) (ps : List (Int × Int)) (pvs : List V) (c : Nat), σ2 = [some (.ref p), some v', some (.ref lo), some (.ref lp), y4, some (.ref ls)] ∧ m' = asc (L.map (·.1)) ∧ RowAt K H2 v' (HH.rowsOf L) ∧ PRun (tag 0 rs) L ps ∧ Facts rs.length L ps ∧ PInv L ∧ H2 lo = some (.lst (ordL L)) ∧ H2 lp = some (.lst pvs) ∧ Beasts K H2 pvs ps ∧ H2 ls = some (.lst (HH.passL (HH.rowsOf L))) ∧ ls ≠ p ∧ Bx H2 p c ∧ c + m' ≤ n + 900 ∧ ExB p H H2, fun σ2 H2 h => h, ?_⟩
        refine ⟨.ref p, rfl, .ref ls, rfl, p, ls, HH.passL (HH.rowsOf L), c, rfl, sq_of (e1 _ _ w8), hne, by omega, hlsp, w9.ex e1, by omega, fun r x H2 hx e2 hb2 => ?_⟩
        obtain ⟨k, rfl, hk, hlet⟩ := given_get hx
        obtain ⟨pre, post, ca, cb, rfl, rfl, hpp, hpr⟩ := cow_pass hk hlet
        have x2 : ExB p H' H2 := (ExB.of e1).trans e2
        obtain ⟨ys9, hys9⟩ := w9.lst
        have hplo : lo ≠ p := (hb.ne hlo).symm
        have hplp : lp ≠ p := (hb.ne hlpH).symm
        have r2 := w1.exB x2 w9
        have lo2 := x2 _ _ hplo w5
        have lp2 := x2 _ _ hplp w6
        have bs2 := w7.exB x2 hys9
        refine ⟨v', rfl, .int ((pre.length + 1 : Nat) : Int), rfl, v', _, pre.length + 1, rfl, r2, by omega, ⟨by omega, hk⟩, fun v2 H3 e3 hv2 => ?_⟩
        rw [hpr] at hv2
        have lo3 := e3 _ _ lo2
        have lp3 := e3 _ _ lp2
        have bs3 := bs2.ex e3
        have hb3 := hb2.ex e3
        have x3 : ExB p H H3 := (w11.trans x2).trans (.of e3)
        have hkk : ((pre.length + 1 : Nat) : Int) - 1 = (pre.length : Int) := by omega
        have i1 : atI (ordL (pre ++ ca :: cb :: post)) (((pre.length + 1 : Nat) : Int) - 1) = some (.int (ca.1 : Int)) := by
          rw [hkk]
          exact atI_nat ord_get.1
        have i2 : atI (ordL (pre ++ ca :: cb :: post)) ((pre.length + 1 : Nat) : Int) = some (.int (cb.1 : Int)) := atI_nat ord_get.2
        obtain ⟨f1, f2, f3⟩ := facts_pass (q := ((ca.1 : Int), (cb.1 : Int))) w3 w4 hpp
        have hll : rs.length * rs.length ≤ 30 * 30 := Nat.mul_le_mul hl hl
        have hfew := w3.few
        refine q_appU lp3 (ev_var rfl) (eu_tup (ea_cons (ev_op (ev_var rfl) (ev_op (ev_var rfl) ev_c rv_I0) (rv_ixL (sq_of lo3) i1)) (ea_cons (ev_op (ev_var rfl) (ev_var rfl) (rv_ixL (sq_of lo3) i2)) ea_nil)) (by show 2 ≤ 100000; decide)) (by rw [w7.1]; omega) fun T H4 hT e4 h4 => ?_
        have lp4 := e4 _ _ lp3
        have x5 : ExB lp H4 (upd H4 lp (.lst (pvs ++ [.ref T]))) := (ExB.refl _ _).upd
        have r5 := (hv2.ex e4).exL x5 lp4
        have lo5 := x5 _ _ hlolp (e4 _ _ lo3)
        have lp5 : (upd H4 lp (.lst (pvs ++ [.ref T]))) lp = some (.lst (pvs ++ [.ref T])) := upd_same
        have bs5 := ((bs3.ex e4).app (Beasts.one (b := ((ca.1 : Int), (cb.1 : Int))) ⟨T, rfl, st_of h4⟩)).exB x5 lp4
        have hb5 := (hb3.ex e4).mut (o := .lst (pvs ++ [.ref T])) (Ne.symm hplp)
        have z5 : ExB p H (upd H4 lp (.lst (pvs ++ [.ref T]))) := (x3.trans (.of e4)).mut hlpH
        generalize upd H4 lp (.lst (pvs ++ [.ref T])) = H5 at r5 lo5 lp5 bs5 hb5 z5 ⊢
        refine q_sl (i := pre.length) (j := pre.length + 2) (el_lst (ea_cons (ev_op (ev_var rfl) (ev_var rfl) (rv_ixL (sq_of lo5) i2)) (ea_cons (ev_op (ev_var rfl) (ev_op (ev_var rfl) ev_c rv_I0) (rv_ixL (sq_of lo5) i1)) ea_nil)) (by show 2 ≤ 100000; decide)) (ev_var rfl) (ev_op (ev_var rfl) ev_c rv_I0) (ev_op (ev_var rfl) ev_c rv_I0) hkk (by omega) lo5 (by omega) (by rw [ord_len, List.length_append, List.length_cons, List.length_cons]; omega) (by rw [ord_len, w3.len]; show rs.length + 2 ≤ 100000; omega) fun H6 e6 => ?_
        rw [ord_swap (u := (cb.2.1 - ca.2.2, cb.2.2)) (v := ca.2)]
        have lo6 := e6 _ _ lo5
        have x7 : ExB lo H6 (upd H6 lo (.lst (ordL (pre ++ (cb.1, (cb.2.1 - ca.2.2, cb.2.2)) :: (ca.1, ca.2) :: post)))) := (ExB.refl _ _).upd
        have r7 := (r5.ex e6).exL x7 lo6
        have lp7 := x7 _ _ (Ne.symm hlolp) (e6 _ _ lp5)
        have lo7 : (upd H6 lo (.lst (ordL (pre ++ (cb.1, (cb.2.1 - ca.2.2, cb.2.2)) :: (ca.1, ca.2) :: post)))) lo = some (.lst (ordL (pre ++ (cb.1, (cb.2.1 - ca.2.2, cb.2.2)) :: (ca.1, ca.2) :: post))) := upd_same
        have bs7 := (bs5.ex e6).exB x7 lo6
        have hb7 := (hb5.ex e6).mut (o := .lst (ordL (pre ++ (cb.1, (cb.2.1 - ca.2.2, cb.2.2)) :: (ca.1, ca.2) :: post))) (Ne.symm hplo)
        have z7 : ExB p H (upd H6 lo (.lst (ordL (pre ++ (cb.1, (cb.2.1 - ca.2.2, cb.2.2)) :: (ca.1, ca.2) :: post)))) := (z5.trans (.of e6)).mut hlo
        generalize upd H6 lo (.lst (ordL (pre ++ (cb.1, (cb.2.1 - ca.2.2, cb.2.2)) :: (ca.1, ca.2) :: post))) = H7 at r7 lp7 lo7 bs7 hb7 z7 ⊢
        have hL7 : (HH.rowsOf (pre ++ (cb.1, (cb.2.1 - ca.2.2, cb.2.2)) :: ca :: post)).length = rs.length := by rw [cow_len, f1.len]
        refine s_asgL (el_lcR1 (letsN (HH.rowsOf (pre ++ (cb.1, (cb.2.1 - ca.2.2, cb.2.2)) :: ca :: post))) (fun i => .int (i : Int)) (ea_cons (ev_lenR (ev_var rfl) r7) ea_nil) (by omega) (fun x => rfl) (fun i H1 e1 hi => et_B (ev_call (ea_cons (ev_var rfl) (ea_cons (ev_var rfl) ea_nil)) (sv_can_pass (r7.ex e1) (by omega)))) (fun i H1 e1 hi _ => ev_var rfl)) fun ls8 H8 hls8 e8 h8 => ?_
        exact ⟨_, f3, v2, some (.int ((pre.length + 1 : Nat) : Int)), ls8, pre ++ (cb.1, (cb.2.1 - ca.2.2, cb.2.2)) :: ca :: post, ps ++ [((ca.1 : Int), (cb.1 : Int))], pvs ++ [.ref T], c + 1, rfl, rfl, r7.ex e8, .step w2 hpp, f1, f2, e8 _ _ lo7, e8 _ _ lp7, bs7.ex e8, h8, (hb7.ne hls8).symm, hb7.ex e8, by omega, z7.trans (.of e8)⟩
      · -- return
        have hnil : HH.passL (HH.rowsOf L) = [] := by
          cases hz : HH.passL (HH.rowsOf L) with
          | nil => rfl
          | cons x r =>
            rw [hz] at hd
            cases hd
        refine ⟨v', rfl, .ref lo, rfl, lo, _, rfl, sq_of (e1 _ _ w5), fun ot ob plain hot => ⟨.ref lp, rfl, by show 3 ≤ sizeLine; decide, fun qq hqq => ?_⟩⟩
        have ee := (e1.trans (Ex.new (o := .frz ob (.tup (ordL L))) hot)).trans (Ex.new (o := .tup [v', .ref ot, .ref lp]) hqq)
        exact q qq v' ot lp ob pvs L ps _ (w11.trans (.of ee)) ((w9.ex ee).le (by omega)) upd_same (w1.ex ee) (Ex.new hqq _ _ upd_same) plain (ee _ _ w6) (w7.ex ee) w2 w3 hnil
theorem ok_law {f f1 f2 f3 : Addr} {fd fd1 fd2 fd3 : FuncData} (F : FnP K "law" s_law f fd) (h_law_folded : Has P w K mg base 1 "_law_folded" ["_law_script", "_law_many"] (spFolded K) f1 fd1) (h_law_dip : Has P w K mg base 1 "_law_dip" ["_law_script", "_law_k"] (spDip K) f2 fd2) (h_law_right : Has P w K mg base 8 "_law_right" ["_law_box"] (spRightN 13000) f3 fd3)
    (m_range : mg "range" = none) (m_len : mg "len" = none) (m_all : mg "all" = none) (m_max : mg "max" = none) : FnOk P w K mg base CX0 9 f fd ["_law_script"] (spLaw K) := by
  refine F.ok sc_law (fun vs H Q E h => ?_) (fun cdv A outer s H vs Q E hr h => ?_)
  · obtain ⟨a, ns, rfl, _⟩ := h
    rfl
  · obtain ⟨a, ns, rfl, hS, hlen, q⟩ := h
    refine ⟨_, PSs.nox (pss_cons (ps_set (i := 1) sc_law.nd rfl (.inl rfl) (pe_call h_law_folded.G (hr.mono (by decide)) (by rfl) h_law_folded.g h_law_folded.kp h_law_folded.b .nil pass0 (pa_cons (pv 0) (pa_cons pe_int pa_nil))))
      (pss_cons (ps_for PassesOwn.never rfl (pi_range1 (by rfl) m_range (pa_cons (pe_callB (call_max2 rfl) (by rfl) m_max (by decide +kernel) (pa_cons pe_int (pa_cons (pe_callB call_len_seq (by rfl) m_len PySem.boot_len (pa_cons (pv 1) pa_nil)) pa_nil))) pa_nil)) (pg_name (i := 2) sc_law.nd rfl (Or.inl rfl))
        (pss_cons (ps_set (i := 3) sc_law.nd rfl (.inr rfl) (pe_call h_law_dip.G (hr.mono (by decide)) (by rfl) h_law_dip.g h_law_dip.kp h_law_dip.b .nil pass0 (pa_cons (pv 1) (pa_cons (pv 2) pa_nil))))
      (pss_one (ps_if (pt_not (pt_val (pe_callB (cr_all rfl) (by rfl) m_all (by decide +kernel) (pa_cons (pe_lc (own := [("_law_turn", 4)]) (g := gName 4) (by rfl) sc_law.nd (pi_range1 (by rfl) m_range (pa_cons pe_int pa_nil)) (blkOk_by (own := [("_law_turn", 4)]) (N := ["_law_script", "_law_cells", "_law_k", "_law_box", "_law_turn"]) (sc := defScope s_law) (by decide +kernel)) (fun _ _ _ _ _ => (pg_name (i := 4) sc_law.nd rfl (Or.inl rfl))) (fun _ _ _ _ _ => pts_nil) (fun _ _ _ _ _ => (pe_call h_law_right.G (hr.mono (by decide)) (by rfl) h_law_right.g h_law_right.kp h_law_right.b .nil pass0 (pa_cons (pv 3) pa_nil)))) pa_nil)))) (pss_one (ps_ret pe_bl)) pss_nil))))
      (pss_one (ps_ret pe_bl)))), ?_⟩
    refine q_call ⟨.ref a, rfl, a, 2, ns, rfl, by decide, by decide, hS, hlen, fun l H1 ms hl e1 hm h1 => ?_⟩
    have hn : 0 ≤ (if ((ms.map V.int).length : Int) > 1 then ((ms.map V.int).length : Int) else 1) ∧ (if ((ms.map V.int).length : Int) > 1 then ((ms.map V.int).length : Int) else 1) ≤ 10 := by
      rw [List.length_map]
      split <;> omega
    refine q_forR1 (ea_cons (ev_max2 ev_c (ev_len (ev_var rfl) (sq_of h1))) ea_nil) ⟨hn.1, by omega⟩ (fun i σ' H' => ∃ (y2 y3 y4 : Option V), σ' = [some (.ref a), some (.ref l), y2, y3, y4] ∧ Ex H1 H') (fun H2 e2 => ⟨none, none, none, rfl, e2⟩) (fun i σ' H2 hi hW => ?_) (fun σ' H2 hW => ?_)
    · obtain ⟨y2, y3, y4, rfl, e2⟩ := hW
      refine ⟨.ref l, rfl, .int (i : Int), rfl, l, i, ms, rfl, sq_of (e2 _ _ h1), by omega, fun p H3 hp e3 b3 => ?_⟩
      refine all_right (K := K) (p := p) (ib := 3) (m := 3) (c := 13000) (n := 0) (fun _ => rfl) (fun _ => rfl) (by decide) b3 (lim_ok (by decide)) fun H4 x4 b4 => ⟨true, rfl, ?_⟩
      refine ⟨_, _, _, rfl, fun c o hc => ?_⟩
      exact x4 c o (ne_of_none (e2 _ _ hc) hp) (e3 c o (e2 c o hc))
    · obtain ⟨y2, y3, y4, rfl, e2⟩ := hW
      exact s_ret ev_c fun H3 e3 => q H3
end
end K77
set_option maxHeartbeats 4000000
namespace K77
open PySem PySem.Spec PyProof.Rows L2 Evl HH RZ
section
variable {P : Program} {w : World} {K : PySem.W.Frag} {mg : Str → Option Value} {base : Heap}
theorem ok_Fold_row {f C : Addr} {fd : FuncData} (F : FunD K "row" "Fold.row" (defArgs s_Fold_row) (defBody s_Fold_row) (defScope s_Fold_row) [] [] f fd) (c : Cls K C) (m : Meth K C "row" f) (b : Binds K fd ["self"] []) (m_tuple : mg "tuple" = none) : HasM P w K mg base CX0 1 C "row" ["self"] [] [] (spRowM K) f fd := by
  refine ⟨F.ok sc_Fold_row (fun vs H Q E h => ?_) (fun cdv A outer s H vs Q E hr h => ?_), c, m, b, .nil⟩
  · obtain ⟨C, a, dx, pl, ml, st, rfl, _⟩ := h
    rfl
  · obtain ⟨C, a, dx, pl, ml, st, rfl, fc, ⟨lv, ps, h1, h2, h3, h4, h5⟩, hl, q⟩ := h
    refine ⟨_, PSs.nox (pss_one (ps_ret (pe_tupleOf (by rfl) m_tuple (pe_lc (own := [("name", 1), ("strength", 2), ("toll", 3), ("paid", 4)]) (g := gTup K 4 (gCons (gName 1) (gCons (gName 2) (gCons (gName 3) (gCons (gName 4) gNil))))) (by rfl) sc_Fold_row.nd (pi_tup (pe_fld (pv 0) (by rfl))) (blkOk_by (own := [("name", 1), ("strength", 2), ("toll", 3), ("paid", 4)]) (N := ["self", "name", "strength", "toll", "paid"]) (sc := defScope s_Fold_row) (by decide +kernel)) (fun _ _ _ _ _ => (pg_tup rfl (pgs_cons (pg_name (i := 1) sc_Fold_row.nd rfl (Or.inl rfl)) (pgs_cons (pg_name (i := 2) sc_Fold_row.nd rfl (Or.inl rfl)) (pgs_cons (pg_name (i := 3) sc_Fold_row.nd rfl (Or.inl rfl)) (pgs_cons (pg_name (i := 4) sc_Fold_row.nd rfl (Or.inl rfl)) pgs_nil)))))) (fun _ _ _ _ _ => pts_nil) (fun _ _ _ _ _ => (pe_tup (pa_cons (pv 2) (pa_cons (pv 3) pa_nil)))))))), ?_⟩
    exact s_retR (er_line (ev_fld (ev_var rfl) h1 fc.c fc.l rfl) h2 hl (fun x y z u => rfl) (fun b H1 e1 hb => ev_var rfl) (fun b H1 e1 hb => ev_var rfl)) q
theorem ok_Fold_names {f C : Addr} {fd : FuncData} (F : FunD K "names" "Fold.names" (defArgs s_Fold_names) (defBody s_Fold_names) (defScope s_Fold_names) [] [] f fd) (c : Cls K C) (m : Meth K C "names" f) (b : Binds K fd ["self"] []) : HasM P w K mg base CX0 1 C "names" ["self"] [] [] (spNamesM K) f fd := by
  refine ⟨F.ok sc_Fold_names (fun vs H Q E h => ?_) (fun cdv A outer s H vs Q E hr h => ?_), c, m, b, .nil⟩
  · obtain ⟨C, a, dx, pl, ml, st, rfl, _⟩ := h
    rfl
  · obtain ⟨C, a, dx, pl, ml, st, rfl, fc, ⟨lv, ps, h1, h2, h3, h4, h5⟩, hl, q⟩ := h
    refine ⟨_, PSs.nox (pss_one (ps_ret (pe_lc (own := [("name", 1), ("strength", 2), ("toll", 3), ("paid", 4)]) (g := gTup K 4 (gCons (gName 1) (gCons (gName 2) (gCons (gName 3) (gCons (gName 4) gNil))))) (by rfl) sc_Fold_names.nd (pi_tup (pe_fld (pv 0) (by rfl))) (blkOk_by (own := [("name", 1), ("strength", 2), ("toll", 3), ("paid", 4)]) (N := ["self", "name", "strength", "toll", "paid"]) (sc := defScope s_Fold_names) (by decide +kernel)) (fun _ _ _ _ _ => (pg_tup rfl (pgs_cons (pg_name (i := 1) sc_Fold_names.nd rfl (Or.inl rfl)) (pgs_cons (pg_name (i := 2) sc_Fold_names.nd rfl (Or.inl rfl)) (pgs_cons (pg_name (i := 3) sc_Fold_names.nd rfl (Or.inl rfl)) (pgs_cons (pg_name (i := 4) sc_Fold_names.nd rfl (Or.inl rfl)) pgs_nil)))))) (fun _ _ _ _ _ => pts_nil) (fun _ _ _ _ _ => (pv 1))))), ?_⟩
    refine s_retL (xs := (namesF st.1).map V.int) ?_ q
    have := el_line (K := K) (i := 1) (j := 2) (k := 3) (m := 4) (vs := [1, 2, 3, 4]) (t := tVar 1) (te := tFld K (tVar 0) "line") (σ := [some (.ref a), none, none, none, none]) (fun b => .int b.1) (ev_fld (ev_var rfl) h1 fc.c fc.l rfl) h2 hl (fun x y z u => rfl) (fun b H1 e1 hb => ev_var rfl)
    rw [show (namesF st.1).map V.int = st.1.map (fun b => V.int b.1) from by rw [namesF, List.map_map]; rfl]
    exact this
theorem ok_Fold___len {f C : Addr} {fd : FuncData} (F : FunD K "__len__" "Fold.__len__" (defArgs s_Fold___len) (defBody s_Fold___len) (defScope s_Fold___len) [] [] f fd) (c : Cls K C) (m : Meth K C "__len__" f) (b : Binds K fd ["self"] []) (m_len : mg "len" = none) : HasM P w K mg base CX0 1 C "__len__" ["self"] [] [] (spLenM K) f fd := by
  refine ⟨F.ok sc_Fold___len (fun vs H Q E h => ?_) (fun cdv A outer s H vs Q E hr h => ?_), c, m, b, .nil⟩
  · obtain ⟨C, a, dx, pl, ml, st, rfl, _⟩ := h
    rfl
  · obtain ⟨C, a, dx, pl, ml, st, rfl, fc, ⟨lv, ps, h1, ⟨la, us, rfl, g1, g2⟩, h3, h4, h5⟩, hl, q⟩ := h
    refine ⟨_, PSs.nox (pss_one (ps_ret (pe_callB call_len_seq (by rfl) m_len PySem.boot_len (pa_cons (pe_fld (pv 0) (by rfl)) pa_nil)))), ?_⟩
    have el := All2.len g2
    refine s_ret (ev_lenTup (ev_fld (ev_var rfl) h1 fc.c fc.l rfl) g1) fun H1 e1 => ?_
    rw [el]
    exact q H1 e1
theorem ok_Fold_deeds {f C : Addr} {fd : FuncData} (F : FunD K "deeds" "Fold.deeds" (defArgs s_Fold_deeds) (defBody s_Fold_deeds) (defScope s_Fold_deeds) [] [] f fd) (c : Cls K C) (m : Meth K C "deeds" f) (b : Binds K fd ["self"] []) (m_len : mg "len" = none) : HasM P w K mg base CX0 1 C "deeds" ["self"] [] [] (spDeedsM K) f fd := by
  refine ⟨F.ok sc_Fold_deeds (fun vs H Q E h => ?_) (fun cdv A outer s H vs Q E hr h => ?_), c, m, b, .nil⟩
  · obtain ⟨C, a, dx, pl, ml, st, rfl, _⟩ := h
    rfl
  · obtain ⟨C, a, dx, pl, ml, st, rfl, fc, ⟨lv, ps, h1, h2, h3, h4, h5⟩, hl, q⟩ := h
    refine ⟨_, PSs.nox (pss_one (ps_ret (pe_callB call_len_seq (by rfl) m_len PySem.boot_len (pa_cons (pe_fld (pv 0) (by rfl)) pa_nil)))), ?_⟩
    have el := All2.len h4
    refine s_ret (ev_len (ev_fld (ev_var rfl) h1 fc.c fc.p rfl) (sq_of h3)) fun H1 e1 => ?_
    rw [el]
    exact q H1 e1
theorem ok_Fold_turn {f C : Addr} {fd : FuncData} (F : FunD K "turn" "Fold.turn" (defArgs s_Fold_turn) (defBody s_Fold_turn) (defScope s_Fold_turn) [] [] f fd) (c : Cls K C) (m : Meth K C "turn" f) (b : Binds K fd ["self", "line", "coming"] []) : HasM P w K mg base CX0 1 C "turn" ["self", "line", "coming"] [] [] (spTurnM K) f fd := by
  refine ⟨F.ok sc_Fold_turn (fun vs H Q E h => ?_) (fun cdv A outer s H vs Q E hr h => ?_), c, m, b, .nil⟩
  · obtain ⟨C, a, dx, pl, ml, st, lv, l, n, rfl, _⟩ := h
    rfl
  · obtain ⟨C, a, dx, pl, ml, st, lv, l, n, rfl, fc, ⟨lv0, ps, h1, h2, h3, h4, ms, h5⟩, n1, n2, n3, hlv, hl, q⟩ := h
    refine ⟨_, PSs.nox (pss_cons (ps_expr (pe_bm PySem.F.plainAttrs_list PySem.F.slot_list_append PySem.F.type_list_append mt_append (pe_fld (pv 0) (by rfl)) (pa_cons (pe_tup (pa_cons (pe_fld (pv 0) (by rfl)) (pa_cons (pe_fld (pv 0) (by rfl)) pa_nil))) pa_nil)))
      (pss_cons (ps_fld (pv 0) (pv 1) (by rfl))
      (pss_one (ps_fld (pv 0) (pv 2) (by rfl))))), ?_⟩
    refine q_appU h3 (ev_fld (ev_var rfl) h1 fc.c fc.p rfl) (eu_tup (ea_cons (ev_fld (ev_var rfl) h1 fc.c fc.l rfl) (ea_cons (ev_fld (ev_var rfl) h1 fc.c fc.n rfl) ea_nil)) (by show 2 ≤ 100000; decide)) (by have := All2.len h4; omega) fun p H1 hp e1 g1 => ?_
    have h1' : (upd H1 pl (.lst (ps ++ [.ref p]))) a = some (.ins C dx (fldF lv0 st.2.1 pl ml)) := by
      rw [upd_ne n1]
      exact e1 _ _ h1
    refine ⟨lv, rfl, .ref a, rfl, a, C, dx, _, rfl, h1', fc.c, fc.l, by show 4 < 1000; decide, ?_⟩
    refine ⟨.int n, rfl, .ref a, rfl, a, C, dx, _, rfl, upd_same, fc.c, fc.n, by show 4 < 1000; decide, ?_⟩
    have x1 : ExF a pl H (upd (upd (upd H1 pl (.lst (ps ++ [.ref p]))) a (.ins C dx (putF "line" lv (fldF lv0 st.2.1 pl ml)))) a (.ins C dx (putF "coming" (.int n) (putF "line" lv (fldF lv0 st.2.1 pl ml))))) := fun c o c1 c2 z => by
      rw [upd_ne c1, upd_ne c1, upd_ne c2]
      exact e1 _ _ z
    have xp : (upd (upd (upd H1 pl (.lst (ps ++ [.ref p]))) a (.ins C dx (putF "line" lv (fldF lv0 st.2.1 pl ml)))) a (.ins C dx (putF "coming" (.int n) (putF "line" lv (fldF lv0 st.2.1 pl ml))))) p = some (.tup [lv0, .int st.2.1]) := by
      have pa : p ≠ a := fun z => by rw [z, e1 _ _ h1] at g1; cases g1
      have pp : p ≠ pl := fun z => by rw [z, e1 _ _ h3] at g1; cases g1
      rw [upd_ne pa, upd_ne pa, upd_ne pp]
      exact g1
    refine q _ x1 ⟨lv, ps ++ [.ref p], by rw [upd_same]; rfl, hlv.exF x1 h1 h3, ?_, ?_, ms, ?_⟩
    · rw [upd_ne n1.symm, upd_ne n1.symm, upd_same]
    · exact All2.app (All2.mono (fun _ _ g => g.exF x1 h1 h3) h4) (.cons ⟨p, lv0, rfl, st_of xp, h2.exF x1 h1 h3⟩ .nil)
    · exact x1 _ _ n3 n2 h5
end
end K77
set_option maxHeartbeats 4000000
namespace K77
open PySem PySem.Spec PyProof.Rows L2 Evl HH RZ
section
variable {P : Program} {w : World} {K : PySem.W.Frag} {mg : Str → Option Value} {base : Heap}
theorem ok_ini_NoBeast {C f : Addr} {fd : FuncData} (F : FunD K "__init__" "NoBeast.__init__" (defArgs s_ini_NoBeast) (defBody s_ini_NoBeast) (defScope s_ini_NoBeast) [] [] f fd) (T : ExcTy K .look "name" C f) (g : mg "NoBeast" = some (.ref C)) (b : Binds K fd ["self", "name"] []) (m_LookupError : mg "LookupError" = none) : HasE P w K mg base .look "NoBeast" "name" C f fd := by
  refine ⟨T, F.ok sc_ini_NoBeast (fun vs H Q E h => ?_) (fun cdv A outer s H vs Q E hr h => ?_), b, g⟩
  · obtain ⟨a, v, rfl, _⟩ := h
    rfl
  · obtain ⟨a, v, rfl, ha, q⟩ := h
    refine ⟨_, PSs.nox (pss_cons (ps_expr (pe_bini (b := .look) (by rfl) m_LookupError T.bi (pa_cons (pv 0) (pa_cons pe_str pa_nil)) (by decide) (by decide) (by decide +kernel))) (pss_one (ps_xs (pv 0) (pv 1)))), ?_⟩
    refine ⟨.ref a, rfl, a, C, _, rfl, by show 1 ≤ 1000; decide, T.ok, ha, ?_⟩
    exact ⟨v, rfl, .ref a, rfl, a, C, f, .look, rfl, T, ha, fun dx n ne => q dx n ne⟩
theorem ok_Fold_put_at {f f1 C : Addr} {fd fd1 : FuncData} (F : FunD K "put_at" "Fold.put_at" (defArgs s_Fold_put_at) (defBody s_Fold_put_at) (defScope s_Fold_put_at) [] [] f fd) (c : Cls K C) (m : Meth K C "put_at" f) (b : Binds K fd ["self", "place", "parts"] []) (h_Fold_turn : HasM P w K mg base CX0 1 C "turn" ["self", "line", "coming"] [] [] (spTurnM K) f1 fd1) :
    HasM P w K mg base CX0 2 C "put_at" ["self", "place", "parts"] [] [] (spPutM K C) f fd := by
  refine ⟨F.ok sc_Fold_put_at (fun vs H Q E h => ?_) (fun cdv A outer s H vs Q E hr h => ?_), c, m, b, .nil⟩
  · obtain ⟨a, dx, pl, ml, st, xv, ps, i, rfl, _⟩ := h
    rfl
  · obtain ⟨a, dx, pl, ml, st, xv, ps, i, rfl, fc, hf, n1, n2, n3, hp, hi, hl, hpl, hz, q⟩ := h
    obtain ⟨lv, us, h1, h2, h3, h4, h5⟩ := id hf
    refine ⟨_, PSs.nox (pss_one (ps_expr (pe_meth (pv 0) h_Fold_turn.c h_Fold_turn.m h_Fold_turn.G (hr.mono (by decide)) h_Fold_turn.b h_Fold_turn.d pass0 (pa_cons (pe_op op_catA (pe_op op_catA (pe_slice sl_tupA (pe_fld (pv 0) (by rfl)) po_none (po_some (pv 1))) (pv 2)) (pe_slice sl_tupA (pe_fld (pv 0) (by rfl)) (po_some (pe_op op_add (pv 1) pe_int)) po_none)) (pa_cons (pe_fld (pv 0) (by rfl)) pa_nil))))), ?_⟩
    refine ⟨.ref a, rfl, a, dx, _, rfl, h1, rfl, ?_⟩
    have fl : ∀ {H1 : Hp}, Ex H H1 → Ev (tFld K (tVar 0) "line") [some (.ref a), some (.int (i : Int)), some xv] H1 lv := fun e => ev_fld (ev_var rfl) (e _ _ h1) fc.c fc.l rfl
    refine (ln_cat (K := K) (ln_cat (ln_to (ln_val (fl (Ex.refl H)) h2) (ev_var rfl)) (ln_val (ev_var rfl) hp) (by rw [List.length_take]; omega)) (ln_from (j := i + 1) (ln_val (fl (Ex.refl H)) h2) (ev_op (ev_var rfl) ev_c rv_I0)) (by rw [List.length_append, List.length_take, List.length_drop]; omega)) H (Ex.refl H) _ fun lv1 H1 e1 hl1 => ?_
    refine (ev_fld (ev_var rfl) (e1 _ _ h1) fc.c fc.n rfl) H1 (Ex.refl _) _ fun H2 e2 => ?_
    exact ⟨C, a, dx, pl, ml, st, lv1, _, _, rfl, fc, hf.ex (e1.trans e2), n1, n2, n3, hl1.ex e2, hz, fun H3 e3 h3 => q H3 ((ExF.of (e1.trans e2)).trans e3) h3⟩
theorem ok_Fold_place_of {f f1 C C1 f2 : Addr} {fd fd1 fd2 : FuncData} (F : FunD K "place_of" "Fold.place_of" (defArgs s_Fold_place_of) (defBody s_Fold_place_of) (defScope s_Fold_place_of) [] [] f fd) (c : Cls K C) (m : Meth K C "place_of" f) (b : Binds K fd ["self", "name"] []) (x_NoBeast : HasE P w K mg base .look "NoBeast" "name" C1 f2 fd2) (h_Fold_names : HasM P w K mg base CX0 1 C "names" ["self"] [] [] (spNamesM K) f1 fd1) :
    HasM P w K mg base (L2N.CX P w) 3 C "place_of" ["self", "name"] [] [] (spPlaceM K C C1) f fd := by
  refine ⟨F.ok sc_Fold_place_of (fun vs H Q E h => ?_) (fun cdv A outer s H vs Q E hr h => ?_), c, m, b, .nil⟩
  · obtain ⟨a, dx, pl, ml, st, n, rfl, _⟩ := h
    rfl
  · obtain ⟨a, dx, pl, ml, st, n, rfl, fc, hf, hl, q, qx⟩ := h
    obtain ⟨lv, us, h1, h2, h3, h4, h5⟩ := id hf
    refine ⟨_, (pss_cons (ps_set (i := 2) sc_Fold_place_of.nd rfl (.inl rfl) (pe_meth0 (pv 0) h_Fold_names.c h_Fold_names.m h_Fold_names.G (hr.mono (by decide)) h_Fold_names.b h_Fold_names.d pass0))
      (pss_cons (ps_if (pt_cmpR (op_notInD (room_u65 hr)) (pv 1) (pv 2) (by with_unfolding_all rfl)) (pss_one (L2N.ps_raise rfl (L2N.takes_of rfl rfl rfl rfl) (pmk_xN x_NoBeast.T x_NoBeast.F (hr.mono (by decide)) x_NoBeast.b x_NoBeast.g (by rfl) (pa_cons (pv 1) pa_nil)))) pss_nil)
      (pss_one (ps_ret (pe_bm PySem.F.plainAttrs_list PySem.F.slot_list_index PySem.F.type_list_index mt_index (pv 2) (pa_cons (pv 1) pa_nil)))))), ?_⟩
    refine ⟨.ref a, rfl, a, dx, _, rfl, h1, rfl, C, a, dx, pl, ml, st, rfl, fc, hf, hl, fun p H1 hp e1 g1 => ?_⟩
    refine g_at [some (.ref a), some (.int n), some (.ref p)] rfl ?_
    dsimp only
    refine q_when (b := !decide (n ∈ namesF st.1)) (et_test (ev_notInI (K := K) (ev_var rfl) (ev_var rfl) (sq_of g1))) (fun z H2 e2 => ?_) fun z H2 e2 => ?_
    · have z : n ∉ namesF st.1 := by simpa using z
      exact ⟨.int n, rfl, .int n, rfl, fun d hd => qx z d H2 (e1.trans e2) hd⟩
    · have z : n ∈ namesF st.1 := by simpa using z
      obtain ⟨i, hi, no⟩ := first_at z
      exact s_ret (ev_indexI (K := K) (ev_var rfl) (ev_var rfl) (sq_of (e2 _ _ g1)) hi no) fun H3 e3 => q i hi no H3 ((e1.trans e2).trans e3)
theorem ok_Fold_leave {f f1 f2 C C1 : Addr} {fd fd1 fd2 : FuncData} (F : FunD K "leave" "Fold.leave" (defArgs s_Fold_leave) (defBody s_Fold_leave) (defScope s_Fold_leave) [] [] f fd) (c : Cls K C) (m : Meth K C "leave" f) (b : Binds K fd ["self", "name"] []) (h_Fold_put_at : HasM P w K mg base CX0 2 C "put_at" ["self", "place", "parts"] [] [] (spPutM K C) f1 fd1) (h_Fold_place_of : HasM P w K mg base (L2N.CX P w) 3 C "place_of" ["self", "name"] [] [] (spPlaceM K C C1) f2 fd2) :
    HasM P w K mg base (L2N.CX P w) 4 C "leave" ["self", "name"] [] [] (spLeaveM K C C1) f fd := by
  refine ⟨F.ok sc_Fold_leave (fun vs H Q E h => ?_) (fun cdv A outer s H vs Q E hr h => ?_), c, m, b, .nil⟩
  · obtain ⟨a, dx, pl, ml, st, n, rfl, _⟩ := h
    rfl
  · obtain ⟨a, dx, pl, ml, st, n, rfl, fc, hf, n1, n2, n3, hl, hz, q, qx⟩ := h
    obtain ⟨lv, us, h1, h2, h3, h4, h5⟩ := id hf
    refine ⟨_, (pss_one (ps_expr (pe_meth (pv 0) h_Fold_put_at.c h_Fold_put_at.m h_Fold_put_at.G (hr.mono (by decide)) h_Fold_put_at.b h_Fold_put_at.d pass0 (pa_cons (pe_methX (pv 0) h_Fold_place_of.c h_Fold_place_of.m h_Fold_place_of.G (hr.mono (by decide)) h_Fold_place_of.b h_Fold_place_of.d (fun σ => L2N.passAt (L2N.takes_of rfl rfl rfl rfl) σ) (pa_cons (pv 1) pa_nil)) (pa_cons (pe_tup pa_nil) pa_nil))))), ?_⟩
    refine ⟨.ref a, rfl, a, dx, _, rfl, h1, rfl, ?_⟩
    refine ⟨.ref a, rfl, a, dx, _, rfl, h1, rfl, .int n, rfl, ?_⟩
    refine ⟨a, dx, pl, ml, st, n, rfl, fc, hf, hl, fun i hi no H1 e1 => ?_, qx⟩
    refine ln_nil (K := K) H1 (Ex.refl _) _ fun xv H2 e2 hp => ?_
    have hi2 : i < st.1.length := by
      have := (List.getElem?_eq_some_iff.mp hi).1
      rwa [namesF, List.length_map] at this
    exact ⟨a, dx, pl, ml, st, xv, [], i, rfl, fc, hf.ex (e1.trans e2), n1, n2, n3, hp, hi2, hl, by show 0 ≤ 1000; decide, hz, fun H3 e3 h3 => q i hi no H3 ((ExF.of (e1.trans e2)).trans e3) h3⟩
end
end K77
set_option maxHeartbeats 4000000
namespace K77
open PySem PySem.Spec PyProof.Rows L2 Evl HH RZ
section
variable {P : Program} {w : World} {K : PySem.W.Frag} {mg : Str → Option Value} {base : Heap}
theorem ok_Fold_move {f f1 f2 f3 C : Addr} {fd fd1 fd2 fd3 : FuncData} (F : FunD K "move" "Fold.move" (defArgs s_Fold_move) (defBody s_Fold_move) (defScope s_Fold_move) [] [] f fd) (c : Cls K C) (m : Meth K C "move" f) (b : Binds K fd ["self", "end"] []) (h_moved : Has P w K mg base 1 "moved" ["line", "end"] (spMovedM K) f1 fd1) (h_turned_about : Has P w K mg base 2 "turned_about" ["order"] (spTurnedT K) f2 fd2) (h_Fold_turn : HasM P w K mg base CX0 1 C "turn" ["self", "line", "coming"] [] [] (spTurnM K) f3 fd3) (m_len : mg "len" = none) :
    HasM P w K mg base CX0 3 C "move" ["self", "end"] [] [] (spMoveM K C) f fd := by
  refine ⟨F.ok sc_Fold_move (fun vs H Q E h => ?_) (fun cdv A outer s H vs Q E hr h => ?_), c, m, b, .nil⟩
  · obtain ⟨a, dx, pl, ml, st, ev, rs, os, rfl, _⟩ := h
    rfl
  · obtain ⟨a, dx, pl, ml, st, ev, rs, os, rfl, fc, hf, n1, n2, n3, he, lo, lr, hl, nd, hw, hx, hz, q⟩ := h
    obtain ⟨lv, us, h1, h2, h3, h4, h5⟩ := id hf
    obtain ⟨e, rv, o, rfl, g1, g2, g3⟩ := id he
    refine ⟨_, PSs.nox (pss_cons (ps_expr (pe_meth (pv 0) h_Fold_turn.c h_Fold_turn.m h_Fold_turn.G (hr.mono (by decide)) h_Fold_turn.b h_Fold_turn.d pass0 (pa_cons (pe_call h_moved.G (hr.mono (by decide)) (by rfl) h_moved.g h_moved.kp h_moved.b .nil pass0 (pa_cons (pe_fld (pv 0) (by rfl)) (pa_cons (pv 1) pa_nil))) (pa_cons (pe_fld (pv 0) (by rfl)) pa_nil))))
      (pss_one (ps_ret (pe_callB call_len_seq (by rfl) m_len PySem.boot_len (pa_cons (pe_call h_turned_about.G (hr.mono (by decide)) (by rfl) h_turned_about.g h_turned_about.kp h_turned_about.b .nil pass0 (pa_cons (pe_ix ix_tup (pv 1) pe_int (fun _ _ => rfl)) pa_nil)) pa_nil))))), ?_⟩
    refine ⟨.ref a, rfl, a, dx, _, rfl, h1, rfl, ?_⟩
    refine ⟨.ref a, rfl, a, C, dx, _, lv, rfl, h1, fc.c, fc.l, rfl, .ref e, rfl, lv, .ref e, st.1, rs, os, rfl, h2, ⟨e, rv, o, rfl, g1, g2, g3⟩, lo, lr, by omega, hw, fun v' H2 e2 hv => ?_⟩
    refine ⟨.ref a, rfl, a, C, dx, _, _, rfl, e2 _ _ h1, fc.c, fc.n, rfl, C, a, dx, pl, ml, st, v', _, _, rfl, fc, hf.ex e2, n1, n2, n3, hv, hz, fun H4 x4 hf4 => ?_⟩
    have e13 := e2
    dsimp only
    have x14 := (ExF.of (a := a) (pl := pl) e13).trans x4
    have g1' := sqt_exF g1 x14 h1 h3
    have g3' := sqt_exF g3 x14 h1 h3
    refine ⟨.ref e, rfl, e, _, 1, .ref o, rfl, rfl, g1', rfl, ?_⟩
    refine ⟨o, os, rfl, g3', nd, hx, by omega, fun qq us H5 hq e5 gq bq => ?_⟩
    have := bq.len
    refine ⟨qq, us, rfl, .inl (sq_of gq), ?_⟩
    rw [this]
    exact q H5 (x14.trans (ExF.of e5)) (hf4.ex e5)
theorem ok_Fold_undo {f C : Addr} {fd : FuncData} (F : FunD K "undo" "Fold.undo" (defArgs s_Fold_undo) (defBody s_Fold_undo) (defScope s_Fold_undo) [] [] f fd) (c : Cls K C) (m : Meth K C "undo" f) (b : Binds K fd ["self"] []) (m_len : mg "len" = none) : HasM P w K mg base CX0 1 C "undo" ["self"] [] [] (spUndoM K C) f fd := by
  refine ⟨F.ok sc_Fold_undo (fun vs H Q E h => ?_) (fun cdv A outer s H vs Q E hr h => ?_), c, m, b, .nil⟩
  · obtain ⟨a, dx, pl, ml, st, rfl, _⟩ := h
    rfl
  · obtain ⟨a, dx, pl, ml, st, rfl, fc, hf, n1, n2, n3, hz, q0, q1⟩ := h
    obtain ⟨lv, us, h1, h2, h3, h4, ms, h5⟩ := id hf
    have ul := All2.len h4
    refine ⟨_, PSs.nox (pss_cons (ps_if (pt_cmpR op_eq (pe_callB call_len_seq (by rfl) m_len PySem.boot_len (pa_cons (pe_fld (pv 0) (by rfl)) pa_nil)) pe_int (nomark _)) (pss_one (ps_ret pe_bl)) pss_nil)
      (pss_cons (ps_asg (pe_bm0 PySem.F.plainAttrs_list PySem.F.slot_list_pop PySem.F.type_list_pop mt_pop (pe_fld (pv 0) (by rfl))) (pg_tup rfl (pgs_cons (pg_fld (pv 0)) (pgs_cons (pg_fld (pv 0)) pgs_nil))))
      (pss_one (ps_ret pe_bl)))), ?_⟩
    refine q_when (b := decide ((us.length : Int) = 0)) (et_test (ev_eqI (ev_len (ev_fld (ev_var rfl) h1 fc.c fc.p rfl) (sq_of h3)) ev_c rfl)) (fun z H1 e1 => ?_) fun z H1 e1 => ?_
    · have z := of_decide_eq_true z
      exact s_ret ev_c fun H2 e2 => q0 (List.length_eq_zero_iff.mp (by omega)) H2 (e1.trans e2)
    · have z := of_decide_eq_false z
      rcases List.eq_nil_or_concat st.2.2 with h0 | ⟨ps, ⟨l, n⟩, hp⟩
      · rw [h0] at ul
        exact absurd (show (us.length : Int) = 0 by rw [ul]; rfl) z
      rw [List.concat_eq_append] at hp
      have hu : ps.length < us.length := by rw [ul, hp, List.length_append]; show _ < _ + 1; omega
      have hul : us.length = ps.length + 1 := by rw [ul, hp, List.length_append]; rfl
      obtain ⟨y, hy⟩ : ∃ y, us[ps.length]? = some y := ⟨_, List.getElem?_eq_getElem hu⟩
      obtain ⟨p, hp1, t, lv1, rfl, ht, hlv1⟩ := All2.get h4 hy
      have : p = (l, n) := by
        rw [hp, List.getElem?_append_right (Nat.le_refl _), Nat.sub_self] at hp1
        exact (Option.some.inj hp1).symm
      subst this
      have h1' := e1 _ _ h1
      have h3' := e1 _ _ h3
      refine ⟨.ref a, rfl, a, C, dx, _, .ref pl, rfl, h1', fc.c, fc.p, rfl, .inl ⟨rfl, us, sq_of h3'⟩, pl, us, .ref t, rfl, rfl, h3', by rw [hul, Nat.add_sub_cancel]; exact hy, ?_⟩
      have xA : ExF a pl H (upd H1 pl (.lst us.dropLast)) := fun c o c1 c2 z => by
        rw [upd_ne c2]
        exact e1 _ _ z
      refine ⟨t, _, rfl, sqt_exF ht xA h1 h3, rfl, _, _, rfl, .ref a, rfl, a, C, dx, _, rfl, by rw [upd_ne n1]; exact h1', fc.c, fc.l, by show 4 < 1000; decide, _, _, rfl, .ref a, rfl, a, C, dx, _, rfl, upd_same, fc.c, fc.n, by show 4 < 1000; decide, rfl, ?_⟩
      dsimp only
      refine s_ret ev_c fun H2 e2 => ?_
      have xB : ExF a pl H (upd (upd (upd H1 pl (.lst us.dropLast)) a (.ins C dx (putF "line" lv1 (fldF lv st.2.1 pl ml)))) a (.ins C dx (putF "coming" (.int n) (putF "line" lv1 (fldF lv st.2.1 pl ml))))) := fun c o c1 c2 z => by
        rw [upd_ne c1, upd_ne c1, upd_ne c2]
        exact e1 _ _ z
      refine q1 ps l n hp H2 (xB.trans (ExF.of e2)) (FoldAt.ex ⟨lv1, us.dropLast, by rw [upd_same]; rfl, hlv1.exF xB h1 h3, ?_, ?_, ms, xB _ _ n3 n2 h5⟩ e2)
      · rw [upd_ne n1.symm, upd_ne n1.symm, upd_same]
      · have hd : us.dropLast = us.take ps.length := by rw [List.dropLast_eq_take, hul]; rfl
        have := all2_take ps.length (All2.mono (fun _ _ g => g.exF xB h1 h3) h4)
        rw [hp, List.take_left, ← hd] at this
        exact this
end
end K77
set_option maxHeartbeats 4000000
namespace K77
open PySem PySem.Spec PyProof.Rows L2 Evl HH RZ
section
variable {P : Program} {w : World} {K : PySem.W.Frag} {mg : Str → Option Value} {base : Heap}
theorem ok_Fold_undo_H {f C : Addr} {fd : FuncData} (F : FunD K "undo" "Fold.undo" (defArgs s_Fold_undo) (defBody s_Fold_undo) (defScope s_Fold_undo) [] [] f fd) (c : Cls K C) (m : Meth K C "undo" f) (b : Binds K fd ["self"] []) (m_len : mg "len" = none) : HasMH P w K mg base 1 C "undo" ["self"] (spUndoM K C) f fd := by
  refine ⟨fund_okH F sc_Fold_undo (fun vs H Q E h => ?_) (fun cdv A outer s H vs Q E pn hot hr h => ?_), c, m, b⟩
  · obtain ⟨a, dx, pl, ml, st, rfl, _⟩ := h
    rfl
  · obtain ⟨a, dx, pl, ml, st, rfl, fc, hf, n1, n2, n3, hz, q0, q1⟩ := h
    obtain ⟨lv, us, h1, h2, h3, h4, ms, h5⟩ := id hf
    have ul := All2.len h4
    refine ⟨_, PSs.nox (pss_cons (ps_if (pt_cmpR op_eq (pe_callB call_len_seq (by rfl) m_len PySem.boot_len (pa_cons (pe_fld (pv 0) (by rfl)) pa_nil)) pe_int (nomark _)) (pss_one (ps_ret pe_bl)) pss_nil)
      (pss_cons (ps_asg (pe_bm0 PySem.F.plainAttrs_list PySem.F.slot_list_pop PySem.F.type_list_pop mt_pop (pe_fld (pv 0) (by rfl))) (pg_tupH hot (pgs_cons (pg_fld (pv 0)) (pgs_cons (pg_fld (pv 0)) pgs_nil))))
      (pss_one (ps_ret pe_bl)))), ?_⟩
    refine q_when (b := decide ((us.length : Int) = 0)) (et_test (ev_eqI (ev_len (ev_fld (ev_var rfl) h1 fc.c fc.p rfl) (sq_of h3)) ev_c rfl)) (fun z H1 e1 => ?_) fun z H1 e1 => ?_
    · have z := of_decide_eq_true z
      exact s_ret ev_c fun H2 e2 => q0 (List.length_eq_zero_iff.mp (by omega)) H2 (e1.trans e2)
    · have z := of_decide_eq_false z
      rcases List.eq_nil_or_concat st.2.2 with h0 | ⟨ps, ⟨l, n⟩, hp⟩
      · rw [h0] at ul
        exact absurd (show (us.length : Int) = 0 by rw [ul]; rfl) z
      rw [List.concat_eq_append] at hp
      have hu : ps.length < us.length := by rw [ul, hp, List.length_append]; show _ < _ + 1; omega
      have hul : us.length = ps.length + 1 := by rw [ul, hp, List.length_append]; rfl
      obtain ⟨y, hy⟩ : ∃ y, us[ps.length]? = some y := ⟨_, List.getElem?_eq_getElem hu⟩
      obtain ⟨p, hp1, t, lv1, rfl, ht, hlv1⟩ := All2.get h4 hy
      have : p = (l, n) := by
        rw [hp, List.getElem?_append_right (Nat.le_refl _), Nat.sub_self] at hp1
        exact (Option.some.inj hp1).symm
      subst this
      have h1' := e1 _ _ h1
      have h3' := e1 _ _ h3
      refine ⟨.ref a, rfl, a, C, dx, _, .ref pl, rfl, h1', fc.c, fc.p, rfl, .inl ⟨rfl, us, sq_of h3'⟩, pl, us, .ref t, rfl, rfl, h3', by rw [hul, Nat.add_sub_cancel]; exact hy, ?_⟩
      have xA : ExF a pl H (upd H1 pl (.lst us.dropLast)) := fun c o c1 c2 z => by
        rw [upd_ne c2]
        exact e1 _ _ z
      refine ⟨t, _, rfl, sqt_exF ht xA h1 h3, rfl, _, _, rfl, .ref a, rfl, a, C, dx, _, rfl, by rw [upd_ne n1]; exact h1', fc.c, fc.l, by show 4 < 1000; decide, _, _, rfl, .ref a, rfl, a, C, dx, _, rfl, upd_same, fc.c, fc.n, by show 4 < 1000; decide, rfl, ?_⟩
      dsimp only
      refine s_ret ev_c fun H2 e2 => ?_
      have xB : ExF a pl H (upd (upd (upd H1 pl (.lst us.dropLast)) a (.ins C dx (putF "line" lv1 (fldF lv st.2.1 pl ml)))) a (.ins C dx (putF "coming" (.int n) (putF "line" lv1 (fldF lv st.2.1 pl ml))))) := fun c o c1 c2 z => by
        rw [upd_ne c1, upd_ne c1, upd_ne c2]
        exact e1 _ _ z
      refine q1 ps l n hp H2 (xB.trans (ExF.of e2)) (FoldAt.ex ⟨lv1, us.dropLast, by rw [upd_same]; rfl, hlv1.exF xB h1 h3, ?_, ?_, ms, xB _ _ n3 n2 h5⟩ e2)
      · rw [upd_ne n1.symm, upd_ne n1.symm, upd_same]
      · have hd : us.dropLast = us.take ps.length := by rw [List.dropLast_eq_take, hul]; rfl
        have := all2_take ps.length (All2.mono (fun _ _ g => g.exF xB h1 h3) h4)
        rw [hp, List.take_left, ← hd] at this
        exact this
end
end K77
set_option maxHeartbeats 4000000
namespace K77
open PySem PySem.Spec PyProof.Rows L2 Evl HH RZ
def spDoOneB (K : PySem.W.Frag) (C CF CM CN CP : Addr) : Sp := fun vs H Q X => ∃ (a dx pl ml : Addr) (st : FoldS) (dv : V) (d : FD), vs = [.ref a, dv] ∧ FoldC K C ∧ FoldAt K H C a dx pl ml st ∧ a ≠ pl ∧ ml ≠ pl ∧ ml ≠ a ∧ FDAt K H dv d ∧ OkL st.1 st.2.1 ∧ st.2.2.length ≤ 1000 ∧
  (∀ x l' c' H', Due st.1 st.2.1 d (.told x) l' c' → ExF a pl H H' → FoldAt K H' C a dx pl ml (turnF st l' c') → Q (placeV x) H') ∧
  ∀ r l' c' dd H', Due st.1 st.2.1 d r l' c' → isTold r = false → Ex H H' → H' dd = none → X (.ref (rdC CF CM CN CP r)) (some dd) (upd H' dd (.xd [(rdF r, placeV (rdX r))]))
section
variable {P : Program} {w : World} {K : PySem.W.Frag} {mg : Str → Option Value} {base : Heap}
theorem ok_ini_BadDeed {C f : Addr} {fd : FuncData} (F : FunD K "__init__" "BadDeed.__init__" (defArgs s_ini_BadDeed) (defBody s_ini_BadDeed) (defScope s_ini_BadDeed) [] [] f fd) (T : ExcTy K .val "number" C f) (g : mg "BadDeed" = some (.ref C)) (b : Binds K fd ["self", "number"] []) (m_ValueError : mg "ValueError" = none) : HasE P w K mg base .val "BadDeed" "number" C f fd := by
  refine ⟨T, F.ok sc_ini_BadDeed (fun vs H Q E h => ?_) (fun cdv A outer s H vs Q E hr h => ?_), b, g⟩
  · obtain ⟨a, v, rfl, _⟩ := h
    rfl
  · obtain ⟨a, v, rfl, ha, q⟩ := h
    refine ⟨_, PSs.nox (pss_cons (ps_expr (pe_bini (b := .val) (by rfl) m_ValueError T.bi (pa_cons (pv 0) (pa_cons pe_str pa_nil)) (by decide) (by decide) (by decide +kernel))) (pss_one (ps_xs (pv 0) (pv 1)))), ?_⟩
    refine ⟨.ref a, rfl, a, C, _, rfl, by show 1 ≤ 1000; decide, T.ok, ha, ?_⟩
    exact ⟨v, rfl, .ref a, rfl, a, C, f, .val, rfl, T, ha, fun dx n ne => q dx n ne⟩
end
end K77
set_option maxHeartbeats 4000000
namespace K77
open PySem PySem.Spec PyProof.Rows L2 Evl HH RZ
section
variable {P : Program} {w : World} {K : PySem.W.Frag} {mg : Str → Option Value} {base : Heap}
theorem ok_Fold_do_one {dv : Value} {f f1 f2 f3 f4 f5 f6 f7 f8 C CF CM CN CP : Addr} {fd fd1 fd2 fd3 fd4 fd5 fd6 fd7 fd8 : FuncData} (F : FunD K "do_one" "Fold.do_one" (defArgs s_Fold_do_one) (defBody s_Fold_do_one) (defScope s_Fold_do_one) [] [] f fd) (c : Cls K C) (m : Meth K C "do_one" f) (b : Binds K fd ["self", "deed"] [])
    (h_Fold_come : HasM P w K mg base (L2N.CX P w) 4 C "come" ["self", "strength", "toll", "place"] [dv] [.non] (spComeM K C CF CP) f1 fd1) (kb_Fold_come : KBn K fd1 ["self", "strength", "toll", "place"] 3 ["place"] (fun us ws => us ++ ws) (fun us ws => us ++ ws))
    (h_Fold_settle : HasM P w K mg base CX0 4 C "settle" ["self"] [] [] (spSettleM K C (fun A B => Steps A B ∧ NfR B)) f2 fd2) (h_Fold_unsettle : HasM P w K mg base CX0 4 C "unsettle" ["self"] [] [] (spSettleM K C (fun A B => FSteps A B ∧ FfR B)) f3 fd3)
    (h_Fold_overtake : HasM P w K mg base (L2N.CX P w) 5 C "overtake" ["self", "name"] [] [] (spOverM K C CN CM true) f4 fd4) (h_Fold_fall_back : HasM P w K mg base (L2N.CX P w) 5 C "fall_back" ["self", "name"] [] [] (spOverM K C CN CM false) f5 fd5)
    (h_Fold_leave : HasM P w K mg base (L2N.CX P w) 4 C "leave" ["self", "name"] [] [] (spLeaveM K C CN) f6 fd6) (h_Fold_feed : HasM P w K mg base (L2N.CX P w) 4 C "feed" ["self", "name", "by"] [] [] (spFeedM K C CN) f7 fd7) (h_Fold_ask : HasM P w K mg base (L2N.CX P w) 4 C "ask" ["self", "name", "toll"] [] [] (spAskM K C CN) f8 fd8) :
    HasM P w K mg base (L2N.CX P w) 6 C "do_one" ["self", "deed"] [] [] (spDoOneB K C CF CM CN CP) f fd := by
  refine ⟨F.ok sc_Fold_do_one (fun vs H Q E h => ?_) (fun cdv A outer s H vs Q E hr h => ?_), c, m, b, .nil⟩
  · obtain ⟨a, dx, pl, ml, st, dv, d, rfl, _⟩ := h
    rfl
  · obtain ⟨a, dx, pl, ml, st, dv, d, rfl, fc, hf, n1, n2, n3, hd, ok, hz, qt, qx⟩ := h
    obtain ⟨lv, ps, h1, h2, h3, h4⟩ := id hf
    obtain ⟨da, rfl, hd1⟩ := hd
    obtain ⟨o1, o2, o3, o4, o5⟩ := id ok
    refine ⟨_, (pss_cons (ps_set (i := 2) sc_Fold_do_one.nd rfl (.inl rfl) (pe_ix ix_tup (pv 1) pe_int (fun _ _ => rfl)))
      (pss_cons (ps_if (pt_cmpR op_eq (pv 2) pe_str (nomark _)) (pss_one (ps_ret (pe_methNX (pv 0) h_Fold_come.c h_Fold_come.m h_Fold_come.G (hr.mono (by decide)) kb_Fold_come (fun σ => L2N.passAt (L2N.takes_of rfl rfl rfl rfl) σ) (pa_cons (pe_ix ix_tup (pv 1) pe_int (fun _ _ => rfl)) (pa_cons (pe_ix ix_tup (pv 1) pe_int (fun _ _ => rfl)) pa_nil)) (pk_cons (pe_ix ix_tup (pv 1) pe_int (fun _ _ => rfl)) pk_nil)))) pss_nil)
      (pss_cons (ps_if (pt_cmpR op_eq (pv 2) pe_str (nomark _)) (pss_one (ps_ret (pe_methX (pv 0) h_Fold_leave.c h_Fold_leave.m h_Fold_leave.G (hr.mono (by decide)) h_Fold_leave.b h_Fold_leave.d (fun σ => L2N.passAt (L2N.takes_of rfl rfl rfl rfl) σ) (pa_cons (pe_ix ix_tup (pv 1) pe_int (fun _ _ => rfl)) pa_nil)))) pss_nil)
      (pss_cons (ps_if (pt_cmpR op_eq (pv 2) pe_str (nomark _)) (pss_one (ps_ret (pe_methX (pv 0) h_Fold_overtake.c h_Fold_overtake.m h_Fold_overtake.G (hr.mono (by decide)) h_Fold_overtake.b h_Fold_overtake.d (fun σ => L2N.passAt (L2N.takes_of rfl rfl rfl rfl) σ) (pa_cons (pe_ix ix_tup (pv 1) pe_int (fun _ _ => rfl)) pa_nil)))) pss_nil)
      (pss_cons (ps_if (pt_cmpR op_eq (pv 2) pe_str (nomark _)) (pss_one (ps_ret (pe_methX (pv 0) h_Fold_fall_back.c h_Fold_fall_back.m h_Fold_fall_back.G (hr.mono (by decide)) h_Fold_fall_back.b h_Fold_fall_back.d (fun σ => L2N.passAt (L2N.takes_of rfl rfl rfl rfl) σ) (pa_cons (pe_ix ix_tup (pv 1) pe_int (fun _ _ => rfl)) pa_nil)))) pss_nil)
      (pss_cons (ps_if (pt_cmpR op_eq (pv 2) pe_str (nomark _)) (pss_one (ps_ret (pe_methX (pv 0) h_Fold_feed.c h_Fold_feed.m h_Fold_feed.G (hr.mono (by decide)) h_Fold_feed.b h_Fold_feed.d (fun σ => L2N.passAt (L2N.takes_of rfl rfl rfl rfl) σ) (pa_cons (pe_ix ix_tup (pv 1) pe_int (fun _ _ => rfl)) (pa_cons (pe_ix ix_tup (pv 1) pe_int (fun _ _ => rfl)) pa_nil))))) pss_nil)
      (pss_cons (ps_if (pt_cmpR op_eq (pv 2) pe_str (nomark _)) (pss_one (ps_ret (pe_methX (pv 0) h_Fold_ask.c h_Fold_ask.m h_Fold_ask.G (hr.mono (by decide)) h_Fold_ask.b h_Fold_ask.d (fun σ => L2N.passAt (L2N.takes_of rfl rfl rfl rfl) σ) (pa_cons (pe_ix ix_tup (pv 1) pe_int (fun _ _ => rfl)) (pa_cons (pe_ix ix_tup (pv 1) pe_int (fun _ _ => rfl)) pa_nil))))) pss_nil)
      (pss_one (ps_ret (pe_ifExp (pt_cmpR op_eq (pv 2) pe_str (nomark _)) (pe_meth0 (pv 0) h_Fold_settle.c h_Fold_settle.m h_Fold_settle.G (hr.mono (by decide)) h_Fold_settle.b h_Fold_settle.d pass0) (pe_meth0 (pv 0) h_Fold_unsettle.c h_Fold_unsettle.m h_Fold_unsettle.G (hr.mono (by decide)) h_Fold_unsettle.b h_Fold_unsettle.d pass0))))))))))), ?_⟩
    cases d with
    | come s t o =>
      refine q_asg (i := 2) (v := .str "come") (ev_op (ev_var rfl) ev_c (rv_ixT hd1 rfl)) fun H1 e1 => ?_
      refine s_at [some (.ref a), some (.ref da), some (.str "come")] rfl ?_
      refine q_if (b := true) (et_eqS (ev_var rfl) (by decide)) (fun _ H2 e2 => ?_) (fun z => by cases z)
      have e02 := e1.trans e2
      have hd3 := ex_t e02 hd1
      refine ⟨.ref a, rfl, a, dx, _, rfl, e02 _ _ h1, rfl, (ev_op (ev_var rfl) ev_c (rv_ixT hd3 rfl)) H2 (Ex.refl _) _ fun H3 e3 => (ev_op (ev_var rfl) ev_c (rv_ixT (ex_t e3 hd3) rfl)) H3 (Ex.refl _) _ fun H4 e4 => (ev_op (ev_var rfl) ev_c (rv_ixT (ex_t (e3.trans e4) hd3) rfl)) H4 (Ex.refl _) _ fun H5 e5 => ⟨rfl, rfl, ?_⟩⟩
      have e05 := ((e02.trans e3).trans e4).trans e5
      exact ⟨a, dx, pl, ml, st, s, t, o, rfl, fc, hf.ex e05, n1, n2, n3, by omega, hz, fun h dd H6 e6 hdd => qx .full _ _ dd H6 (.inl ⟨h, rfl, rfl, rfl⟩) rfl (e05.trans e6) hdd, fun hl h dd H6 e6 hdd => (by
        cases o with
        | none =>
          have h : (st.1.length : Int) < 0 ∨ (st.1.length : Int) < (st.1.length : Int) := h
          omega
        | some p => exact qx (.noPlace p) _ _ dd H6 (.inr (.inl ⟨hl, h, rfl, rfl, rfl⟩)) rfl (e05.trans e6) hdd), fun hl i hi hil H6 x6 hf6 => qt (some st.2.1) _ _ H6 (.inr (.inr ⟨hl, i, hi, hil, rfl, rfl, rfl⟩)) ((ExF.of e05).trans x6) hf6⟩
    | leave n =>
      refine q_asg (i := 2) (v := .str "leave") (ev_op (ev_var rfl) ev_c (rv_ixT hd1 rfl)) fun H1 e1 => ?_
      refine s_at [some (.ref a), some (.ref da), some (.str "leave")] rfl ?_
      refine q_if (b := false) (et_eqS (ev_var rfl) (by decide)) (fun z => by cases z) (fun _ H2 e2 => ?_)
      refine q_if (b := true) (et_eqS (ev_var rfl) (by decide)) (fun _ H6 e6 => ?_) (fun z => by cases z)
      have e06 := (e1.trans e2).trans e6
      have hd6 := ex_t e06 hd1
      exact ⟨.ref a, rfl, a, dx, _, rfl, e06 _ _ h1, rfl, (ev_op (ev_var rfl) ev_c (rv_ixT hd6 rfl)) H6 (Ex.refl _) _ fun H7 e7 => ⟨a, dx, pl, ml, st, n, rfl, fc, hf.ex (e06.trans e7), n1, n2, n3, by omega, hz, fun i hi no H8 x8 hf8 => qt none _ _ H8 (.inr ⟨i, ⟨hi, no⟩, rfl, rfl, rfl⟩) ((ExF.of (e06.trans e7)).trans x8) hf8, fun hn dd H8 e8 hdd => qx (.noBeast n) _ _ dd H8 (.inl ⟨hn, rfl, rfl, rfl⟩) rfl ((e06.trans e7).trans e8) hdd⟩⟩
    | over w n =>
      refine q_asg (i := 2) (v := .str (wordO w)) (ev_op (ev_var rfl) ev_c (rv_ixT hd1 rfl)) fun H1 e1 => ?_
      refine s_at [some (.ref a), some (.ref da), some (.str (wordO w))] rfl ?_
      refine q_if (b := false) (et_eqS (ev_var rfl) (by cases w <;> decide)) (fun z => by cases z) (fun _ H2 e2 => ?_)
      refine q_if (b := false) (et_eqS (ev_var rfl) (by cases w <;> decide)) (fun z => by cases z) (fun _ H3 e3 => ?_)
      have e03 := (e1.trans e2).trans e3
      have hd3 := ex_t e03 hd1
      have main : ∀ H6, Ex H3 H6 → spOverM K C CN CM w [.ref a, .int n] H6 (fun v H' => Q v H') E := fun H6 e6 => ⟨a, dx, pl, ml, st, n, rfl, fc, hf.ex (e03.trans e6), n1, n2, n3, by omega, hz, fun i hi no hc dd H7 e7 hdd => qx (.mayNot n) _ _ dd H7 (.inr ⟨i, ⟨hi, no⟩, .inl ⟨hc, rfl, rfl, rfl⟩⟩) rfl ((e03.trans e6).trans e7) hdd, fun i x hi no hc hx H7 x7 hf7 => qt (some x) _ _ H7 (.inr ⟨i, ⟨hi, no⟩, .inr ⟨hc, x, hx, rfl, rfl, rfl⟩⟩) ((ExF.of (e03.trans e6)).trans x7) hf7, fun hn dd H7 e7 hdd => qx (.noBeast n) _ _ dd H7 (.inl ⟨hn, rfl, rfl, rfl⟩) rfl ((e03.trans e6).trans e7) hdd⟩
      cases w with
      | true =>
        refine q_if (b := true) (et_eqS (ev_var rfl) (by decide)) (fun _ H4 e4 => ?_) (fun z => by cases z)
        exact ⟨.ref a, rfl, a, dx, _, rfl, (e03.trans e4) _ _ h1, rfl, (ev_op (ev_var rfl) ev_c (rv_ixT (ex_t e4 hd3) rfl)) H4 (Ex.refl _) _ fun H6 e6 => main H6 (e4.trans e6)⟩
      | false =>
        refine q_if (b := false) (et_eqS (ev_var rfl) (by decide)) (fun z => by cases z) (fun _ H4 e4 => ?_)
        refine q_if (b := true) (et_eqS (ev_var rfl) (by decide)) (fun _ H5 e5 => ?_) (fun z => by cases z)
        exact ⟨.ref a, rfl, a, dx, _, rfl, ((e03.trans e4).trans e5) _ _ h1, rfl, (ev_op (ev_var rfl) ev_c (rv_ixT (ex_t (e4.trans e5) hd3) rfl)) H5 (Ex.refl _) _ fun H6 e6 => main H6 ((e4.trans e5).trans e6)⟩
    | feed n e =>
      refine q_asg (i := 2) (v := .str "feed") (ev_op (ev_var rfl) ev_c (rv_ixT hd1 rfl)) fun H1 e1 => ?_
      refine s_at [some (.ref a), some (.ref da), some (.str "feed")] rfl ?_
      refine q_if (b := false) (et_eqS (ev_var rfl) (by decide)) (fun z => by cases z) (fun _ H2 e2 => ?_)
      refine q_if (b := false) (et_eqS (ev_var rfl) (by decide)) (fun z => by cases z) (fun _ H3 e3 => ?_)
      refine q_if (b := false) (et_eqS (ev_var rfl) (by decide)) (fun z => by cases z) (fun _ H4 e4 => ?_)
      refine q_if (b := false) (et_eqS (ev_var rfl) (by decide)) (fun z => by cases z) (fun _ H5 e5 => ?_)
      refine q_if (b := true) (et_eqS (ev_var rfl) (by decide)) (fun _ H7 e7 => ?_) (fun z => by cases z)
      have e07 := ((((e1.trans e2).trans e3).trans e4).trans e5).trans e7
      have hd7 := ex_t e07 hd1
      refine ⟨.ref a, rfl, a, dx, _, rfl, e07 _ _ h1, rfl, (ev_op (ev_var rfl) ev_c (rv_ixT hd7 rfl)) H7 (Ex.refl _) _ fun H8 e8 => (ev_op (ev_var rfl) ev_c (rv_ixT (ex_t e8 hd7) rfl)) H8 (Ex.refl _) _ fun H9 e9 => ?_⟩
      have e09 := (e07.trans e8).trans e9
      refine ⟨a, dx, pl, ml, st, n, e, rfl, fc, hf.ex e09, n1, n2, n3, by omega, hz, fun i hi no HA xA hfA => ?_, fun hn dd HA eA hdd => qx (.noBeast n) _ _ dd HA (.inl ⟨hn, rfl, rfl, rfl⟩) rfl (e09.trans eA) hdd⟩
      obtain ⟨bb, hb, hbn⟩ := name_at hi
      have ef : onF st i (fun b => (n, b.2.1 + e, b.2.2.1, b.2.2.2)) = turnF st (putL st.1 i [(n, bb.2.1 + e, bb.2.2.1, bb.2.2.2)]) st.2.1 := by
        unfold onF
        rw [hb]
        rfl
      dsimp only at hfA
      rw [ef] at hfA
      exact qt none _ _ HA (.inr ⟨i, bb, ⟨hi, no⟩, hb, rfl, rfl, rfl⟩) ((ExF.of e09).trans xA) hfA
    | ask n t =>
      refine q_asg (i := 2) (v := .str "ask") (ev_op (ev_var rfl) ev_c (rv_ixT hd1 rfl)) fun H1 e1 => ?_
      refine s_at [some (.ref a), some (.ref da), some (.str "ask")] rfl ?_
      refine q_if (b := false) (et_eqS (ev_var rfl) (by decide)) (fun z => by cases z) (fun _ H2 e2 => ?_)
      refine q_if (b := false) (et_eqS (ev_var rfl) (by decide)) (fun z => by cases z) (fun _ H3 e3 => ?_)
      refine q_if (b := false) (et_eqS (ev_var rfl) (by decide)) (fun z => by cases z) (fun _ H4 e4 => ?_)
      refine q_if (b := false) (et_eqS (ev_var rfl) (by decide)) (fun z => by cases z) (fun _ H5 e5 => ?_)
      refine q_if (b := false) (et_eqS (ev_var rfl) (by decide)) (fun z => by cases z) (fun _ H6 e6 => ?_)
      refine q_if (b := true) (et_eqS (ev_var rfl) (by decide)) (fun _ H7 e7 => ?_) (fun z => by cases z)
      have e07 := (((((e1.trans e2).trans e3).trans e4).trans e5).trans e6).trans e7
      have hd7 := ex_t e07 hd1
      refine ⟨.ref a, rfl, a, dx, _, rfl, e07 _ _ h1, rfl, (ev_op (ev_var rfl) ev_c (rv_ixT hd7 rfl)) H7 (Ex.refl _) _ fun H8 e8 => (ev_op (ev_var rfl) ev_c (rv_ixT (ex_t e8 hd7) rfl)) H8 (Ex.refl _) _ fun H9 e9 => ?_⟩
      have e09 := (e07.trans e8).trans e9
      refine ⟨a, dx, pl, ml, st, n, t, rfl, fc, hf.ex e09, n1, n2, n3, by omega, hz, fun i hi no HA xA hfA => ?_, fun hn dd HA eA hdd => qx (.noBeast n) _ _ dd HA (.inl ⟨hn, rfl, rfl, rfl⟩) rfl (e09.trans eA) hdd⟩
      obtain ⟨bb, hb, hbn⟩ := name_at hi
      have ef : onF st i (fun b => (n, b.2.1, t, b.2.2.2)) = turnF st (putL st.1 i [(n, bb.2.1, t, bb.2.2.2)]) st.2.1 := by
        unfold onF
        rw [hb]
        rfl
      dsimp only at hfA
      rw [ef] at hfA
      exact qt none _ _ HA (.inr ⟨i, bb, ⟨hi, no⟩, hb, rfl, rfl, rfl⟩) ((ExF.of e09).trans xA) hfA
    | settle w =>
      refine q_asg (i := 2) (v := .str (wordS w)) (ev_op (ev_var rfl) ev_c (rv_ixT hd1 rfl)) fun H1 e1 => ?_
      refine s_at [some (.ref a), some (.ref da), some (.str (wordS w))] rfl ?_
      refine q_if (b := false) (et_eqS (ev_var rfl) (by cases w <;> decide)) (fun z => by cases z) (fun _ H2 e2 => ?_)
      refine q_if (b := false) (et_eqS (ev_var rfl) (by cases w <;> decide)) (fun z => by cases z) (fun _ H3 e3 => ?_)
      refine q_if (b := false) (et_eqS (ev_var rfl) (by cases w <;> decide)) (fun z => by cases z) (fun _ H4 e4 => ?_)
      refine q_if (b := false) (et_eqS (ev_var rfl) (by cases w <;> decide)) (fun z => by cases z) (fun _ H5 e5 => ?_)
      refine q_if (b := false) (et_eqS (ev_var rfl) (by cases w <;> decide)) (fun z => by cases z) (fun _ H6 e6 => ?_)
      refine q_if (b := false) (et_eqS (ev_var rfl) (by cases w <;> decide)) (fun z => by cases z) (fun _ H7 e7 => ?_)
      refine (et_eqS (r := w) (ev_var rfl) (by cases w <;> decide) : EvT (tTest (tOp rEq (tVar 2) (tC (.str "settle")))) [some (.ref a), some (.ref da), some (.str (wordS w))] H7 w) H7 (Ex.refl _) _ fun H8 e8 => ?_
      have e05 := ((((((e1.trans e2).trans e3).trans e4).trans e5).trans e6).trans e7).trans e8
      have pmS : ∀ L : List Cow, (L.map (·.1)).Perm ((tag 0 (rowF st.1)).map (·.1)) → (L.map (·.1)).Perm (List.range st.1.length) := fun L h => by rwa [tag_ids, rowF_len] at h
      cases w with
      | true =>
        rw [if_pos rfl]
        refine ⟨.ref a, rfl, a, dx, _, rfl, e05 _ _ h1, rfl, a, dx, pl, ml, st, rfl, fc, hf.ex e05, n1, n2, n3, by omega, o3, hz, fun L H6 hM x6 hf6 => ?_⟩
        rw [moved_map] at hf6
        exact qt (some (cntL L : Int)) _ _ H6 ⟨L, ⟨hM.1, nfr_nf hM.2⟩, rfl, rfl, rfl, pmS L hM.1.ids⟩ ((ExF.of e05).trans x6) hf6
      | false =>
        rw [if_neg (by decide)]
        refine ⟨.ref a, rfl, a, dx, _, rfl, e05 _ _ h1, rfl, a, dx, pl, ml, st, rfl, fc, hf.ex e05, n1, n2, n3, by omega, o3, hz, fun L H6 hM x6 hf6 => ?_⟩
        rw [moved_map] at hf6
        exact qt (some (cntL L : Int)) _ _ H6 ⟨L, ⟨hM.1, ffr_ff hM.2⟩, rfl, rfl, rfl, pmS L hM.1.ids⟩ ((ExF.of e05).trans x6) hf6
end
end K77
set_option maxHeartbeats 4000000
namespace K77
open PySem PySem.Spec PyProof.Rows L2 Evl HH RZ
section
variable {P : Program} {w : World} {K : PySem.W.Frag} {mg : Str → Option Value} {base : Heap}
theorem ok_is_number {f : Addr} {fd : FuncData} (F : FnP K "is_number" s_is_number f fd) (g : mg "is_number" = some (.ref f)) (b : Binds K fd ["thing"] []) (m_isinstance : mg "isinstance" = none) (m_int : mg "int" = none) (m_bool : mg "bool" = none) : Has P w K mg base 1 "is_number" ["thing"] spNum f fd := by
  refine ⟨F.ok sc_is_number (fun vs H Q E h => ?_) (fun cdv A outer s H vs Q E hr h => ?_), g, F.kp, b⟩
  · obtain ⟨i, rfl, _⟩ := h
    rfl
  · obtain ⟨i, rfl, q⟩ := h
    refine ⟨_, PSs.nox (pss_one (ps_ret (pe_and (pe_callB call_isi (by rfl) m_isinstance (by decide +kernel) (pa_cons (pv 0) (pa_cons (pe_bltn (v := .ty "int") (by rfl) m_int (by decide +kernel) rfl) pa_nil))) (pe_one (pe_not (pe_callB call_isi (by rfl) m_isinstance (by decide +kernel) (pa_cons (pv 0) (pa_cons (pe_bltn (v := .ty "bool") (by rfl) m_bool (by decide +kernel) rfl) pa_nil)))))))), ?_⟩
    exact s_ret (ev_andV (a := true) (b := true) (ev_isi (K := K) (ev_var rfl) (.int i) (by decide +kernel)) fun _ => ev_notV (a := false) (ev_isi (K := K) (ev_var rfl) (.int i) (by decide +kernel))) fun H1 e1 => q H1 e1
theorem ok_is_handed {f f1 : Addr} {fd fd1 : FuncData} (F : FnP K "is_handed" s_is_handed f fd) (g : mg "is_handed" = some (.ref f)) (b : Binds K fd ["kind", "thing"] []) (h_is_number : Has P w K mg base 1 "is_number" ["thing"] spNum f1 fd1) : Has P w K mg base 2 "is_handed" ["kind", "thing"] spIsHanded f fd := by
  refine ⟨F.ok sc_is_handed (fun vs H Q E h => ?_) (fun cdv A outer s H vs Q E hr h => ?_), g, F.kp, b⟩
  · obtain ⟨k, v, rfl, _⟩ := h
    rfl
  · obtain ⟨k, v, rfl, hd, q⟩ := h
    refine ⟨_, PSs.nox (pss_cons (ps_if (PW.pt (pw_and (pt_cmpR op_eq (pv 0) pe_str (nomark _)) (pw_and1 (pt_cmpR op_isN (pv 1) pe_non (nomark _))))) (pss_one (ps_ret pe_bl)) pss_nil)
      (pss_one (ps_ret (pe_and (pe_call h_is_number.G (hr.mono (by decide)) (by rfl) h_is_number.g h_is_number.kp h_is_number.b .nil pass0 (pa_cons (pv 1) pa_nil)) (pe_one (pe_or (pe_cmpR op_ne (pv 0) pe_str (nomark _)) (pe_one (pe_cmpR op_ge (pv 1) pe_int (nomark _))))))))), ?_⟩
    rcases hd with ⟨rfl, rfl⟩ | ⟨i, rfl, ht⟩
    · refine q_when (b := true) (et_and (a := true) (b := true) (et_eqS (ev_var rfl) (by decide)) fun _ => et_test (ev_op (ev_var rfl) ev_c (rv_isN2 (decide_eq_true rfl)))) (fun _ H1 e1 => ?_) (fun z => by cases z)
      exact s_ret ev_c fun H2 e2 => q H2 (e1.trans e2)
    · refine q_when (b := decide (k = "p") && false) (et_and (a := decide (k = "p")) (b := false) (et_test (ev_is (ev_op (ev_var rfl) ev_c (rv_eq rfl)) (by simp))) fun _ => et_test (ev_op (ev_var rfl) ev_c (rv_isN2 (decide_eq_false fun z => by cases z)))) (fun z => by rw [Bool.and_false] at z; cases z) (fun _ H1 e1 => ?_)
      refine s_ret (v := .bl true) (ev_andV (a := true) (b := true) (fun H2 e2 Q2 q2 => ⟨.int i, rfl, i, rfl, q2⟩) fun _ => ?_) fun H2 e2 => q H2 (e1.trans e2)
      have c1 : Ev (tOp rNe (tVar 0) (tC (.str "t"))) [some (.str k), some (.int i)] H1 (.bl (decide (k ≠ "t"))) := ev_is (ev_op (ev_var rfl) ev_c (rv_ne rfl)) (by simp)
      by_cases z : k = "t"
      · exact (ev_is (ev_orV c1 fun _ => (ev_is (ev_op (ev_var rfl) ev_c rv_I0) (by rw [decide_eq_true (ht z)]) : Ev (tOp (rI0 fun i j => .bl (decide (i ≥ j))) (tVar 1) (tC (.int 0))) [some (.str k), some (.int i)] H1 (.bl true))) (by rw [Bool.or_true]))
      · exact (ev_is (ev_orV (b := true) c1 fun y => by rw [decide_eq_true z] at y; cases y) (by rw [Bool.or_true]))
theorem ok_is_fold_deed {dH f f1 : Addr} {fd fd1 : FuncData} (F : FnP K "is_fold_deed" s_is_fold_deed f fd) (g : mg "is_fold_deed" = some (.ref f)) (b : Binds K fd ["thing"] []) (hH : Handed K w dH) (g_HANDED : mg "HANDED" = some (.ref dH)) (h_is_handed : Has P w K mg base 2 "is_handed" ["kind", "thing"] spIsHanded f1 fd1) (m_isinstance : mg "isinstance" = none) (m_tuple : mg "tuple" = none) (m_str : mg "str" = none) (m_len : mg "len" = none) (m_all : mg "all" = none) (m_zip : mg "zip" = none) : Has P w K mg base 3 "is_fold_deed" ["thing"] (spIsDeed K) f fd := by
  obtain ⟨es, n, D⟩ := hH.kd
  refine ⟨F.ok sc_is_fold_deed (fun vs H Q E h => ?_) (fun cdv A outer s H vs Q E hr h => ?_), g, F.kp, b⟩
  · obtain ⟨v, d, rfl, _⟩ := h
    rfl
  · obtain ⟨v, d, rfl, hd, tk, q⟩ := h
    refine ⟨_, PSs.nox (pss_cons (ps_if (PW.pt (pw_or (pt_not (pt_val (pe_callB call_isi (by rfl) m_isinstance (by decide +kernel) (pa_cons (pv 0) (pa_cons (pe_bltn (v := .ty "tuple") (by rfl) m_tuple (by decide +kernel) rfl) pa_nil))))) (pw_or1 (pt_cmpR op_eq (pe_callB call_len_seq (by rfl) m_len PySem.boot_len (pa_cons (pv 0) pa_nil)) pe_int (nomark _))))) (pss_one (ps_ret pe_bl)) pss_nil)
      (pss_cons (ps_if (PW.pt (pw_or (pt_not (pt_val (pe_callB call_isi (by rfl) m_isinstance (by decide +kernel) (pa_cons (pe_ix ix_tup (pv 0) pe_int (fun _ _ => rfl)) (pa_cons (pe_bltn (v := .ty "str") (by rfl) m_str (by decide +kernel) rfl) pa_nil))))) (pw_or1 (pt_cmpR (op_notIn_kd D) (pe_ix ix_tup (pv 0) pe_int (fun _ _ => rfl)) (pe_gref (by rfl) g_HANDED) (by with_unfolding_all rfl))))) (pss_one (ps_ret pe_bl)) pss_nil)
      (pss_cons (ps_set (i := 1) sc_is_fold_deed.nd rfl (.inl rfl) (pe_ix ix_kdict (pe_gref (by rfl) g_HANDED) (pe_ix ix_tup (pv 0) pe_int (fun _ _ => rfl)) (fun _ _ => rfl)))
      (pss_one (ps_ret (pe_and (pe_cmpR op_eq (pe_callB call_len_seq (by rfl) m_len PySem.boot_len (pa_cons (pv 0) pa_nil)) (pe_op op_add pe_int (pe_callB call_len_str (by rfl) m_len PySem.boot_len (pa_cons (pv 1) pa_nil))) (nomark _)) (pe_one (pe_callB (cr_all rfl) (by rfl) m_all (by decide +kernel) (pa_cons (pe_lc (own := [("kind", 2), ("part", 3)]) (g := gTup K 2 (gCons (gName 2) (gCons (gName 3) gNil))) (by rfl) sc_is_fold_deed.nd (pi_zipS (by rfl) m_zip (pa_cons (pv 1) (pa_cons (pe_slice sl_tupA (pv 0) (po_some pe_int) po_none) pa_nil))) (blkOk_by (own := [("kind", 2), ("part", 3)]) (N := ["thing", "kinds", "kind", "part"]) (sc := defScope s_is_fold_deed) (by decide +kernel)) (fun _ _ _ _ _ => (pg_tup rfl (pgs_cons (pg_name (i := 2) sc_is_fold_deed.nd rfl (Or.inl rfl)) (pgs_cons (pg_name (i := 3) sc_is_fold_deed.nd rfl (Or.inl rfl)) pgs_nil)))) (fun _ _ _ _ _ => pts_nil) (fun _ _ _ _ _ => (pe_call h_is_handed.G (hr.mono (by decide)) (by rfl) h_is_handed.g h_is_handed.kp h_is_handed.b .nil pass0 (pa_cons (pv 2) (pa_cons (pv 3) pa_nil))))) pa_nil))))))))), ?_⟩
    obtain ⟨a, rfl, ha⟩ := id hd
    rw [fdV_eq] at ha
    have hlen : (V.str (wordF d) :: partsF d).length = (partsF d).length + 1 := rfl
    have hpl : (partsF d).length ≤ 3 := by cases d <;> simp [partsF]
    refine q_when (b := false || false) (et_or (a := false) (b := false) (et_not (a := true) (et_B (ev_isi (K := K) (ev_var rfl) (.tup ha) (by decide +kernel)))) fun _ => et_test (ev_is (ev_op (ev_lenA (K := K) (ev_var rfl) (.inr ha)) ev_c (rv_eq rfl)) (by rw [hlen]; congr 1))) (fun z => by cases z) (fun _ H1 e1 => ?_)
    have ha1 := ex_t e1 ha
    obtain ⟨u, hu, ru⟩ := hH.v _ (hand_mem d)
    have w1 : Ev (tOp (rIxT K) (tVar 0) (tC (.int 0))) [some (.ref a), none, none, none] H1 (.str (wordF d)) := ev_op (ev_var rfl) ev_c (rv_ixT ha1 (atI_nat (j := 0) rfl))
    refine q_when (b := false || false) (et_or (a := false) (b := false) (et_not (a := true) (et_B (ev_isi (K := K) w1 (.str _) (by decide +kernel)))) fun _ => et_test fun H2 e2 Q2 q2 => w1 H2 e2 _ fun H3 e3 => ⟨wordF d, some u, rfl, rfl, hu, q2 H3 e3⟩) (fun z => by cases z) (fun _ H2 e2 => ?_)
    have e12 := e1.trans e2
    have ha2 := ex_t e12 ha
    refine q_asg (v := .str (kindsF d)) (ev_op ev_c (ev_op (ev_var rfl) ev_c (rv_ixT ha2 (atI_nat (j := 0) rfl))) fun H3 e3 Q3 q3 => ⟨dH, wordF d, _, rfl, rfl, hH.get d, q3 H3 (Ex.refl _)⟩) fun H3 e3 => ?_
    have e13 := e12.trans e3
    have ha3 := ex_t e13 ha
    have hk : (kindsF d).length = (partsF d).length := parts_len d
    have lenK : Ev (tCB (fun xs H Q => ∃ z : Str, xs = [.str z] ∧ z.length ≤ sizeLine ∧ Q (.int z.length) H) (tCons (tVar 1) tNil)) [some (.ref a), some (.str (kindsF d)), none, none] H3 (.int ((partsF d).length : Int)) := fun H4 e4 Q4 q4 => ⟨.str (kindsF d), rfl, kindsF d, rfl, by rw [hk]; exact sz_of (by omega), by rw [hk]; exact q4 H4 (Ex.refl _)⟩
    refine s_ret (v := .bl true) (ev_is (ev_andV (a := true) (b := true) (ev_is (ev_op (ev_lenA (K := K) (ev_var rfl) (.inr ha3)) (ev_op ev_c lenK rv_I0) (rv_eq rfl)) (by rw [hlen]; congr 1; exact decide_eq_true (by congr 1; omega))) fun _ => ev_allT (el_handed (ev_var rfl) (ev_tail (ev_var rfl) ha3) (parts_len d) (by omega) (parts_hd tk))) rfl) fun H4 e4 => q H4 (e13.trans e4)
theorem ok_refuse_bad_deeds {f f1 : Addr} {fd fd1 : FuncData} (F : FnP K "refuse_bad_deeds" s_refuse_bad_deeds f fd) (g : mg "refuse_bad_deeds" = some (.ref f)) (b : Binds K fd ["deeds"] []) (h_is_fold_deed : Has P w K mg base 3 "is_fold_deed" ["thing"] (spIsDeed K) f1 fd1) (m_enumerate : mg "enumerate" = none) : Has P w K mg base 4 "refuse_bad_deeds" ["deeds"] (spNoBad K) f fd := by
  refine ⟨F.ok sc_refuse_bad_deeds (fun vs H Q E h => ?_) (fun cdv A outer s H vs Q E hr h => ?_), g, F.kp, b⟩
  · obtain ⟨v, ds, rfl, _⟩ := h
    rfl
  · obtain ⟨v, ds, rfl, ⟨a, us, rfl, ha, hus⟩, tk, hz, q⟩ := h
    refine ⟨_, PSs.nox (pss_one (ps_for PassesOwn.never rfl (pi_enumA (by rfl) m_enumerate (pa_cons (pv 0) pa_nil)) (pg_tup rfl (pgs_cons (pg_name (i := 1) sc_refuse_bad_deeds.nd rfl (Or.inl rfl)) (pgs_cons (pg_name (i := 2) sc_refuse_bad_deeds.nd rfl (Or.inl rfl)) pgs_nil)))
        (pss_one (ps_if (pt_not (pt_val (pe_call h_is_fold_deed.G (hr.mono (by decide)) (by rfl) h_is_fold_deed.g h_is_fold_deed.kp h_is_fold_deed.b .nil pass0 (pa_cons (pv 2) pa_nil)))) (pss_one ps_never) pss_nil)))), ?_⟩
    refine s_enumA (K := K) (H0 := H) (ev_var rfl) (Ex.refl H) ha (fun i σ' H' => (∃ y1 y2, σ' = [some (.ref a), y1, y2]) ∧ Ex H H') (fun H1 e1 => ⟨⟨_, _, rfl⟩, e1⟩) (fun i σ' H' _ p => p.2) (fun i x σ' H1 T hx p hT => ?_) (fun σ' H1 p => q H1 p.2)
    obtain ⟨⟨y1, y2, rfl⟩, e1⟩ := p
    obtain ⟨d, hd, hdx⟩ := All2.get hus hx
    refine ⟨T, _, rfl, st_of upd_same, rfl, _, _, rfl, _, _, rfl, rfl, ?_⟩
    refine s_at [some (.ref a), some (.int (i : Int)), some x] rfl ?_
    have e2 := e1.trans (Ex.new (o := .tup [.int (i : Int), x]) hT)
    refine ⟨x, rfl, x, d, rfl, hdx.ex e2, tk d (List.mem_of_getElem? hd), fun H2 e3 => ⟨true, rfl, ?_⟩⟩
    dsimp only [Bool.not_true]
    rw [if_neg (by decide)]
    exact ⟨⟨_, _, rfl⟩, e2.trans e3⟩
end
end K77
set_option maxHeartbeats 4000000
namespace K77
open PySem PySem.Spec PyProof.Rows L2 Evl HH RZ
section
variable {P : Program} {w : World} {K : PySem.W.Frag} {mg : Str → Option Value} {base : Heap}
theorem ok_Fold_do {dv : Value} {kws : List (Str × V)} {f f1 f2 f3 f4 f5 f6 f7 C CF CM CN CP : Addr} {fd fd1 fd2 fd3 fd4 fd5 fd6 fd7 : FuncData} (F : FunD K "do" "Fold.do" (defArgs s_Fold_do) (defBody s_Fold_do) (defScope s_Fold_do) [] kws f fd) (c : Cls K C) (m : Meth K C "do" f) (b : Binds K fd ["self", "deeds", "whole"] [dv]) (bd : Vals [.bl true] [dv])
    (x_Full : HasE P w K mg base .over "Full" "many" CF f4 fd4) (x_NoPlace : HasE P w K mg base .look "NoPlace" "place" CP f5 fd5) (x_NoBeast : HasE P w K mg base .look "NoBeast" "name" CN f6 fd6) (x_MayNot : HasE P w K mg base .run "MayNot" "place" CM f7 fd7) (kd1 : PySem.W.exmAny K (.ref CF) [.ref CF, .ref CP, .ref CN, .ref CM] = some true) (kd2 : PySem.W.exmAny K (.ref CP) [.ref CF, .ref CP, .ref CN, .ref CM] = some true) (kd3 : PySem.W.exmAny K (.ref CN) [.ref CF, .ref CP, .ref CN, .ref CM] = some true) (kd4 : PySem.W.exmAny K (.ref CM) [.ref CF, .ref CP, .ref CN, .ref CM] = some true)
    (h_refuse_bad_deeds : Has P w K mg base 4 "refuse_bad_deeds" ["deeds"] (spNoBad K) f1 fd1) (h_Fold_do_one : HasM P w K mg base (L2N.CX P w) 6 C "do_one" ["self", "deed"] [] [] (spDoOneB K C CF CM CN CP) f2 fd2) (hH_Fold_undo : HasMH P w K mg base 1 C "undo" ["self"] (spUndoM K C) f3 fd3) (m_len : mg "len" = none) :
    HasM P w K mg base (L2.CX P w) 7 C "do" ["self", "deeds", "whole"] [dv] [.bl true] (spDoM K C CF CM CN CP) f fd := by
  refine ⟨F.ok sc_Fold_do (fun vs H Q E h => ?_) (fun cdv A outer s H vs Q E hr h => ?_), c, m, b, bd⟩
  · obtain ⟨a, dx, pl, ml, st, v, ds, wh, L, rfl, _⟩ := h
    rfl
  · obtain ⟨a, dx, pl, ml, st, v, ds, wh, L, rfl, fc, hf, hm, n1, n2, n3, ⟨da, dus, rfl, hda, hdu⟩, hdn, tk, hz, ok, hp, hL, qt, qx⟩ := h
    refine ⟨_, (pss_cons (ps_expr (pe_call h_refuse_bad_deeds.G (hr.mono (by decide)) (by rfl) h_refuse_bad_deeds.g h_refuse_bad_deeds.kp h_refuse_bad_deeds.b .nil pass0 (pa_cons (pv 1) pa_nil)))
      (pss_cons (ps_set (i := 3) sc_Fold_do.nd rfl (.inl rfl) (pe_callB call_len_seq (by rfl) m_len PySem.boot_len (pa_cons (pe_fld (pv 0) (by rfl)) pa_nil)))
      (pss_cons (ps_set (i := 4) sc_Fold_do.nd rfl (.inl rfl) (pe_lst pa_nil))
      (pss_cons (ps_expr (pe_bm PySem.F.plainAttrs_list PySem.F.slot_list_append PySem.F.type_list_append mt_append (pe_fld (pv 0) (by rfl)) (pa_cons (pe_tup (pa_cons pe_str (pa_cons (pe_callB call_len_seq (by rfl) m_len PySem.boot_len (pa_cons (pv 1) pa_nil)) pa_nil))) pa_nil)))
      (pss_cons (ps_try_reN rfl rfl rfl (fun hd => passM rfl hd) (fun hd => L2H.passesAt_of rfl hd) (takes_of rfl rfl rfl rfl) (catch4 ⟨rfl, by decide, .inl x_Full.g⟩ ⟨rfl, by decide, .inl x_NoPlace.g⟩ ⟨rfl, by decide, .inl x_NoBeast.g⟩ ⟨rfl, by decide, .inl x_MayNot.g⟩) (fun W pn xe tk po => (pss_one (ps_for (by exact po) rfl (pi_seqBK (K := K) (pv 1)) (pg_name (i := 5) sc_Fold_do.nd rfl (Or.inl rfl))
        (pss_one (ps_expr (pe_bmK (K := K) (pe_bm PySem.F.plainAttrs_list PySem.F.slot_list_append PySem.F.type_list_append mt_append (pv 4) (pa_cons (pe_methX (pv 0) h_Fold_do_one.c h_Fold_do_one.m h_Fold_do_one.G (hr.mono (by decide)) h_Fold_do_one.b h_Fold_do_one.d (fun σ => L2N.passAt tk σ) (pa_cons (pv 5) pa_nil)) pa_nil)))))))) (fun a cls d pn hot po bare => (pss_cons (ps_while (by exact po) (PW.pt (pw_and (pt_val (pv 2)) (pw_and1 (pt_cmpR op_gt (pe_callB (call_len_seqK (K := K)) (by rfl) m_len PySem.boot_len (pa_cons (pe_fldK (K := K) (pv 0) (by rfl)) pa_nil)) (pv 3) (nomark _))))) (pss_one (ps_expr (pe_methH0 (E := fun _ => E0) (pv 0) hH_Fold_undo.c hH_Fold_undo.m hH_Fold_undo.G (roomM (hr.mono (by decide))) hot hH_Fold_undo.b (fun σ => pass0H σ)))))
      (pss_cons (ps_expr (pe_bmK (K := K) (pe_bm PySem.F.plainAttrs_list PySem.F.slot_list_append PySem.F.type_list_append mt_append (pe_fldK (K := K) (pv 0) (by rfl)) (pa_cons (pe_tup (pa_cons pe_str (pa_cons (pe_callB (call_len_seqK (K := K)) (by rfl) m_len PySem.boot_len (pa_cons (pv 4) pa_nil)) pa_nil))) pa_nil))))
      (pss_one bare)))))
      (pss_cons (ps_expr (pe_bm PySem.F.plainAttrs_list PySem.F.slot_list_append PySem.F.type_list_append mt_append (pe_fld (pv 0) (by rfl)) (pa_cons (pe_tup (pa_cons pe_str (pa_cons (pe_callB call_len_seq (by rfl) m_len PySem.boot_len (pa_cons (pv 4) pa_nil)) pa_nil))) pa_nil)))
      (pss_one (ps_ret (pv 4))))))))), ?_⟩
    have hdn := hdn da rfl
    have dul := All2.len hdu
    refine q_dropB ⟨.ref da, rfl, .ref da, ds, rfl, ⟨da, dus, rfl, hda, hdu⟩, tk, by omega, fun H1 e1 => ?_⟩
    obtain ⟨lv, ps, h1, _, h3, h4, _⟩ := id hf
    have pl' := All2.len h4
    refine q_asg (i := 3) (v := .int (st.2.2.length : Int)) (ev_is (ev_len (K := K) (ev_fld (ev_var rfl) (e1 _ _ h1) fc.c fc.p rfl) (sq_of (e1 _ _ h3))) (by rw [pl'])) fun H2 e2 => ?_
    refine q_asgL (el_lst ea_nil (by show 0 ≤ 100000; decide)) fun q H3 hq e3 gq => ?_
    refine s_at [some (.ref a), some (.ref da), some (.bl wh), some (.int (st.2.2.length : Int)), some (.ref q), none] rfl ?_
    have e03 := (e1.trans e2).trans e3
    have hqH : H q = none := fresh_back (e1.trans e2) hq
    refine q_dropB (ev_mark (b := true) (n := ds.length) fc rfl (hf.ex e03) (hm.ex e03) n3 n2 (ev_is (ev_lenA (K := K) (ev_var rfl) (hda.imp (ex_l e03) (ex_t e03))) (by rw [dul])) (by omega) rfl fun H4 x4 f4 m4 => ?_)
    have alive : ∀ {c : Addr} {o : HO}, H c = some o → q ≠ c := fun {c o} h z => by rw [z, h] at hqH; cases hqH
    obtain ⟨ml0, hml0, _⟩ := id hm
    have qa := alive h1
    have qp := alive h3
    have qm := alive hml0
    have x04 : ExM a pl ml H H4 := (ExM.of e03).trans (ExM.ofB x4)
    have g4 : H4 q = some (.lst []) := x4 _ _ qm gq
    have daq : (∀ xs, H da = some (.lst xs) → da ≠ q) := fun xs h z => by rw [z, hqH] at h; cases h
    have danA : ∀ xs, H da = some (.lst xs) → da ≠ a := fun xs h z => by rw [z, h1] at h; cases h
    have stay : ∀ {H' : Hp}, ExM a pl ml H H' → (SqL K H da dus → SqL K H' da dus) ∧ (SqT K H da dus → SqT K H' da dus) := fun {H'} x => ⟨fun h => (by
      rcases h with h | h
      · rcases h with h | ⟨o, h⟩
        · exact .inl (.inl (x _ _ (danA _ h) hdn.1 hdn.2 h))
        · exact .inl (.inr ⟨o, x _ _ (fun z => by rw [z, h1] at h; cases h) hdn.1 hdn.2 h⟩)
      · exact .inr h), fun h => sqt_exM h x h1 h3 hml0⟩
    have fds : ∀ {H' : Hp}, ExM a pl ml H H' → All2 (FDAt K H') dus ds := fun {H'} x => All2.mono (fun _ _ z => z.exM x h1 h3 hml0) hdu
    have hds4 := stay x04
    show tFor _ _ _ _ _ _
    refine s_forSeq (K := K) (H0 := H) (ev_var rfl) hda hds4.1 hds4.2 (fun i σ' H' => ∃ (y5 : Option V) (xs : List (Option Int)) (st' : FoldS), σ' = [some (.ref a), some (.ref da), some (.bl wh), some (.int (st.2.2.length : Int)), some (.ref q), y5] ∧ DoTo st (ds.take i) xs st' ∧ ExM a pl ml H H' ∧ FoldAt K H' C a dx pl ml st' ∧ MarksAt K H' ml (L ++ [(true, ds.length)]) ∧ H' q = some (.lst (xs.map placeV))) (fun H5 e5 => ⟨_, [], st, rfl, by rw [List.take_zero]; exact .nil _, x04.trans (ExM.of e5), f4.ex e5, m4.ex e5, e5 _ _ g4⟩) (fun i σ' H' _ g z => by obtain ⟨_, _, _, _, _, x, _⟩ := g; exact (stay x).1 z) (fun i σ' H' _ g z => by obtain ⟨_, _, _, _, _, x, _⟩ := g; exact (stay x).2 z) (fun i x σ' H5 hx g => ?_) (fun σ' H5 g => ?_)
    · obtain ⟨y5, xs, st', rfl, dt, x5, f5, m5, g5⟩ := g
      obtain ⟨d, hdi, hdx⟩ := All2.get (fds x5) hx
      have hil : i < ds.length := (List.getElem?_eq_some_iff.mp hdi).1
      have tl := dt.len
      have til : (ds.take i).length = i := by rw [List.length_take]; omega
      have okt := dt.ok ok fun e he => tk e (List.mem_of_mem_take he)
      have tkd : ds.take (i + 1) = ds.take i ++ [d] := by rw [List.take_add_one, hdi]; rfl
      obtain ⟨lv5, ps5, c5a, _, c5p, _⟩ := id f5
      obtain ⟨ml5, hml5, _⟩ := id m5
      refine s_at [some (.ref a), some (.ref da), some (.bl wh), some (.int (st.2.2.length : Int)), some (.ref q), some x] rfl ?_
      refine ⟨.ref q, rfl, .inl ⟨rfl, _, sq_of g5⟩, .ref a, rfl, a, dx, _, rfl, c5a, rfl, x, rfl, a, dx, pl, ml, st', x, d, rfl, fc, f5, n1, n2, n3, hdx, okt, by omega, fun y l' c' H6 hD x6 f6 => ?_, fun r l' c' dd H6 hD hr e6 hdd => ?_⟩
      · refine ⟨q, xs.map placeV, placeV y, rfl, rfl, x6 _ _ qa qp g5, by rw [List.length_map]; exact sz_lt (by omega), ?_⟩
        have gq6 := x6 _ _ qa qp g5
        have uq : ExB q H6 (upd H6 q (.lst (xs.map placeV ++ [placeV y]))) := (ExB.refl _ _).upd
        refine ⟨_, xs ++ [y], turnF st' l' c', rfl, by rw [tkd]; exact dt.snoc hD, fun c o a1 a2 a3 h => ?_, f6.exB uq gq6 qp.symm qm.symm, (m5.exF x6 n3 n2 c5a c5p).exB uq qm.symm gq6, by rw [upd_same, List.map_append]; rfl⟩
        rw [upd_ne (ne_of_none h hqH)]
        exact (x5.trans (ExM.ofF x6)) c o a1 a2 a3 h
      · have e67 := Ex.new (o := .xd [(rdF r, placeV (rdX r))]) hdd
        have g7d : (upd H6 dd (.xd [(rdF r, placeV (rdX r))])) dd = some (.xd [(rdF r, placeV (rdX r))]) := upd_same
        have e57 := e6.trans e67
        have ddn : ∀ {c : Addr} {o : HO}, H5 c = some o → dd ≠ c := fun {c o} h z => by
          rw [z, e6 _ _ h] at hdd
          cases hdd
        have hddH : H dd = none := by
          cases hz : H dd with
          | none => rfl
          | some o =>
            exfalso
            by_cases za : dd = a
            · exact ddn c5a za
            by_cases zp : dd = pl
            · exact ddn c5p zp
            by_cases zm : dd = ml
            · exact ddn hml5 zm
            exact ddn (x5 _ _ za zp zm hz) rfl
        have dda := ddn c5a
        have ddp := ddn c5p
        have ddm := ddn hml5
        have ddq := ddn g5
        generalize upd H6 dd (.xd [(rdF r, placeV (rdX r))]) = H7 at e57 g7d ⊢
        refine ⟨by
          cases r with
          | told y => cases hr
          | full => exact kd1
          | noPlace n => exact kd2
          | noBeast n => exact kd3
          | mayNot n => exact kd4, ?_⟩
        obtain ⟨more, hmore, hmlen⟩ := dt.past
        refine q_while (fun m σ' H' => ∃ st2 : FoldS, σ' = [some (.ref a), some (.ref da), some (.bl wh), some (.int (st.2.2.length : Int)), some (.ref q), some x] ∧ ExM a pl ml H H' ∧ FoldAt K H' C a dx pl ml st2 ∧ MarksAt K H' ml (L ++ [(true, ds.length)]) ∧ H' q = some (.lst (xs.map placeV)) ∧ H' dd = some (.xd [(rdF r, placeV (rdX r))]) ∧ (wh = false → st2 = st') ∧ st2.2.2 ++ [(st2.1, st2.2.1)] = (st'.2.2 ++ [(st'.1, st'.2.1)]).take (st.2.2.length + m + 1) ∧ st2.2.2.length = st.2.2.length + m ∧ m ≤ 50) (ds.take i).length ⟨st', rfl, x5.trans (ExM.of e57), f5.ex e57, m5.ex e57, e57 _ _ g5, g7d, fun _ => rfl, by rw [List.take_of_length_le (by rw [List.length_append]; show st'.2.2.length + 1 ≤ _; omega)], tl.2, by omega⟩ (fun m σ' H8 hW => ?_)
        obtain ⟨st2, rfl, w1, w2, w3, w4, w5, w6, w7, w8, w9⟩ := hW
        obtain ⟨lv8, ps8, c8a, c8l, c8p, c8pp, _⟩ := id w2
        have pl8 := All2.len c8pp
        refine ⟨wh && decide (0 < m), et_and (a := wh) (b := decide (0 < m)) (et_B (ev_var rfl)) fun _ => et_test (ev_is (ev_op (ev_len (K := K) (ev_fld (ev_var rfl) c8a fc.c fc.p rfl) (sq_of c8p)) (ev_var rfl) rv_I0) (by rw [pl8, w8]; congr 1; exact decide_eq_decide.mpr ⟨fun h => by omega, fun h => by omega⟩)), fun z H9 e9 => ?_, fun z H9 e9 => ?_⟩
        · have zm : 0 < m := of_decide_eq_true (Bool.and_eq_true_iff.mp z).2
          have zw : wh = true := (Bool.and_eq_true_iff.mp z).1
          obtain ⟨m', rfl⟩ : ∃ m', m = m' + 1 := ⟨m - 1, by omega⟩
          refine ⟨_, fun σ2 H2 h => ⟨m', Nat.lt_succ_self _, h⟩, ?_⟩
          refine ⟨.ref a, rfl, a, dx, _, rfl, e9 _ _ c8a, rfl, a, dx, pl, ml, st2, rfl, fc, w2.ex e9, n1, n2, n3, by omega, fun h0 => absurd (by rw [h0]; rfl : st2.2.2.length = 0) (by omega), fun ps2 l2 c2 hps HA xA fA => ?_⟩
          have c9a := e9 _ _ c8a
          have c9p := e9 _ _ c8p
          refine ⟨(l2, c2, ps2), rfl, (w1.trans (ExM.of e9)).trans (ExM.ofF xA), fA, (w3.ex e9).exF xA n3 n2 c9a c9p, xA _ _ qa qp (e9 _ _ w4), xA _ _ dda ddp (e9 _ _ w5), (fun y => absurd (zw.symm.trans y) (by decide)), ?_, ?_, by omega⟩
          · show ps2 ++ [(l2, c2)] = _
            rw [← hps]
            have h := congrArg (List.take (st.2.2.length + m' + 1)) w7
            rw [List.take_take, Nat.min_eq_left (by omega), List.take_append_of_le_length (by omega), List.take_of_length_le (by omega)] at h
            exact h
          · have := congrArg List.length hps
            rw [List.length_append, w8] at this
            have this : st.2.2.length + (m' + 1) = ps2.length + 1 := this
            show ps2.length = _
            omega
        · refine q_dropB (ev_mark (b := false) (n := xs.length) fc rfl (w2.ex e9) (w3.ex e9) n3 n2 (ev_is (ev_len (K := K) (ev_var rfl) (sq_of (e9 _ _ w4))) (by rw [List.length_map])) (by rw [List.length_append]; show L.length + 1 ≤ _; omega) rfl fun HA xA fA mA => ?_)
          have lx : xs.length = i := by omega
          refine qx i xs st' d r l' c' dd HA dt hdi hD hr ((w1.trans (ExM.of e9)).trans (ExM.ofB xA)) ?_ ?_ hddH (xA _ _ ddm (e9 _ _ w5))
          · cases hw : wh with
            | false =>
              rw [if_neg (by decide), ← w6 hw]
              exact fA
            | true =>
              rw [if_pos rfl]
              have zm : m = 0 := by
                rw [hw, Bool.true_and] at z
                have := of_decide_eq_false z
                omega
              subst zm
              rw [hmore, show st.2.2.length + 0 + 1 = st.2.2.length + 1 from rfl, List.take_append, Nat.add_sub_cancel_left, List.take_of_length_le (by omega)] at w7
              have w7 : st2.2.2 ++ [(st2.1, st2.2.1)] = st.2.2 ++ [(st.1, st.2.1)] := w7
              obtain ⟨k1, k2⟩ := List.append_inj' w7 rfl
              have k2 := (List.cons.inj k2).1
              have : st2 = st := by
                obtain ⟨s1, s2, s3⟩ := st2
                obtain ⟨t1, t2, t3⟩ := st
                have k1 : s3 = t3 := k1
                have k3 : s1 = t1 := congrArg Prod.fst k2
                have k4 : s2 = t2 := congrArg Prod.snd k2
                rw [k1, k3, k4]
              rw [← this]
              exact fA
          · rw [List.append_assoc] at mA
            rw [← lx]
            exact mA
    · obtain ⟨y5, xs, st', rfl, dt, x5, f5, m5, g5⟩ := g
      rw [dul] at dt
      rw [List.take_of_length_le (Nat.le_refl _)] at dt
      have tl := dt.len
      refine q_dropB (ev_mark (b := false) (n := xs.length) fc rfl f5 m5 n3 n2 (ev_is (ev_len (K := K) (ev_var rfl) (sq_of g5)) (by rw [List.length_map])) (by rw [List.length_append]; show L.length + 1 ≤ _; omega) rfl fun HA xA fA mA => ?_)
      refine s_ret (ev_var rfl) fun HB eB => ?_
      refine qt xs st' q HB dt ((x5.trans (ExM.ofB xA)).trans (ExM.of eB)) (fA.ex eB) ?_ hqH (eB _ _ (xA _ _ qm g5))
      rw [List.append_assoc, ← tl.1] at mA
      exact mA.ex eB
end
end K77
set_option maxHeartbeats 4000000
namespace K77
open PySem PySem.Spec PyProof.Rows L2 Evl HH RZ
section
variable {P : Program} {w : World} {K : PySem.W.Frag} {mg : Str → Option Value} {base : Heap}
theorem ok_Fold_feed {f f1 f2 C C1 : Addr} {fd fd1 fd2 : FuncData} (F : FunD K "feed" "Fold.feed" (defArgs s_Fold_feed) (defBody s_Fold_feed) (defScope s_Fold_feed) [] [] f fd) (c : Cls K C) (m : Meth K C "feed" f) (b : Binds K fd ["self", "name", "by"] []) (h_Fold_put_at : HasM P w K mg base CX0 2 C "put_at" ["self", "place", "parts"] [] [] (spPutM K C) f1 fd1) (h_Fold_place_of : HasM P w K mg base (L2N.CX P w) 3 C "place_of" ["self", "name"] [] [] (spPlaceM K C C1) f2 fd2) :
    HasM P w K mg base (L2N.CX P w) 4 C "feed" ["self", "name", "by"] [] [] (spFeedM K C C1) f fd := by
  refine ⟨F.ok sc_Fold_feed (fun vs H Q E h => ?_) (fun cdv A outer s H vs Q E hr h => ?_), c, m, b, .nil⟩
  · obtain ⟨a, dx, pl, ml, st, n, d, rfl, _⟩ := h
    rfl
  · obtain ⟨a, dx, pl, ml, st, n, d, rfl, fc, hf, n1, n2, n3, hl, hz, q, qx⟩ := h
    obtain ⟨lv, us, h1, h2, h3, h4, h5⟩ := id hf
    refine ⟨_, (pss_cons (ps_set (i := 3) sc_Fold_feed.nd rfl (.inl rfl) (pe_methX (pv 0) h_Fold_place_of.c h_Fold_place_of.m h_Fold_place_of.G (hr.mono (by decide)) h_Fold_place_of.b h_Fold_place_of.d (fun σ => L2N.passAt (L2N.takes_of rfl rfl rfl rfl) σ) (pa_cons (pv 1) pa_nil)))
      (pss_cons (ps_asg (pe_ix ix_tup (pe_fld (pv 0) (by rfl)) (pv 3) (fun _ _ => rfl)) (pg_tup rfl (pgs_cons (pg_name (i := 4) sc_Fold_feed.nd rfl (Or.inl rfl)) (pgs_cons (pg_name (i := 5) sc_Fold_feed.nd rfl (Or.inl rfl)) (pgs_cons (pg_name (i := 6) sc_Fold_feed.nd rfl (Or.inl rfl)) (pgs_cons (pg_name (i := 7) sc_Fold_feed.nd rfl (Or.inl rfl)) pgs_nil))))))
      (pss_one (ps_expr (pe_meth (pv 0) h_Fold_put_at.c h_Fold_put_at.m h_Fold_put_at.G (hr.mono (by decide)) h_Fold_put_at.b h_Fold_put_at.d pass0 (pa_cons (pv 3) (pa_cons (pe_tup (pa_cons (pe_tup (pa_cons (pv 1) (pa_cons (pe_op op_add (pv 5) (pv 2)) (pa_cons (pv 6) (pa_cons (pv 7) pa_nil))))) pa_nil)) pa_nil))))))), ?_⟩
    refine ⟨.ref a, rfl, a, dx, _, rfl, h1, rfl, .int n, rfl, ?_⟩
    refine ⟨a, dx, pl, ml, st, n, rfl, fc, hf, hl, fun i hi no H1 e1 => ?_, qx⟩
    obtain ⟨b, hb, hbn⟩ := name_at hi
    refine g_at [some (.ref a), some (.int n), some (.int d), some (.int (i : Int)), none, none, none, none] rfl ?_
    dsimp only
    obtain ⟨t, ht, hev⟩ := ev_lineIx (K := K) (te := tFld K (tVar 0) "line") (ti := tVar 3) (σ := [some (.ref a), some (.int n), some (.int d), some (.int (i : Int)), none, none, none, none]) (ev_fld (ev_var rfl) (e1 _ _ h1) fc.c fc.l rfl) (h2.ex e1) (ev_var rfl) hb
    refine hev H1 (Ex.refl _) _ fun H2 e2 => ⟨t, _, rfl, ex_t e2 ht, rfl, _, _, rfl, _, _, rfl, _, _, rfl, _, _, rfl, rfl, ?_⟩
    dsimp only
    refine s_at [some (.ref a), some (.int n), some (.int d), some (.int (i : Int)), some (.int b.1), some (.int b.2.1), some (.int b.2.2.1), some (.int b.2.2.2)] rfl ?_
    have e12 := e1.trans e2
    refine ⟨.ref a, rfl, a, dx, _, rfl, e12 _ _ h1, rfl, .int (i : Int), rfl, ?_⟩
    refine (ln_one (K := K) (b := (n, b.2.1 + d, b.2.2.1, b.2.2.2)) (ev_var rfl) (ev_op (ev_var rfl) (ev_var rfl) rv_I0) (ev_var rfl) (ev_var rfl)) H2 (Ex.refl _) _ fun xv H3 e3 hp => ?_
    exact ⟨a, dx, pl, ml, st, xv, _, i, rfl, fc, hf.ex (e12.trans e3), n1, n2, n3, hp, (List.getElem?_eq_some_iff.mp hb).1, hl, by show 1 ≤ 1000; decide, hz, fun H4 e4 h4 => q i hi no H4 ((ExF.of (e12.trans e3)).trans e4) (by
      unfold onF
      dsimp only
      rw [hb]
      exact h4)⟩
theorem ok_Fold_ask {f f1 f2 C C1 : Addr} {fd fd1 fd2 : FuncData} (F : FunD K "ask" "Fold.ask" (defArgs s_Fold_ask) (defBody s_Fold_ask) (defScope s_Fold_ask) [] [] f fd) (c : Cls K C) (m : Meth K C "ask" f) (b : Binds K fd ["self", "name", "toll"] []) (h_Fold_put_at : HasM P w K mg base CX0 2 C "put_at" ["self", "place", "parts"] [] [] (spPutM K C) f1 fd1) (h_Fold_place_of : HasM P w K mg base (L2N.CX P w) 3 C "place_of" ["self", "name"] [] [] (spPlaceM K C C1) f2 fd2) :
    HasM P w K mg base (L2N.CX P w) 4 C "ask" ["self", "name", "toll"] [] [] (spAskM K C C1) f fd := by
  refine ⟨F.ok sc_Fold_ask (fun vs H Q E h => ?_) (fun cdv A outer s H vs Q E hr h => ?_), c, m, b, .nil⟩
  · obtain ⟨a, dx, pl, ml, st, n, d, rfl, _⟩ := h
    rfl
  · obtain ⟨a, dx, pl, ml, st, n, d, rfl, fc, hf, n1, n2, n3, hl, hz, q, qx⟩ := h
    obtain ⟨lv, us, h1, h2, h3, h4, h5⟩ := id hf
    refine ⟨_, (pss_cons (ps_set (i := 3) sc_Fold_ask.nd rfl (.inl rfl) (pe_methX (pv 0) h_Fold_place_of.c h_Fold_place_of.m h_Fold_place_of.G (hr.mono (by decide)) h_Fold_place_of.b h_Fold_place_of.d (fun σ => L2N.passAt (L2N.takes_of rfl rfl rfl rfl) σ) (pa_cons (pv 1) pa_nil)))
      (pss_cons (ps_asg (pe_ix ix_tup (pe_fld (pv 0) (by rfl)) (pv 3) (fun _ _ => rfl)) (pg_tup rfl (pgs_cons (pg_name (i := 4) sc_Fold_ask.nd rfl (Or.inl rfl)) (pgs_cons (pg_name (i := 5) sc_Fold_ask.nd rfl (Or.inl rfl)) (pgs_cons (pg_name (i := 6) sc_Fold_ask.nd rfl (Or.inl rfl)) (pgs_cons (pg_name (i := 7) sc_Fold_ask.nd rfl (Or.inl rfl)) pgs_nil))))))
      (pss_one (ps_expr (pe_meth (pv 0) h_Fold_put_at.c h_Fold_put_at.m h_Fold_put_at.G (hr.mono (by decide)) h_Fold_put_at.b h_Fold_put_at.d pass0 (pa_cons (pv 3) (pa_cons (pe_tup (pa_cons (pe_tup (pa_cons (pv 1) (pa_cons (pv 5) (pa_cons (pv 2) (pa_cons (pv 7) pa_nil))))) pa_nil)) pa_nil))))))), ?_⟩
    refine ⟨.ref a, rfl, a, dx, _, rfl, h1, rfl, .int n, rfl, ?_⟩
    refine ⟨a, dx, pl, ml, st, n, rfl, fc, hf, hl, fun i hi no H1 e1 => ?_, qx⟩
    obtain ⟨b, hb, hbn⟩ := name_at hi
    refine g_at [some (.ref a), some (.int n), some (.int d), some (.int (i : Int)), none, none, none, none] rfl ?_
    dsimp only
    obtain ⟨t, ht, hev⟩ := ev_lineIx (K := K) (te := tFld K (tVar 0) "line") (ti := tVar 3) (σ := [some (.ref a), some (.int n), some (.int d), some (.int (i : Int)), none, none, none, none]) (ev_fld (ev_var rfl) (e1 _ _ h1) fc.c fc.l rfl) (h2.ex e1) (ev_var rfl) hb
    refine hev H1 (Ex.refl _) _ fun H2 e2 => ⟨t, _, rfl, ex_t e2 ht, rfl, _, _, rfl, _, _, rfl, _, _, rfl, _, _, rfl, rfl, ?_⟩
    dsimp only
    refine s_at [some (.ref a), some (.int n), some (.int d), some (.int (i : Int)), some (.int b.1), some (.int b.2.1), some (.int b.2.2.1), some (.int b.2.2.2)] rfl ?_
    have e12 := e1.trans e2
    refine ⟨.ref a, rfl, a, dx, _, rfl, e12 _ _ h1, rfl, .int (i : Int), rfl, ?_⟩
    refine (ln_one (K := K) (b := (n, b.2.1, d, b.2.2.2)) (ev_var rfl) (ev_var rfl) (ev_var rfl) (ev_var rfl)) H2 (Ex.refl _) _ fun xv H3 e3 hp => ?_
    exact ⟨a, dx, pl, ml, st, xv, _, i, rfl, fc, hf.ex (e12.trans e3), n1, n2, n3, hp, (List.getElem?_eq_some_iff.mp hb).1, hl, by show 1 ≤ 1000; decide, hz, fun H4 e4 h4 => q i hi no H4 ((ExF.of (e12.trans e3)).trans e4) (by
      unfold onF
      dsimp only
      rw [hb]
      exact h4)⟩
theorem ok_Fold_paid {f f2 C C1 : Addr} {fd fd2 : FuncData} (F : FunD K "paid" "Fold.paid" (defArgs s_Fold_paid) (defBody s_Fold_paid) (defScope s_Fold_paid) [] [] f fd) (c : Cls K C) (m : Meth K C "paid" f) (b : Binds K fd ["self", "name"] []) (h_Fold_place_of : HasM P w K mg base (L2N.CX P w) 3 C "place_of" ["self", "name"] [] [] (spPlaceM K C C1) f2 fd2) :
    HasM P w K mg base (L2N.CX P w) 4 C "paid" ["self", "name"] [] [] (spPaidM K C C1) f fd := by
  refine ⟨F.ok sc_Fold_paid (fun vs H Q E h => ?_) (fun cdv A outer s H vs Q E hr h => ?_), c, m, b, .nil⟩
  · obtain ⟨a, dx, pl, ml, st, n, rfl, _⟩ := h
    rfl
  · obtain ⟨a, dx, pl, ml, st, n, rfl, fc, hf, hl, q, qx⟩ := h
    obtain ⟨lv, us, h1, h2, h3, h4, h5⟩ := id hf
    refine ⟨_, (pss_one (ps_ret (pe_ix ix_tup (pe_ix ix_tup (pe_fld (pv 0) (by rfl)) (pe_methX (pv 0) h_Fold_place_of.c h_Fold_place_of.m h_Fold_place_of.G (hr.mono (by decide)) h_Fold_place_of.b h_Fold_place_of.d (fun σ => L2N.passAt (L2N.takes_of rfl rfl rfl rfl) σ) (pa_cons (pv 1) pa_nil)) (fun _ _ => rfl)) pe_int (fun _ _ => rfl)))), ?_⟩
    refine ⟨.ref a, rfl, a, C, dx, _, lv, rfl, h1, fc.c, fc.l, rfl, .ref a, rfl, a, dx, _, rfl, h1, rfl, .int n, rfl, a, dx, pl, ml, st, n, rfl, fc, hf, hl, fun i hi no H1 e1 => ?_, qx⟩
    obtain ⟨b, hb, hbn⟩ := name_at hi
    obtain ⟨la, ws, rfl, g1, g2⟩ := h2
    obtain ⟨u, hu, t, rfl, ht⟩ := all2_at g2 hb
    exact ⟨la, ws, (i : Int), .ref t, rfl, rfl, ex_t e1 g1, atI_nat hu, t, _, 3, .int b.2.2.2, rfl, rfl, ex_t e1 ht, rfl, q i b hb hbn no H1 e1⟩
end
end K77
set_option maxHeartbeats 4000000
namespace K77
open PySem PySem.Spec PyProof.Rows L2 Evl HH RZ
section
variable {P : Program} {w : World} {K : PySem.W.Frag} {mg : Str → Option Value} {base : Heap}
theorem ok_ini_NoPlace {C f : Addr} {fd : FuncData} (F : FunD K "__init__" "NoPlace.__init__" (defArgs s_ini_NoPlace) (defBody s_ini_NoPlace) (defScope s_ini_NoPlace) [] [] f fd) (T : ExcTy K .look "place" C f) (g : mg "NoPlace" = some (.ref C)) (b : Binds K fd ["self", "place"] []) (m_LookupError : mg "LookupError" = none) : HasE P w K mg base .look "NoPlace" "place" C f fd := by
  refine ⟨T, F.ok sc_ini_NoPlace (fun vs H Q E h => ?_) (fun cdv A outer s H vs Q E hr h => ?_), b, g⟩
  · obtain ⟨a, v, rfl, _⟩ := h
    rfl
  · obtain ⟨a, v, rfl, ha, q⟩ := h
    refine ⟨_, PSs.nox (pss_cons (ps_expr (pe_bini (b := .look) (by rfl) m_LookupError T.bi (pa_cons (pv 0) (pa_cons pe_str pa_nil)) (by decide) (by decide) (by decide +kernel))) (pss_one (ps_xs (pv 0) (pv 1)))), ?_⟩
    refine ⟨.ref a, rfl, a, C, _, rfl, by show 1 ≤ 1000; decide, T.ok, ha, ?_⟩
    exact ⟨v, rfl, .ref a, rfl, a, C, f, .look, rfl, T, ha, fun dx n ne => q dx n ne⟩
theorem ok_ini_Full {C f : Addr} {fd : FuncData} (F : FunD K "__init__" "Full.__init__" (defArgs s_ini_Full) (defBody s_ini_Full) (defScope s_ini_Full) [] [] f fd) (T : ExcTy K .over "many" C f) (g : mg "Full" = some (.ref C)) (b : Binds K fd ["self", "many"] []) (m_OverflowError : mg "OverflowError" = none) : HasE P w K mg base .over "Full" "many" C f fd := by
  refine ⟨T, F.ok sc_ini_Full (fun vs H Q E h => ?_) (fun cdv A outer s H vs Q E hr h => ?_), b, g⟩
  · obtain ⟨a, v, rfl, _⟩ := h
    rfl
  · obtain ⟨a, v, rfl, ha, q⟩ := h
    refine ⟨_, PSs.nox (pss_cons (ps_expr (pe_bini (b := .over) (by rfl) m_OverflowError T.bi (pa_cons (pv 0) (pa_cons pe_str pa_nil)) (by decide) (by decide) (by decide +kernel))) (pss_one (ps_xs (pv 0) (pv 1)))), ?_⟩
    refine ⟨.ref a, rfl, a, C, _, rfl, by show 1 ≤ 1000; decide, T.ok, ha, ?_⟩
    exact ⟨v, rfl, .ref a, rfl, a, C, f, .over, rfl, T, ha, fun dx n ne => q dx n ne⟩
theorem ok_Fold_come {f f1 f2 f3 C C1 C2 : Addr} {fd fd1 fd2 fd3 : FuncData} {dv : Value} (F : FunD K "come" "Fold.come" (defArgs s_Fold_come) (defBody s_Fold_come) (defScope s_Fold_come) [] [("place", .non)] f fd) (c : Cls K C) (m : Meth K C "come" f) (b : Binds K fd ["self", "strength", "toll", "place"] [dv]) (bd : Vals [.non] [dv]) (x_Full : HasE P w K mg base .over "Full" "many" C1 f2 fd2) (x_NoPlace : HasE P w K mg base .look "NoPlace" "place" C2 f3 fd3)
    (h_Fold_turn : HasM P w K mg base CX0 1 C "turn" ["self", "line", "coming"] [] [] (spTurnM K) f1 fd1) (m_len : mg "len" = none) (g_MOST : ∃ t, mg "MOST" = some (.int 24 t)) :
    HasM P w K mg base (L2N.CX P w) 4 C "come" ["self", "strength", "toll", "place"] [dv] [.non] (spComeM K C C1 C2) f fd := by
  refine ⟨F.ok sc_Fold_come (fun vs H Q E h => ?_) (fun cdv A outer s H vs Q E hr h => ?_), c, m, b, bd⟩
  · obtain ⟨a, dx, pl, ml, st, s, t, o, rfl, _⟩ := h
    rfl
  · obtain ⟨a, dx, pl, ml, st, sn, tn, o, rfl, fc, hf, n1, n2, n3, hl, hz, qf, qp, q⟩ := h
    obtain ⟨lv, us, h1, h2, h3, h4, h5⟩ := id hf
    obtain ⟨la, ws, rfl, g1, g2⟩ := id h2
    have el := All2.len g2
    refine ⟨_, (pss_cons (ps_set (i := 4) sc_Fold_come.nd rfl (.inl rfl) (pe_callB call_len_seq (by rfl) m_len PySem.boot_len (pa_cons (pe_fld (pv 0) (by rfl)) pa_nil)))
      (pss_cons (ps_if (pt_cmpR op_ge (pv 4) (pe_gint (by rfl) g_MOST) (nomark _)) (pss_one (L2N.ps_raise rfl (L2N.takes_of rfl rfl rfl rfl) (pmk_xN x_Full.T x_Full.F (hr.mono (by decide)) x_Full.b x_Full.g (by rfl) (pa_cons (pe_gint (by rfl) g_MOST) pa_nil)))) pss_nil)
      (pss_cons (ps_set (i := 5) sc_Fold_come.nd rfl (.inl rfl) (pe_ifExp (pt_cmpR op_isN (pv 3) pe_non (nomark _)) (pv 4) (pv 3)))
      (pss_cons (ps_if (PW.pt (pw_or (pt_cmpR op_lt (pv 5) pe_int (nomark _)) (pw_or1 (pt_cmpR op_gt (pv 5) (pv 4) (nomark _))))) (pss_one (L2N.ps_raise rfl (L2N.takes_of rfl rfl rfl rfl) (pmk_xN x_NoPlace.T x_NoPlace.F (hr.mono (by decide)) x_NoPlace.b x_NoPlace.g (by rfl) (pa_cons (pv 3) pa_nil)))) pss_nil)
      (pss_cons (ps_set (i := 6) sc_Fold_come.nd rfl (.inl rfl) (pe_fld (pv 0) (by rfl)))
      (pss_cons (ps_expr (pe_meth (pv 0) h_Fold_turn.c h_Fold_turn.m h_Fold_turn.G (hr.mono (by decide)) h_Fold_turn.b h_Fold_turn.d pass0 (pa_cons (pe_op op_catA (pe_op op_catA (pe_slice sl_tupA (pe_fld (pv 0) (by rfl)) po_none (po_some (pv 5))) (pe_tup (pa_cons (pe_tup (pa_cons (pv 6) (pa_cons (pv 1) (pa_cons (pv 2) (pa_cons pe_int pa_nil))))) pa_nil))) (pe_slice sl_tupA (pe_fld (pv 0) (by rfl)) (po_some (pv 5)) po_none)) (pa_cons (pe_op op_add (pv 6) pe_int) pa_nil))))
      (pss_one (ps_ret (pv 6))))))))), ?_⟩
    refine q_asg (v := .int (st.1.length : Int)) (by
      have := ev_lenTup (K := K) (te := tFld K (tVar 0) "line") (σ := [some (.ref a), some (.int sn), some (.int tn), some (placeV o), none, none, none]) (ev_fld (ev_var rfl) h1 fc.c fc.l rfl) g1
      rw [el] at this
      exact this) fun H1 e1 => ?_
    refine s_at [some (.ref a), some (.int sn), some (.int tn), some (placeV o), some (.int (st.1.length : Int)), none, none] rfl ?_
    refine q_when (b := decide ((st.1.length : Int) ≥ 24)) (et_test (ev_op (ev_var rfl) ev_c rv_I0)) (fun z H2 e2 => ?_) fun z H2 e2 => ?_
    · have z := of_decide_eq_true z
      exact ⟨.int 24, rfl, fun d hd => qf (by omega) d H2 (e1.trans e2) hd⟩
    have z := of_decide_eq_false z
    have few : st.1.length < 24 := by omega
    have e12 := e1.trans e2
    refine q_asg (v := .int (o.getD st.1.length)) ?_ fun H3 e3 => ?_
    · cases o with
      | none => exact ev_if (b := true) (et_test (ev_op (ev_var rfl) ev_c (rv_isN2 (decide_eq_true rfl)))) (fun _ => ev_var rfl) fun z => by cases z
      | some p => exact ev_if (b := false) (et_test (ev_op (ev_var rfl) ev_c (rv_isN2 (decide_eq_false (fun z => by cases z))))) (fun z => by cases z) fun _ => ev_var rfl
    have e13 := e12.trans e3
    refine s_at [some (.ref a), some (.int sn), some (.int tn), some (placeV o), some (.int (st.1.length : Int)), some (.int (o.getD st.1.length)), none] rfl ?_
    refine q_when (b := decide (o.getD st.1.length < 0) || decide (o.getD st.1.length > (st.1.length : Int))) (et_or (et_test (ev_op (ev_var rfl) ev_c rv_I0)) fun _ => et_test (ev_op (ev_var rfl) (ev_var rfl) rv_I0)) (fun z H4 e4 => ?_) fun z H4 e4 => ?_
    · refine ⟨placeV o, rfl, placeV o, rfl, fun d hd => qp few ?_ d H4 (e13.trans e4) hd⟩
      rcases (Bool.or_eq_true _ _).mp z with h | h
      · exact .inl (of_decide_eq_true h)
      · exact .inr (of_decide_eq_true h)
    obtain ⟨z1, z2⟩ := Bool.or_eq_false_iff.mp z
    have z1 := of_decide_eq_false z1
    have z2 := of_decide_eq_false z2
    obtain ⟨i, hi⟩ := Int.eq_ofNat_of_zero_le (show 0 ≤ o.getD st.1.length by omega)
    have hil : i ≤ st.1.length := by omega
    have e14 := e13.trans e4
    refine q_asg (ev_fld (ev_var rfl) (e14 _ _ h1) fc.c fc.n rfl) fun H5 e5 => ?_
    have e15 := e14.trans e5
    refine s_at [some (.ref a), some (.int sn), some (.int tn), some (placeV o), some (.int (st.1.length : Int)), some (.int (i : Int)), some (.int st.2.1)] (by rw [← hi]; rfl) ?_
    have hf5 := hf.ex e15
    refine ⟨.ref a, rfl, a, dx, _, rfl, e15 _ _ h1, rfl, ?_⟩
    have fl : Ev (tFld K (tVar 0) "line") [some (.ref a), some (.int sn), some (.int tn), some (placeV o), some (.int (st.1.length : Int)), some (.int (i : Int)), some (.int st.2.1)] H5 (.ref la) := ev_fld (ev_var rfl) (e15 _ _ h1) fc.c fc.l rfl
    refine (ln_cat (K := K) (ln_cat (ln_to (ln_val fl (h2.ex e15)) (ev_var rfl)) (ln_one (b := (st.2.1, sn, tn, 0)) (ev_var rfl) (ev_var rfl) (ev_var rfl) ev_c) (by rw [List.length_take]; show min i st.1.length + 1 ≤ 100000; omega)) (ln_from (ln_val fl (h2.ex e15)) (ev_var rfl)) (by rw [List.length_append, List.length_take, List.length_drop]; show min i st.1.length + 1 + (st.1.length - i) ≤ 100000; omega)) H5 (Ex.refl _) _ fun lv1 H6 e6 hl1 => ?_
    refine (ev_op (ev_var rfl) ev_c rv_I0 : Ev (tOp (rI0 fun i j => .int (i + j)) (tVar 6) (tC (.int 1))) _ H6 (.int (st.2.1 + 1))) H6 (Ex.refl _) _ fun H7 e7 => ?_
    refine ⟨C, a, dx, pl, ml, st, lv1, _, _, rfl, fc, hf5.ex (e6.trans e7), n1, n2, n3, hl1.ex e7, hz, fun H8 e8 h8 => ?_⟩
    dsimp only
    exact s_ret (ev_var rfl) fun H9 e9 => q few i hi hil H9 (((ExF.of (e15.trans (e6.trans e7))).trans e8).trans (ExF.of e9)) (h8.ex e9)
end
end K77
set_option maxHeartbeats 4000000
namespace K77
open PySem PySem.Spec PyProof.Rows L2 Evl HH RZ
section
variable {P : Program} {w : World} {K : PySem.W.Frag} {mg : Str → Option Value} {base : Heap}
theorem ok_moved {f : Addr} {fd : FuncData} (F : FnP K "moved" s_moved f fd) (g : mg "moved" = some (.ref f)) (b : Binds K fd ["line", "end"] []) (m_zip : mg "zip" = none) (m_tuple : mg "tuple" = none) : Has P w K mg base 1 "moved" ["line", "end"] (spMovedM K) f fd := by
  refine ⟨F.ok sc_moved (fun vs H Q E h => ?_) (fun cdv A outer s H vs Q E hr h => ?_), g, F.kp, b⟩
  · obtain ⟨lv, ev, l, rs, os, rfl, _⟩ := h
    rfl
  · obtain ⟨lv, ev, l, rs, os, rfl, ⟨la, lus, rfl, l1, l2⟩, ⟨e, rv, o, rfl, g1, ⟨ra, rus, rfl, r1, r2⟩, g3⟩, lo, lr, hl, hw, q⟩ := h
    refine ⟨_, PSs.nox (pss_cons (ps_asg (pv 1) (pg_tup rfl (pgs_cons (pg_name (i := 2) sc_moved.nd rfl (Or.inl rfl)) (pgs_cons (pg_name (i := 3) sc_moved.nd rfl (Or.inl rfl)) pgs_nil))))
      (pss_cons (ps_set (i := 4) sc_moved.nd rfl (.inl rfl) (pe_lst pa_nil))
      (pss_cons (ps_for PassesOwn.never rfl (pi_zipA (by rfl) m_zip (pa_cons (pv 3) (pa_cons (pv 2) pa_nil))) (pg_tup rfl (pgs_cons (pg_name (i := 5) sc_moved.nd rfl (Or.inl rfl)) (pgs_cons (pg_tup rfl (pgs_cons (pg_name (i := 6) sc_moved.nd rfl (Or.inl rfl)) (pgs_cons (pg_name (i := 7) sc_moved.nd rfl (Or.inl rfl)) pgs_nil))) pgs_nil)))
        (pss_cons (ps_asg (pe_ix ix_tup (pv 0) (pv 5) (fun _ _ => rfl)) (pg_tup rfl (pgs_cons (pg_name (i := 8) sc_moved.nd rfl (Or.inl rfl)) (pgs_cons (pg_name (i := 9) sc_moved.nd rfl (Or.inl rfl)) (pgs_cons (pg_name (i := 10) sc_moved.nd rfl (Or.inl rfl)) (pgs_cons (pg_name (i := 11) sc_moved.nd rfl (Or.inl rfl)) pgs_nil))))))
      (pss_one (ps_expr (pe_bm PySem.F.plainAttrs_list PySem.F.slot_list_append PySem.F.type_list_append mt_append (pv 4) (pa_cons (pe_tup (pa_cons (pv 8) (pa_cons (pv 6) (pa_cons (pv 7) (pa_cons (pe_op op_sub (pe_op op_add (pv 11) (pv 9)) (pv 6)) pa_nil))))) pa_nil))))))
      (pss_one (ps_ret (pe_tupleOf (by rfl) m_tuple (pv 4))))))), ?_⟩
    refine q_asgT2 (ev_var rfl) g1 fun H1 e1 => ?_
    refine q_asgL (el_lst ea_nil (by decide)) fun qq H2 hq e2 gq => ?_
    have e12 := e1.trans e2
    have l1 := ex_t e12 l1
    have l2 := fbs_ex e12 l2
    have r1 := ex_t e12 r1
    have r2 := r2.ex e12
    have g3 := ex_t e12 g3
    have ll := All2.len l2
    refine s_at [some (.ref la), some (.ref e), some (.ref ra), some (.ref o), some (.ref qq), none, none, none, none, none, none, none] rfl ?_
    refine ⟨.ref o, rfl, .ref ra, rfl, o, ra, _, _, rfl, .inr ⟨g3, r1, for_it (walk_zipT (n := l.length) (by rw [natsV_len, r2.1, lo, lr]; omega)) (fun k σ' H' => ExB qq H2 H' ∧ ∃ us, H' qq = some (.lst us) ∧ All2 (FbAt K H') us ((movedF l rs os).take k) ∧ ∃ o5 o6 o7 o8 o9 o10 o11 : Option V, σ' = [some (.ref la), some (.ref e), some (.ref ra), some (.ref o), some (.ref qq), o5, o6, o7, o8, o9, o10, o11])
      ⟨fun _ _ _ z => z, [], gq, .nil, _, _, _, _, _, _, _, rfl⟩ (fun k σ' H' hk pv => ⟨pv.1.t gq g3, pv.1.t gq r1⟩) (fun k x σ' H' H3 hk pv y => ?_) (fun σ' H' pv => ?_)⟩⟩
    · obtain ⟨T, x1, x2, rfl, hT, rfl, hx1, hx2⟩ := y
      obtain ⟨xb, us, gu, au, o5, o6, o7, o8, o9, o10, o11, rfl⟩ := pv
      have hko : k < os.length := by omega
      have hkr : k < rs.length := by omega
      dsimp only at hx1 hx2
      have hx1' : x1 = .int (os[k] : Nat) := by
        rw [natsV, List.getElem?_map, List.getElem?_eq_getElem hko] at hx1
        exact (Option.some.inj hx1).symm
      subst hx1'
      obtain ⟨u, hu, bt, rfl, hbt⟩ := r2.2 k rs[k] (List.getElem?_eq_getElem hkr)
      rw [hu] at hx2
      cases hx2
      have hwl := hw os[k] (List.getElem_mem hko)
      obtain ⟨lu, hlu, lt, rfl, hlt⟩ := all2_at l2 (List.getElem?_eq_getElem hwl)
      have nT := Ex.new (o := .tup [.int (os[k] : Nat), .ref bt]) hT
      have gT : (upd H' T (.tup [.int (os[k] : Nat), .ref bt])) T = some (.tup [.int (os[k] : Nat), .ref bt]) := upd_same
      generalize upd H' T (.tup [.int (os[k] : Nat), .ref bt]) = H4 at nT gT ⊢
      have xb4 : ExB qq H2 H4 := xb.trans (ExB.of nT)
      refine ⟨T, _, rfl, st_of gT, rfl, _, _, rfl, _, _, rfl, ⟨bt, _, rfl, xb4.t gq hbt, rfl, _, _, rfl, _, _, rfl, rfl, rfl, ?_⟩⟩
      dsimp only
      refine s_at [some (.ref la), some (.ref e), some (.ref ra), some (.ref o), some (.ref qq), some (.int (os[k] : Nat)), some (.int rs[k].1), some (.int rs[k].2), o8, o9, o10, o11] rfl ?_
      refine ⟨.ref la, rfl, .int (os[k] : Nat), rfl, la, lus, _, _, rfl, rfl, xb4.t gq l1, atI_nat hlu, ?_⟩
      refine ⟨lt, _, rfl, xb4.t gq hlt, rfl, _, _, rfl, _, _, rfl, _, _, rfl, _, _, rfl, rfl, ?_⟩
      dsimp only
      refine s_at [some (.ref la), some (.ref e), some (.ref ra), some (.ref o), some (.ref qq), some (.int (os[k] : Nat)), some (.int rs[k].1), some (.int rs[k].2), some (.int (l[os[k]]).1), some (.int (l[os[k]]).2.1), some (.int (l[os[k]]).2.2.1), some (.int (l[os[k]]).2.2.2)] rfl ?_
      have gu4 : H4 qq = some (.lst us) := nT _ _ gu
      refine s_appU gu4 (ev_var rfl) (eu_tup (ea_cons (ev_var rfl) (ea_cons (ev_var rfl) (ea_cons (ev_var rfl) (ea_cons (ev_op (ev_op (ev_var rfl) (ev_var rfl) rv_I0) (ev_var rfl) rv_I0) ea_nil)))) (by show 4 ≤ 100000; decide)) (by have := All2.len au; rw [List.length_take] at this; omega) fun p H5 hp e5 g5 => ?_
      have xq : ExB qq H5 (upd H5 qq (.lst (us ++ [.ref p]))) := fun a o ne h => by
        rw [upd_ne ne]
        exact h
      have gu5 := e5 _ _ gu4
      refine ⟨(xb4.trans (ExB.of e5)).trans xq, us ++ [.ref p], upd_same, ?_, _, _, _, _, _, _, _, rfl⟩
      have hm : (movedF l rs os)[k]? = some ((l[os[k]]).1, rs[k].1, rs[k].2, (l[os[k]]).2.2.2 + (l[os[k]]).2.1 - rs[k].1) := by
        rw [movedF, List.getElem?_zipWith, List.getElem?_eq_getElem hko, List.getElem?_eq_getElem hkr]
        show some (mvF l os[k] rs[k]) = _
        unfold mvF
        rw [List.getElem?_eq_getElem hwl]
      rw [List.take_add_one, hm]
      exact All2.app (All2.mono (fun _ _ ⟨t, z, g⟩ => ⟨t, z, xq.t gu5 (ex_t (nT.trans e5) g)⟩) au) (.cons ⟨p, rfl, xq.t gu5 (st_of g5)⟩ .nil)
    · obtain ⟨xb, us, gu, au, o5, o6, o7, o8, o9, o10, o11, rfl⟩ := pv
      have ml : (movedF l rs os).length = l.length := by
        rw [movedF, List.length_zipWith, lo, lr]
        omega
      rw [← ml, List.take_length] at au
      refine ⟨.ref qq, rfl, .inl ⟨qq, us, rfl, sq_of gu, fun p hp => ?_⟩⟩
      have e3 := Ex.new (o := .tup us) hp
      exact q _ _ (fun c o z => e3 _ _ (xb _ _ (fun zz => by rw [zz] at z; exact absurd ((e1 _ _ z).symm.trans hq) (by simp)) (e12 _ _ z))) ⟨p, us, rfl, st_of upd_same, fbs_ex e3 au⟩
end
end K77
set_option maxHeartbeats 4000000
namespace K77
open PySem PySem.Spec PyProof.Rows L2 Evl HH RZ
section
variable {P : Program} {w : World} {K : PySem.W.Frag} {mg : Str → Option Value} {base : Heap}
theorem ok_Fold___init {f C : Addr} {fd : FuncData} (F : FunD K "__init__" "Fold.__init__" (defArgs s_Fold___init) (defBody s_Fold___init) (defScope s_Fold___init) [] [] f fd) (m_enumerate : mg "enumerate" = none) (m_tuple : mg "tuple" = none) (m_len : mg "len" = none) : FnOk P w K mg base CX0 1 f fd ["self", "row"] (spInitL K C) := by
  refine F.ok sc_Fold___init (fun vs H Q E h => ?_) (fun cdv A outer s H vs Q E hr h => ?_)
  · obtain ⟨a, dx, rv, rs, rfl, _⟩ := h
    rfl
  · obtain ⟨a, dx, rv, rs, rfl, fc, ha, hv, hl, q⟩ := h
    refine ⟨_, PSs.nox (pss_cons (ps_fld (pv 0) (pe_tupleOf (by rfl) m_tuple (pe_lc (own := [("name", 2), ("strength", 3), ("toll", 4)]) (g := gTup K 2 (gCons (gName 2) (gCons (gTup K 2 (gCons (gName 3) (gCons (gName 4) gNil))) gNil))) (by rfl) sc_Fold___init.nd (pi_enumT (by rfl) m_enumerate (pa_cons (pv 1) pa_nil)) (blkOk_by (own := [("name", 2), ("strength", 3), ("toll", 4)]) (N := ["self", "row", "name", "strength", "toll"]) (sc := defScope s_Fold___init) (by decide +kernel)) (fun _ _ _ _ _ => (pg_tup rfl (pgs_cons (pg_name (i := 2) sc_Fold___init.nd rfl (Or.inl rfl)) (pgs_cons (pg_tup rfl (pgs_cons (pg_name (i := 3) sc_Fold___init.nd rfl (Or.inl rfl)) (pgs_cons (pg_name (i := 4) sc_Fold___init.nd rfl (Or.inl rfl)) pgs_nil))) pgs_nil)))) (fun _ _ _ _ _ => pts_nil) (fun _ _ _ _ _ => (pe_tup (pa_cons (pv 2) (pa_cons (pv 3) (pa_cons (pv 4) (pa_cons pe_int pa_nil)))))))) (by rfl))
      (pss_cons (ps_fld (pv 0) (pe_callB call_len_seq (by rfl) m_len PySem.boot_len (pa_cons (pv 1) pa_nil)) (by rfl))
      (pss_cons (ps_fld (pv 0) (pe_lst pa_nil) (by rfl))
      (pss_one (ps_fld (pv 0) (pe_lst pa_nil) (by rfl)))))), ?_⟩
    refine s_at [some (.ref a), some rv, none, none, none] rfl ?_
    refine q_fldLn (ln_init (K := K) (ev_var rfl) hv hl (fun x y z => rfl) (fun x y z => rfl) (fun x y z => rfl) (fun x y z => rfl)) (fun _ => ev_var rfl) ha fc.c fc.l (by show 0 < 1000; decide) fun lv H1 e1 hlv => ?_
    obtain ⟨ra, rus, rfl, r1, r2⟩ := id hv
    have x1 : ∀ c o, c ≠ a → H c = some o → (upd H1 a (.ins C dx (putF "line" lv []))) c = some o := fun c o n z => by
      rw [upd_ne n]
      exact e1 _ _ z
    have sq_off : ∀ {H' : Hp} {fs : List (Str × V)} {c : Addr} {xs : List V} {o : HO}, SqT K H' c xs → H' a = some (.ins C dx fs) → SqT K (upd H' a o) c xs := fun h g => by
      rcases h with h | h
      · rcases h with h | ⟨o, h⟩
        · exact .inl (.inl (by rw [upd_ne (fun z => by rw [z, g] at h; cases h)]; exact h))
        · exact .inl (.inr ⟨o, by rw [upd_ne (fun z => by rw [z, g] at h; cases h)]; exact h⟩)
      · exact .inr h
    have line_off : ∀ {H' : Hp} {fs : List (Str × V)} {v : V} {l : List Fb} {o : HO}, LineAt K H' v l → H' a = some (.ins C dx fs) → LineAt K (upd H' a o) v l := fun ⟨b, us, h1, h2, h3⟩ g => ⟨b, us, h1, sq_off h2 g, All2.mono (fun _ _ ⟨t, z, k⟩ => ⟨t, z, sq_off k g⟩) h3⟩
    have ga := e1 _ _ ha
    have l1 := line_off (o := .ins C dx (putF "line" lv [])) hlv ga
    have r1' := sq_off (o := .ins C dx (putF "line" lv [])) (ex_t e1 r1) ga
    have g1 : (upd H1 a (.ins C dx (putF "line" lv []))) a = some (.ins C dx (putF "line" lv [])) := upd_same
    generalize upd H1 a (.ins C dx (putF "line" lv [])) = H2 at x1 l1 r1' g1 ⊢
    refine q_fldV (v := .int (rs.length : Int)) (by
      have := ev_lenTup (K := K) (te := tVar 1) (σ := [some (.ref a), some (.ref ra), none, none, none]) (ev_var rfl) r1'
      rw [r2.1] at this
      exact this) (fun _ => ev_var rfl) g1 fc.c fc.n (by show 1 < 1000; decide) fun H3 e3 => ?_
    have x3 : ∀ c o, c ≠ a → H c = some o → (upd H3 a (.ins C dx (putF "coming" (.int (rs.length : Int)) (putF "line" lv [])))) c = some o := fun c o n z => by
      rw [upd_ne n]
      exact e3 _ _ (x1 c o n z)
    have l3 := line_off (o := .ins C dx (putF "coming" (.int (rs.length : Int)) (putF "line" lv []))) (l1.ex e3) (e3 _ _ g1)
    have g3 : (upd H3 a (.ins C dx (putF "coming" (.int (rs.length : Int)) (putF "line" lv [])))) a = some (.ins C dx (putF "coming" (.int (rs.length : Int)) (putF "line" lv []))) := upd_same
    generalize upd H3 a (.ins C dx (putF "coming" (.int (rs.length : Int)) (putF "line" lv []))) = H4 at x3 l3 g3 ⊢
    refine q_fldL (el_lst ea_nil (by decide)) (fun _ => ev_var rfl) g3 fc.c fc.p (by show 2 < 1000; decide) fun pl H5 hpl e5 gpl => ?_
    have npl : a ≠ pl := fun z => by rw [← z, g3] at hpl; cases hpl
    have x5 : ∀ c o, c ≠ a → H c = some o → (upd H5 a (.ins C dx (putF "past" (.ref pl) (putF "coming" (.int (rs.length : Int)) (putF "line" lv []))))) c = some o := fun c o n z => by
      rw [upd_ne n]
      exact e5 _ _ (x3 c o n z)
    have l5 := line_off (o := .ins C dx (putF "past" (.ref pl) (putF "coming" (.int (rs.length : Int)) (putF "line" lv [])))) (l3.ex e5) (e5 _ _ g3)
    have g5 : (upd H5 a (.ins C dx (putF "past" (.ref pl) (putF "coming" (.int (rs.length : Int)) (putF "line" lv []))))) a = some (.ins C dx (putF "past" (.ref pl) (putF "coming" (.int (rs.length : Int)) (putF "line" lv [])))) := upd_same
    have p5 : (upd H5 a (.ins C dx (putF "past" (.ref pl) (putF "coming" (.int (rs.length : Int)) (putF "line" lv []))))) pl = some (.lst []) := by
      rw [upd_ne npl.symm]
      exact gpl
    generalize upd H5 a (.ins C dx (putF "past" (.ref pl) (putF "coming" (.int (rs.length : Int)) (putF "line" lv [])))) = H6 at x5 l5 g5 p5 ⊢
    refine s_fldL (el_lst ea_nil (by decide)) (fun _ => ev_var rfl) g5 fc.c fc.m (by show 3 < 1000; decide) fun ml H7 hml e7 gml => ?_
    have nml : ml ≠ a := fun z => by rw [z, g5] at hml; cases hml
    have nmp : ml ≠ pl := fun z => by rw [z, p5] at hml; cases hml
    have fr : ∀ {c : Addr}, (∀ c o, c ≠ a → H c = some o → H4 c = some o) → H4 c = none → c ≠ a → H c = none := fun {c} x n nc => by
      cases hc : H c with
      | none => rfl
      | some o => rw [x c o nc hc] at n; cases n
    have fr6 : ∀ {c : Addr}, H6 c = none → c ≠ a → H c = none := fun {c} n nc => by
      cases hc : H c with
      | none => rfl
      | some o => rw [x5 c o nc hc] at n; cases n
    refine q pl ml _ (fr x3 hpl npl.symm) (fr6 hml nml) npl nmp nml (fun c o n z => by rw [upd_ne n]; exact e7 _ _ (x5 c o n z)) ⟨lv, [], by rw [upd_same]; rfl, line_off (l5.ex e7) (e7 _ _ g5), ?_, .nil, [], ?_⟩ (by rw [upd_ne nml]; exact gml)
    · rw [upd_ne npl.symm]
      exact e7 _ _ p5
    · rw [upd_ne nml]
      exact gml
end
end K77
set_option maxHeartbeats 4000000
namespace K77
open PySem PySem.Spec PyProof.Rows L2 Evl HH RZ
section
variable {P : Program} {w : World} {K : PySem.W.Frag} {mg : Str → Option Value} {base : Heap}
theorem ok_Fold_settle {f f1 f2 f3 C : Addr} {fd fd1 fd2 fd3 : FuncData} (F : FunD K "settle" "Fold.settle" (defArgs s_Fold_settle) (defBody s_Fold_settle) (defScope s_Fold_settle) [] [] f fd) (c : Cls K C) (m : Meth K C "settle" f) (b : Binds K fd ["self"] []) (h_last : Has P w K mg base 2 "last" ["row"] (spLastF K) f1 fd1) (h_Fold_row : HasM P w K mg base CX0 1 C "row" ["self"] [] [] (spRowM K) f2 fd2) (h_Fold_move : HasM P w K mg base CX0 3 C "move" ["self", "end"] [] [] (spMoveM K C) f3 fd3) :
    HasM P w K mg base CX0 4 C "settle" ["self"] [] [] (spSettleM K C (fun A B => Steps A B ∧ NfR B)) f fd := by
  refine ⟨F.ok sc_Fold_settle (fun vs H Q E h => ?_) (fun cdv A outer s H vs Q E hr h => ?_), c, m, b, .nil⟩
  · obtain ⟨a, dx, pl, ml, st, rfl, _⟩ := h
    rfl
  · obtain ⟨a, dx, pl, ml, st, rfl, fc, hf, n1, n2, n3, hl, ht, hz, q⟩ := h
    obtain ⟨lv, us, h1, h2, h3, h4, h5⟩ := id hf
    refine ⟨_, PSs.nox (pss_one (ps_ret (pe_meth (pv 0) h_Fold_move.c h_Fold_move.m h_Fold_move.G (hr.mono (by decide)) h_Fold_move.b h_Fold_move.d pass0 (pa_cons (pe_call h_last.G (hr.mono (by decide)) (by rfl) h_last.g h_last.kp h_last.b .nil pass0 (pa_cons (pe_meth0 (pv 0) h_Fold_row.c h_Fold_row.m h_Fold_row.G (hr.mono (by decide)) h_Fold_row.b h_Fold_row.d pass0) pa_nil)) pa_nil)))), ?_⟩
    have rl : (rowF st.1).length = st.1.length := List.length_map ..
    refine ⟨.ref a, rfl, a, dx, _, rfl, h1, rfl, .ref a, rfl, a, dx, _, rfl, h1, rfl, C, a, dx, pl, ml, st, rfl, fc, hf, by omega, fun v H1 e1 hv => ?_⟩
    refine ⟨v, rowF st.1, rfl, hv, by omega, ht, fun qq H2 L e2 lf s nf => ?_⟩
    obtain ⟨x, ot, oo, k1, k2, k3, _⟩ := lf.ex
    obtain ⟨i1, i2, i3, i4⟩ := ids_facts (L := L) (n := st.1.length) (by rw [← rl]; exact s.idsT)
    have lL : L.length = st.1.length := by rw [← i3, List.length_map]
    have e12 := e1.trans e2
    have oo2 : SqT K H2 ot (natsV (L.map (·.1))) := by
      rw [show natsV (L.map (·.1)) = ordL L from by rw [natsV, List.map_map]; rfl]
      exact .inl (.inr ⟨oo, k3⟩)
    refine ⟨a, dx, pl, ml, st, .ref qq, HH.rowsOf L, L.map (·.1), rfl, fc, hf.ex e12, n1, n2, n3, ⟨qq, x, ot, rfl, st_of k1, k2, oo2⟩, i3, by rw [HH.rowsOf, List.length_map, lL], hl, i1, i2, fun y hy => i4 y (by omega), hz, fun H3 x3 hf3 => ?_⟩
    exact q L H3 ⟨s, nf⟩ ((ExF.of e12).trans x3) hf3
theorem ok_Fold_unsettle {f f1 f2 f3 C : Addr} {fd fd1 fd2 fd3 : FuncData} (F : FunD K "unsettle" "Fold.unsettle" (defArgs s_Fold_unsettle) (defBody s_Fold_unsettle) (defScope s_Fold_unsettle) [] [] f fd) (c : Cls K C) (m : Meth K C "unsettle" f) (b : Binds K fd ["self"] []) (h_first : Has P w K mg base 2 "first" ["row"] (spFirstF K) f1 fd1) (h_Fold_row : HasM P w K mg base CX0 1 C "row" ["self"] [] [] (spRowM K) f2 fd2) (h_Fold_move : HasM P w K mg base CX0 3 C "move" ["self", "end"] [] [] (spMoveM K C) f3 fd3) :
    HasM P w K mg base CX0 4 C "unsettle" ["self"] [] [] (spSettleM K C (fun A B => FSteps A B ∧ FfR B)) f fd := by
  refine ⟨F.ok sc_Fold_unsettle (fun vs H Q E h => ?_) (fun cdv A outer s H vs Q E hr h => ?_), c, m, b, .nil⟩
  · obtain ⟨a, dx, pl, ml, st, rfl, _⟩ := h
    rfl
  · obtain ⟨a, dx, pl, ml, st, rfl, fc, hf, n1, n2, n3, hl, ht, hz, q⟩ := h
    obtain ⟨lv, us, h1, h2, h3, h4, h5⟩ := id hf
    refine ⟨_, PSs.nox (pss_one (ps_ret (pe_meth (pv 0) h_Fold_move.c h_Fold_move.m h_Fold_move.G (hr.mono (by decide)) h_Fold_move.b h_Fold_move.d pass0 (pa_cons (pe_call h_first.G (hr.mono (by decide)) (by rfl) h_first.g h_first.kp h_first.b .nil pass0 (pa_cons (pe_meth0 (pv 0) h_Fold_row.c h_Fold_row.m h_Fold_row.G (hr.mono (by decide)) h_Fold_row.b h_Fold_row.d pass0) pa_nil)) pa_nil)))), ?_⟩
    have rl : (rowF st.1).length = st.1.length := List.length_map ..
    refine ⟨.ref a, rfl, a, dx, _, rfl, h1, rfl, .ref a, rfl, a, dx, _, rfl, h1, rfl, C, a, dx, pl, ml, st, rfl, fc, hf, by omega, fun v H1 e1 hv => ?_⟩
    refine ⟨v, rowF st.1, rfl, hv, by omega, ht, fun qq H2 L e2 lf s nf => ?_⟩
    obtain ⟨x, ot, oo, k1, k2, k3, _⟩ := lf.ex
    obtain ⟨i1, i2, i3, i4⟩ := ids_facts (L := L) (n := st.1.length) (by rw [← rl]; exact s.idsT)
    have lL : L.length = st.1.length := by rw [← i3, List.length_map]
    have e12 := e1.trans e2
    have oo2 : SqT K H2 ot (natsV (L.map (·.1))) := by
      rw [show natsV (L.map (·.1)) = ordL L from by rw [natsV, List.map_map]; rfl]
      exact .inl (.inr ⟨oo, k3⟩)
    refine ⟨a, dx, pl, ml, st, .ref qq, HH.rowsOf L, L.map (·.1), rfl, fc, hf.ex e12, n1, n2, n3, ⟨qq, x, ot, rfl, st_of k1, k2, oo2⟩, i3, by rw [HH.rowsOf, List.length_map, lL], hl, i1, i2, fun y hy => i4 y (by omega), hz, fun H3 x3 hf3 => ?_⟩
    exact q L H3 ⟨s, nf⟩ ((ExF.of e12).trans x3) hf3
end
end K77
set_option maxHeartbeats 4000000
namespace K77
open PySem PySem.Spec PyProof.Rows L2 Evl HH RZ
section
variable {P : Program} {w : World} {K : PySem.W.Frag} {mg : Str → Option Value} {base : Heap}
theorem ok_ini_MayNot {C f : Addr} {fd : FuncData} (F : FunD K "__init__" "MayNot.__init__" (defArgs s_ini_MayNot) (defBody s_ini_MayNot) (defScope s_ini_MayNot) [] [] f fd) (T : ExcTy K .run "place" C f) (g : mg "MayNot" = some (.ref C)) (b : Binds K fd ["self", "place"] []) (m_RuntimeError : mg "RuntimeError" = none) : HasE P w K mg base .run "MayNot" "place" C f fd := by
  refine ⟨T, F.ok sc_ini_MayNot (fun vs H Q E h => ?_) (fun cdv A outer s H vs Q E hr h => ?_), b, g⟩
  · obtain ⟨a, v, rfl, _⟩ := h
    rfl
  · obtain ⟨a, v, rfl, ha, q⟩ := h
    refine ⟨_, PSs.nox (pss_cons (ps_expr (pe_bini (b := .run) (by rfl) m_RuntimeError T.bi (pa_cons (pv 0) (pa_cons pe_str pa_nil)) (by decide) (by decide) (by decide +kernel))) (pss_one (ps_xs (pv 0) (pv 1)))), ?_⟩
    refine ⟨.ref a, rfl, a, C, _, rfl, by show 1 ≤ 1000; decide, T.ok, ha, ?_⟩
    exact ⟨v, rfl, .ref a, rfl, a, C, f, .run, rfl, T, ha, fun dx n ne => q dx n ne⟩
theorem ok_Fold_overtake {f f1 f2 f3 f4 f5 f6 f7 C C1 C2 C3 : Addr} {fd fd1 fd2 fd3 fd4 fd5 fd6 fd7 : FuncData} (F : FunD K "overtake" "Fold.overtake" (defArgs s_Fold_overtake) (defBody s_Fold_overtake) (defScope s_Fold_overtake) [] [] f fd) (c : Cls K C) (m : Meth K C "overtake" f) (b : Binds K fd ["self", "name"] []) (x_MayNot : HasE P w K mg base .run "MayNot" "place" C2 f1 fd1)
    (h_can_pass : Has P w K mg base 1 "can_pass" ["row", "place"] (spCanPassZ K) f2 fd2) (h_led : HasX P w K mg base 4 "led" ["row", "deeds"] (spLedX K C3) f3 fd3) (h_Fold_row : HasM P w K mg base CX0 1 C "row" ["self"] [] [] (spRowM K) f4 fd4) (h_Fold_names : HasM P w K mg base CX0 1 C "names" ["self"] [] [] (spNamesM K) f5 fd5) (h_Fold_place_of : HasM P w K mg base (L2N.CX P w) 3 C "place_of" ["self", "name"] [] [] (spPlaceM K C C1) f6 fd6) (h_Fold_move : HasM P w K mg base CX0 3 C "move" ["self", "end"] [] [] (spMoveM K C) f7 fd7) :
    HasM P w K mg base (L2N.CX P w) 5 C "overtake" ["self", "name"] [] [] (spOverM K C C1 C2 true) f fd := by
  refine ⟨F.ok sc_Fold_overtake (fun vs H Q E h => ?_) (fun cdv A outer s H vs Q E hr h => ?_), c, m, b, .nil⟩
  · obtain ⟨a, dx, pl, ml, st, n, rfl, _⟩ := h
    rfl
  · obtain ⟨a, dx, pl, ml, st, n, rfl, fc, hf, n1, n2, n3, hl, hz, qm, q, qx⟩ := h
    obtain ⟨lv, us, h1, h2, h3, h4, h5⟩ := id hf
    have rl : (rowF st.1).length = st.1.length := List.length_map ..
    refine ⟨_, (pss_cons (ps_set (i := 2) sc_Fold_overtake.nd rfl (.inl rfl) (pe_methX (pv 0) h_Fold_place_of.c h_Fold_place_of.m h_Fold_place_of.G (hr.mono (by decide)) h_Fold_place_of.b h_Fold_place_of.d (fun σ => L2N.passAt (L2N.takes_of rfl rfl rfl rfl) σ) (pa_cons (pv 1) pa_nil)))
      (pss_cons (ps_if (pt_not (pt_val (pe_call h_can_pass.G (hr.mono (by decide)) (by rfl) h_can_pass.g h_can_pass.kp h_can_pass.b .nil pass0 (pa_cons (pe_meth0 (pv 0) h_Fold_row.c h_Fold_row.m h_Fold_row.G (hr.mono (by decide)) h_Fold_row.b h_Fold_row.d pass0) (pa_cons (pv 2) pa_nil))))) (pss_one (L2N.ps_raise rfl (L2N.takes_of rfl rfl rfl rfl) (pmk_xN x_MayNot.T x_MayNot.F (hr.mono (by decide)) x_MayNot.b x_MayNot.g (by rfl) (pa_cons (pv 1) pa_nil)))) pss_nil)
      (pss_cons (ps_set (i := 3) sc_Fold_overtake.nd rfl (.inl rfl) (pe_ix ix_list (pe_meth0 (pv 0) h_Fold_names.c h_Fold_names.m h_Fold_names.G (hr.mono (by decide)) h_Fold_names.b h_Fold_names.d pass0) (pe_op op_sub (pv 2) pe_int) (fun _ _ => rfl)))
      (pss_cons (ps_expr (pe_meth (pv 0) h_Fold_move.c h_Fold_move.m h_Fold_move.G (hr.mono (by decide)) h_Fold_move.b h_Fold_move.d pass0 (pa_cons (pe_callS h_led.G (hr.mono (by decide)) (by rfl) h_led.g h_led.kp h_led.b (fun σ => passNo σ) (pa_cons (pe_meth0 (pv 0) h_Fold_row.c h_Fold_row.m h_Fold_row.G (hr.mono (by decide)) h_Fold_row.b h_Fold_row.d pass0) (pa_cons (pe_lst (pa_cons (pe_tup (pa_cons pe_str (pa_cons (pv 2) pa_nil))) pa_nil)) pa_nil))) pa_nil)))
      (pss_one (ps_ret (pv 3))))))), ?_⟩
    refine ⟨.ref a, rfl, a, dx, _, rfl, h1, rfl, .int n, rfl, a, dx, pl, ml, st, n, rfl, fc, hf, by omega, fun i hi no H1 e1 => ?_, qx⟩
    refine g_at [some (.ref a), some (.int n), some (.int (i : Int)), none] rfl ?_
    dsimp only
    have ht : Ev (tCall (spCanPassZ K) [] E0 (tCons (tMeth C "row" (spRowM K) [] E0 (tVar 0) tNil) (tCons (tVar 2) tNil))) [some (.ref a), some (.int n), some (.int (i : Int)), none] H1 (.bl (canZ (rowF st.1) (true, (i : Int)))) := fun H2 e2 Q2 q2 =>
      ⟨.ref a, rfl, a, dx, _, rfl, (e1.trans e2) _ _ h1, rfl, C, a, dx, pl, ml, st, rfl, fc, hf.ex (e1.trans e2), by omega, fun v H3 e3 hv => ⟨.int (i : Int), rfl, v, rowF st.1, (i : Int), rfl, hv, fun H4 e4 => q2 H4 (e3.trans e4)⟩⟩
    refine q_when (b := !canZ (rowF st.1) (true, (i : Int))) (et_not (et_B ht)) (fun z H2 e2 => ?_) fun z H2 e2 => ?_
    · exact ⟨.int n, rfl, .int n, rfl, fun d hd => qm i hi no (by simpa using z) d H2 (e1.trans e2) hd⟩
    have z : canZ (rowF st.1) (true, (i : Int)) = true := by simpa using z
    have e12 := e1.trans e2
    have hin : i < st.1.length := by
      have := (List.getElem?_eq_some_iff.mp hi).1
      rwa [namesF, List.length_map] at this
    have hb : atZ (true, (i : Int)) + 1 < st.1.length ∧ nextF true i < st.1.length ∧ ((i : Int) - 1 = ((nextF true i : Nat) : Int)) := by
      obtain ⟨j, hj, j0, jl, _⟩ := letsZ_at z
      have : j = i := by omega
      subst this
      rw [rl] at jl
      refine ⟨?_, ?_, ?_⟩
      · show (j : Int).toNat - 1 + 1 < _
        rw [Int.toNat_natCast]
        omega
      · show j - 1 < _
        omega
      · show (j : Int) - 1 = ((j - 1 : Nat) : Int)
        omega
    obtain ⟨x, hx⟩ : ∃ x, (namesF st.1)[nextF true i]? = some x := ⟨_, List.getElem?_eq_getElem (by rw [namesF, List.length_map]; exact hb.2.1)⟩
    refine ⟨.ref a, rfl, a, dx, _, rfl, e12 _ _ h1, rfl, C, a, dx, pl, ml, st, rfl, fc, hf.ex e12, by omega, fun p H3 hp e3 g3 => ?_⟩
    refine ⟨.int (i : Int), rfl, (i : Int), 1, rfl, rfl, p, _, _, .int x, rfl, rfl, sq_of g3, by rw [hb.2.2]; exact atI_nat (by rw [List.getElem?_map, hx]; rfl), ?_⟩
    refine g_at [some (.ref a), some (.int n), some (.int (i : Int)), some (.int x)] rfl ?_
    dsimp only
    have e13 := e12.trans e3
    have hs : ledK (rowF st.1, List.range (rowF st.1).length) [(true, (i : Int))] 0 = .inr (movZ (rowF st.1) (true, (i : Int)), swapL (List.range st.1.length) (atZ (true, (i : Int)))) := by
      show (if canZ (rowF st.1) (true, (i : Int)) = true then _ else _) = _
      rw [if_pos z, rl]
      rfl
    refine ⟨.ref a, rfl, a, dx, _, rfl, e13 _ _ h1, rfl, .ref a, rfl, a, dx, _, rfl, e13 _ _ h1, rfl, C, a, dx, pl, ml, st, rfl, fc, hf.ex e13, by omega, fun v H4 e4 hv => ?_⟩
    refine (ez_one (K := K) (d := (true, (i : Int))) (ez_tup (w := true) (te := tVar 2) (σ := [some (.ref a), some (.int n), some (.int (i : Int)), some (.int x)]) (ev_var rfl))) H4 (Ex.refl _) _ fun cc uu H5 hcc e5 gc dz => ?_
    have pm := swapL_perm (l := List.range st.1.length) (p := atZ (true, (i : Int))) (by rw [List.length_range]; exact hb.1)
    have nd : (swapL (List.range st.1.length) (atZ (true, (i : Int)))).Nodup := pm.nodup_iff.mpr List.nodup_range
    have sl : (swapL (List.range st.1.length) (atZ (true, (i : Int)))).length = st.1.length := by rw [pm.length_eq, List.length_range]
    have mlen : (movZ (rowF st.1) (true, (i : Int))).length = st.1.length := by
      rw [show movZ (rowF st.1) (true, (i : Int)) = passR (rowF st.1) i from by show passR (rowF st.1) (i : Int).toNat = _; rw [Int.toNat_natCast]]
      obtain ⟨j, hj, j0, jl, _⟩ := letsZ_at z
      rw [passR_len (by omega) (by omega)]
      exact rl
    refine ⟨v, rowF st.1, cc, uu, [(true, (i : Int))], rfl, hv.ex e5, by omega, .inl (sq_of gc), dz, by show 1 ≤ 1000; decide, fun s hs2 qq v' t H6 e6 gq hr6 ht6 => ?_, fun k hk => by rw [hs] at hk; cases hk⟩
    rw [hs] at hs2
    cases hs2
    have e16 := ((e13.trans e4).trans e5).trans e6
    refine ⟨a, dx, pl, ml, st, .ref qq, _, _, rfl, fc, hf.ex e16, n1, n2, n3, ⟨qq, v', t, rfl, st_of gq, hr6, ht6⟩, sl, mlen, hl, nd, fun y hy => List.mem_range.mp (pm.mem_iff.mp hy), fun y hy => pm.mem_iff.mpr (List.mem_range.mpr (Nat.lt_of_lt_of_eq hy sl)), hz, fun H7 x7 hf7 => ?_⟩
    exact s_ret (ev_var rfl) fun H8 e8 => q i x hi no z hx H8 (((ExF.of e16).trans x7).trans (ExF.of e8)) (hf7.ex e8)
theorem ok_Fold_fall_back {f f1 f2 f3 f4 f5 f6 f7 C C1 C2 C3 : Addr} {fd fd1 fd2 fd3 fd4 fd5 fd6 fd7 : FuncData} (F : FunD K "fall_back" "Fold.fall_back" (defArgs s_Fold_fall_back) (defBody s_Fold_fall_back) (defScope s_Fold_fall_back) [] [] f fd) (c : Cls K C) (m : Meth K C "fall_back" f) (b : Binds K fd ["self", "name"] []) (x_MayNot : HasE P w K mg base .run "MayNot" "place" C2 f1 fd1)
    (h_can_fall : Has P w K mg base 1 "can_fall" ["row", "place"] (spCanFallZ K) f2 fd2) (h_led : HasX P w K mg base 4 "led" ["row", "deeds"] (spLedX K C3) f3 fd3) (h_Fold_row : HasM P w K mg base CX0 1 C "row" ["self"] [] [] (spRowM K) f4 fd4) (h_Fold_names : HasM P w K mg base CX0 1 C "names" ["self"] [] [] (spNamesM K) f5 fd5) (h_Fold_place_of : HasM P w K mg base (L2N.CX P w) 3 C "place_of" ["self", "name"] [] [] (spPlaceM K C C1) f6 fd6) (h_Fold_move : HasM P w K mg base CX0 3 C "move" ["self", "end"] [] [] (spMoveM K C) f7 fd7) :
    HasM P w K mg base (L2N.CX P w) 5 C "fall_back" ["self", "name"] [] [] (spOverM K C C1 C2 false) f fd := by
  refine ⟨F.ok sc_Fold_fall_back (fun vs H Q E h => ?_) (fun cdv A outer s H vs Q E hr h => ?_), c, m, b, .nil⟩
  · obtain ⟨a, dx, pl, ml, st, n, rfl, _⟩ := h
    rfl
  · obtain ⟨a, dx, pl, ml, st, n, rfl, fc, hf, n1, n2, n3, hl, hz, qm, q, qx⟩ := h
    obtain ⟨lv, us, h1, h2, h3, h4, h5⟩ := id hf
    have rl : (rowF st.1).length = st.1.length := List.length_map ..
    refine ⟨_, (pss_cons (ps_set (i := 2) sc_Fold_fall_back.nd rfl (.inl rfl) (pe_methX (pv 0) h_Fold_place_of.c h_Fold_place_of.m h_Fold_place_of.G (hr.mono (by decide)) h_Fold_place_of.b h_Fold_place_of.d (fun σ => L2N.passAt (L2N.takes_of rfl rfl rfl rfl) σ) (pa_cons (pv 1) pa_nil)))
      (pss_cons (ps_if (pt_not (pt_val (pe_call h_can_fall.G (hr.mono (by decide)) (by rfl) h_can_fall.g h_can_fall.kp h_can_fall.b .nil pass0 (pa_cons (pe_meth0 (pv 0) h_Fold_row.c h_Fold_row.m h_Fold_row.G (hr.mono (by decide)) h_Fold_row.b h_Fold_row.d pass0) (pa_cons (pv 2) pa_nil))))) (pss_one (L2N.ps_raise rfl (L2N.takes_of rfl rfl rfl rfl) (pmk_xN x_MayNot.T x_MayNot.F (hr.mono (by decide)) x_MayNot.b x_MayNot.g (by rfl) (pa_cons (pv 1) pa_nil)))) pss_nil)
      (pss_cons (ps_set (i := 3) sc_Fold_fall_back.nd rfl (.inl rfl) (pe_ix ix_list (pe_meth0 (pv 0) h_Fold_names.c h_Fold_names.m h_Fold_names.G (hr.mono (by decide)) h_Fold_names.b h_Fold_names.d pass0) (pe_op op_add (pv 2) pe_int) (fun _ _ => rfl)))
      (pss_cons (ps_expr (pe_meth (pv 0) h_Fold_move.c h_Fold_move.m h_Fold_move.G (hr.mono (by decide)) h_Fold_move.b h_Fold_move.d pass0 (pa_cons (pe_callS h_led.G (hr.mono (by decide)) (by rfl) h_led.g h_led.kp h_led.b (fun σ => passNo σ) (pa_cons (pe_meth0 (pv 0) h_Fold_row.c h_Fold_row.m h_Fold_row.G (hr.mono (by decide)) h_Fold_row.b h_Fold_row.d pass0) (pa_cons (pe_lst (pa_cons (pe_tup (pa_cons pe_str (pa_cons (pv 2) pa_nil))) pa_nil)) pa_nil))) pa_nil)))
      (pss_one (ps_ret (pv 3))))))), ?_⟩
    refine ⟨.ref a, rfl, a, dx, _, rfl, h1, rfl, .int n, rfl, a, dx, pl, ml, st, n, rfl, fc, hf, by omega, fun i hi no H1 e1 => ?_, qx⟩
    refine g_at [some (.ref a), some (.int n), some (.int (i : Int)), none] rfl ?_
    dsimp only
    have ht : Ev (tCall (spCanFallZ K) [] E0 (tCons (tMeth C "row" (spRowM K) [] E0 (tVar 0) tNil) (tCons (tVar 2) tNil))) [some (.ref a), some (.int n), some (.int (i : Int)), none] H1 (.bl (canZ (rowF st.1) (false, (i : Int)))) := fun H2 e2 Q2 q2 =>
      ⟨.ref a, rfl, a, dx, _, rfl, (e1.trans e2) _ _ h1, rfl, C, a, dx, pl, ml, st, rfl, fc, hf.ex (e1.trans e2), by omega, fun v H3 e3 hv => ⟨.int (i : Int), rfl, v, rowF st.1, (i : Int), rfl, hv, fun H4 e4 => q2 H4 (e3.trans e4)⟩⟩
    refine q_when (b := !canZ (rowF st.1) (false, (i : Int))) (et_not (et_B ht)) (fun z H2 e2 => ?_) fun z H2 e2 => ?_
    · exact ⟨.int n, rfl, .int n, rfl, fun d hd => qm i hi no (by simpa using z) d H2 (e1.trans e2) hd⟩
    have z : canZ (rowF st.1) (false, (i : Int)) = true := by simpa using z
    have e12 := e1.trans e2
    have hin : i < st.1.length := by
      have := (List.getElem?_eq_some_iff.mp hi).1
      rwa [namesF, List.length_map] at this
    have hb : atZ (false, (i : Int)) + 1 < st.1.length ∧ nextF false i < st.1.length ∧ ((i : Int) + 1 = ((nextF false i : Nat) : Int)) := by
      obtain ⟨j, hj, jl, _⟩ := fallsZ_at z
      have : j = i := by omega
      subst this
      rw [rl] at jl
      refine ⟨?_, ?_, ?_⟩
      · show (j : Int).toNat + 1 < _
        rw [Int.toNat_natCast]
        omega
      · show j + 1 < _
        omega
      · show (j : Int) + 1 = ((j + 1 : Nat) : Int)
        omega
    obtain ⟨x, hx⟩ : ∃ x, (namesF st.1)[nextF false i]? = some x := ⟨_, List.getElem?_eq_getElem (by rw [namesF, List.length_map]; exact hb.2.1)⟩
    refine ⟨.ref a, rfl, a, dx, _, rfl, e12 _ _ h1, rfl, C, a, dx, pl, ml, st, rfl, fc, hf.ex e12, by omega, fun p H3 hp e3 g3 => ?_⟩
    refine ⟨.int (i : Int), rfl, (i : Int), 1, rfl, rfl, p, _, _, .int x, rfl, rfl, sq_of g3, by rw [hb.2.2]; exact atI_nat (by rw [List.getElem?_map, hx]; rfl), ?_⟩
    refine g_at [some (.ref a), some (.int n), some (.int (i : Int)), some (.int x)] rfl ?_
    dsimp only
    have e13 := e12.trans e3
    have hs : ledK (rowF st.1, List.range (rowF st.1).length) [(false, (i : Int))] 0 = .inr (movZ (rowF st.1) (false, (i : Int)), swapL (List.range st.1.length) (atZ (false, (i : Int)))) := by
      show (if canZ (rowF st.1) (false, (i : Int)) = true then _ else _) = _
      rw [if_pos z, rl]
      rfl
    refine ⟨.ref a, rfl, a, dx, _, rfl, e13 _ _ h1, rfl, .ref a, rfl, a, dx, _, rfl, e13 _ _ h1, rfl, C, a, dx, pl, ml, st, rfl, fc, hf.ex e13, by omega, fun v H4 e4 hv => ?_⟩
    refine (ez_one (K := K) (d := (false, (i : Int))) (ez_tup (w := false) (te := tVar 2) (σ := [some (.ref a), some (.int n), some (.int (i : Int)), some (.int x)]) (ev_var rfl))) H4 (Ex.refl _) _ fun cc uu H5 hcc e5 gc dz => ?_
    have pm := swapL_perm (l := List.range st.1.length) (p := atZ (false, (i : Int))) (by rw [List.length_range]; exact hb.1)
    have nd : (swapL (List.range st.1.length) (atZ (false, (i : Int)))).Nodup := pm.nodup_iff.mpr List.nodup_range
    have sl : (swapL (List.range st.1.length) (atZ (false, (i : Int)))).length = st.1.length := by rw [pm.length_eq, List.length_range]
    have mlen : (movZ (rowF st.1) (false, (i : Int))).length = st.1.length := by
      rw [show movZ (rowF st.1) (false, (i : Int)) = fallR (rowF st.1) i from by show fallR (rowF st.1) (i : Int).toNat = _; rw [Int.toNat_natCast]]
      obtain ⟨j, hj, jl, _⟩ := fallsZ_at z
      rw [fallR_len (by omega)]
      exact rl
    refine ⟨v, rowF st.1, cc, uu, [(false, (i : Int))], rfl, hv.ex e5, by omega, .inl (sq_of gc), dz, by show 1 ≤ 1000; decide, fun s hs2 qq v' t H6 e6 gq hr6 ht6 => ?_, fun k hk => by rw [hs] at hk; cases hk⟩
    rw [hs] at hs2
    cases hs2
    have e16 := ((e13.trans e4).trans e5).trans e6
    refine ⟨a, dx, pl, ml, st, .ref qq, _, _, rfl, fc, hf.ex e16, n1, n2, n3, ⟨qq, v', t, rfl, st_of gq, hr6, ht6⟩, sl, mlen, hl, nd, fun y hy => List.mem_range.mp (pm.mem_iff.mp hy), fun y hy => pm.mem_iff.mpr (List.mem_range.mpr (Nat.lt_of_lt_of_eq hy sl)), hz, fun H7 x7 hf7 => ?_⟩
    exact s_ret (ev_var rfl) fun H8 e8 => q i x hi no z hx H8 (((ExF.of e16).trans x7).trans (ExF.of e8)) (hf7.ex e8)
end
end K77
set_option maxHeartbeats 4000000
namespace K77
open PySem PySem.Spec PyProof.Rows L2 Evl HH RZ
section
variable {P : Program} {w : World} {K : PySem.W.Frag} {mg : Str → Option Value} {base : Heap}
theorem ok_Fold_last_names {f f1 f2 f3 C : Addr} {fd fd1 fd2 fd3 : FuncData} (F : FunD K "last_names" "Fold.last_names" (defArgs s_Fold_last_names) (defBody s_Fold_last_names) (defScope s_Fold_last_names) [] [] f fd) (c : Cls K C) (m : Meth K C "last_names" f) (b : Binds K fd ["self"] []) (h_last : Has P w K mg base 2 "last" ["row"] (spLastF K) f1 fd1) (h_Fold_row : HasM P w K mg base CX0 1 C "row" ["self"] [] [] (spRowM K) f2 fd2) (h_Fold_names : HasM P w K mg base CX0 1 C "names" ["self"] [] [] (spNamesM K) f3 fd3) :
    HasM P w K mg base CX0 3 C "last_names" ["self"] [] [] (spLastNamesM K C) f fd := by
  refine ⟨F.ok sc_Fold_last_names (fun vs H Q E h => ?_) (fun cdv A outer s H vs Q E hr h => ?_), c, m, b, .nil⟩
  · obtain ⟨a, dx, pl, ml, st, rfl, _⟩ := h
    rfl
  · obtain ⟨a, dx, pl, ml, st, rfl, fc, hf, hl, ht, q⟩ := h
    obtain ⟨lv, us, h1, h2, h3, h4, h5⟩ := id hf
    have rl : (rowF st.1).length = st.1.length := List.length_map ..
    refine ⟨_, PSs.nox (pss_cons (ps_set (i := 1) sc_Fold_last_names.nd rfl (.inr rfl) (pe_meth0 (pv 0) h_Fold_names.c h_Fold_names.m h_Fold_names.G (hr.mono (by decide)) h_Fold_names.b h_Fold_names.d pass0))
      (pss_one (ps_ret (pe_lc (own := [("who", 2)]) (g := gName 2) (by rfl) sc_Fold_last_names.nd (pi_tup (pe_ix ix_tup (pe_call h_last.G (hr.mono (by decide)) (by rfl) h_last.g h_last.kp h_last.b .nil pass0 (pa_cons (pe_meth0 (pv 0) h_Fold_row.c h_Fold_row.m h_Fold_row.G (hr.mono (by decide)) h_Fold_row.b h_Fold_row.d pass0) pa_nil)) pe_int (fun _ _ => rfl))) (blkOk_by (own := [("who", 2)]) (N := ["self", "names", "who"]) (sc := defScope s_Fold_last_names) (by decide +kernel)) (fun _ _ _ _ _ => (pg_name (i := 2) sc_Fold_last_names.nd rfl (Or.inl rfl))) (fun _ _ _ _ _ => pts_nil) (fun _ _ _ _ _ => (pe_ix (ix_listK (K := K)) (pv 1) (pv 2) (fun _ _ => rfl))))))), ?_⟩
    refine ⟨.ref a, rfl, a, dx, _, rfl, h1, rfl, C, a, dx, pl, ml, st, rfl, fc, hf, by omega, fun p H1 hp e1 g1 => ?_⟩
    refine g_at [some (.ref a), some (.ref p), none] rfl ?_
    dsimp only
    refine s_retT0 (K := K) ?_
    refine ⟨.ref a, rfl, a, dx, _, rfl, e1 _ _ h1, rfl, C, a, dx, pl, ml, st, rfl, fc, hf.ex e1, by omega, fun v H2 e2 hv => ?_⟩
    refine ⟨v, rowF st.1, rfl, hv, by omega, ht, fun qq H3 L e3 lf s nf => ?_⟩
    obtain ⟨x, ot, oo, k1, k2, k3, _⟩ := lf.ex
    obtain ⟨i1, i2, i3, i4⟩ := ids_facts (L := L) (n := st.1.length) (by rw [← rl]; exact s.idsT)
    have oo2 : SqT K H3 ot (natsV (L.map (·.1))) := by
      rw [show natsV (L.map (·.1)) = ordL L from by rw [natsV, List.map_map]; rfl]
      exact .inl (.inr ⟨oo, k3⟩)
    refine ⟨qq, _, 1, .ref ot, rfl, rfl, st_of k1, rfl, ?_⟩
    have g3 := (e2.trans e3) _ _ g1
    refine s_retL (el_mapT (K := K) (o := ot) (l := L.map (·.1)) (fun w => .int ((namesF st.1).getD w 0)) ev_c oo2 (by omega) (fun x => rfl) fun w hw H4 e4 => ?_) fun pp H4 hpp e4 g4 => ?_
    · have hwl := i2 w hw
      exact ev_op (ev_var rfl) (ev_var rfl) (rv_ixL (sq_of (e4 _ _ g3)) (atI_nat (by rw [List.getElem?_map, List.getD_eq_getElem?_getD, List.getElem?_eq_getElem (by rw [namesF, List.length_map]; exact hwl)]; rfl)))
    · have e14 := (e1.trans (e2.trans e3)).trans e4
      refine q L pp H4 s nf (fresh_back (e1.trans (e2.trans e3)) hpp) e14 ?_
      rw [List.map_map] at g4 ⊢
      exact g4
end
end K77
set_option maxHeartbeats 4000000
namespace K77
open PySem PySem.Spec PyProof.Rows L2 Evl HH RZ
section
variable {P : Program} {w : World} {K : PySem.W.Frag} {mg : Str → Option Value} {base : Heap}
theorem ok_Fold_may_pass {f f1 f2 f3 C : Addr} {fd fd1 fd2 fd3 : FuncData} (F : FunD K "may_pass" "Fold.may_pass" (defArgs s_Fold_may_pass) (defBody s_Fold_may_pass) (defScope s_Fold_may_pass) [] [] f fd) (c : Cls K C) (m : Meth K C "may_pass" f) (b : Binds K fd ["self"] []) (h_can_pass : Has P w K mg base 1 "can_pass" ["row", "place"] (spCanPassZ K) f1 fd1) (h_Fold_row : HasM P w K mg base CX0 1 C "row" ["self"] [] [] (spRowM K) f2 fd2) (h_Fold_names : HasM P w K mg base CX0 1 C "names" ["self"] [] [] (spNamesM K) f3 fd3) (m_sorted : mg "sorted" = none) (m_enumerate : mg "enumerate" = none) :
    HasM P w K mg base CX0 2 C "may_pass" ["self"] [] [] (spMayM K C letsZ) f fd := by
  refine ⟨F.ok sc_Fold_may_pass (fun vs H Q E h => ?_) (fun cdv A outer s H vs Q E hr h => ?_), c, m, b, .nil⟩
  · obtain ⟨a, dx, pl, ml, st, rfl, _⟩ := h
    rfl
  · obtain ⟨a, dx, pl, ml, st, rfl, fc, hf, hl, q⟩ := h
    obtain ⟨lv, us, h1, h2, h3, h4, h5⟩ := id hf
    refine ⟨_, PSs.nox (pss_cons (ps_set (i := 1) sc_Fold_may_pass.nd rfl (.inr rfl) (pe_meth0 (pv 0) h_Fold_row.c h_Fold_row.m h_Fold_row.G (hr.mono (by decide)) h_Fold_row.b h_Fold_row.d pass0))
      (pss_one (ps_ret (pe_callB cr_sortedI (by rfl) m_sorted (by decide +kernel) (pa_cons (pe_lc (own := [("place", 2), ("name", 3)]) (g := gTup K 2 (gCons (gName 2) (gCons (gName 3) gNil))) (by rfl) sc_Fold_may_pass.nd (pi_enum (by rfl) m_enumerate (pa_cons (pe_meth0 (pv 0) h_Fold_names.c h_Fold_names.m h_Fold_names.G (hr.mono (by decide)) h_Fold_names.b h_Fold_names.d pass0) pa_nil)) (blkOk_by (own := [("place", 2), ("name", 3)]) (N := ["self", "row", "place", "name"]) (sc := defScope s_Fold_may_pass) (by decide +kernel)) (fun _ _ _ _ _ => (pg_tup rfl (pgs_cons (pg_name (i := 2) sc_Fold_may_pass.nd rfl (Or.inl rfl)) (pgs_cons (pg_name (i := 3) sc_Fold_may_pass.nd rfl (Or.inl rfl)) pgs_nil)))) (fun _ _ _ _ _ => (pts_one (pt_val (pe_call h_can_pass.G (hr.mono (by decide)) (by rfl) h_can_pass.g h_can_pass.kp h_can_pass.b .nil pass0 (pa_cons (pv 1) (pa_cons (pv 2) pa_nil)))))) (fun _ _ _ _ _ => (pv 3))) pa_nil))))), ?_⟩
    refine ⟨.ref a, rfl, a, dx, _, rfl, h1, rfl, C, a, dx, pl, ml, st, rfl, fc, hf, hl, fun v H1 e1 hv => ?_⟩
    refine g_at [some (.ref a), some v, none, none] rfl ?_
    dsimp only
    obtain ⟨ms, pm, pw⟩ := some_sort (mayF st.1 letsZ)
    have nl : (namesF st.1).length = st.1.length := List.length_map ..
    have en : EvL (tMeth C "names" (spNamesM K) [] E0 (tVar 0) tNil) [some (.ref a), some v, none, none] H1 ((namesF st.1).map V.int) := fun H2 e2 Q2 q2 => ⟨.ref a, rfl, a, dx, _, rfl, (e1.trans e2) _ _ h1, rfl, C, a, dx, pl, ml, st, rfl, fc, hf.ex (e1.trans e2), hl, q2⟩
    refine s_retL (el_sortedI (K := K) (ns := mayF st.1 letsZ) ?_ pm pw) fun p H2 hp e2 g2 => q ms p H2 pm pw (fresh_back e1 hp) (e1.trans e2) g2
    have := el_enumI (K := K) (i1 := 2) (i2 := 3) (vs := [2, 3]) (fun k => letsZ (rowF st.1) (k : Int)) en (by omega) (fun x y => rfl) (fun x y => rfl) (t := tB (tCall (spCanPassZ K) [] E0 (tCons (tVar 1) (tCons (tVar 2) tNil)))) (fun k x H3 e3 hk => et_B (ev_call (ea_cons (ev_var rfl) (ea_cons (ev_var rfl) ea_nil)) (fun H4 e4 Q4 q4 _ => ⟨v, rowF st.1, (k : Int), rfl, hv.ex (e3.trans e4), q4⟩)))
    rw [nl] at this
    rw [show (mayF st.1 letsZ).map V.int = given st.1.length (fun k => letsZ (rowF st.1) (k : Int)) (fun k => .int ((namesF st.1).getD k 0)) from by rw [mayF, List.map_map]; rfl]
    exact this
theorem ok_Fold_may_fall {f f1 f2 f3 C : Addr} {fd fd1 fd2 fd3 : FuncData} (F : FunD K "may_fall" "Fold.may_fall" (defArgs s_Fold_may_fall) (defBody s_Fold_may_fall) (defScope s_Fold_may_fall) [] [] f fd) (c : Cls K C) (m : Meth K C "may_fall" f) (b : Binds K fd ["self"] []) (h_can_fall : Has P w K mg base 1 "can_fall" ["row", "place"] (spCanFallZ K) f1 fd1) (h_Fold_row : HasM P w K mg base CX0 1 C "row" ["self"] [] [] (spRowM K) f2 fd2) (h_Fold_names : HasM P w K mg base CX0 1 C "names" ["self"] [] [] (spNamesM K) f3 fd3) (m_sorted : mg "sorted" = none) (m_enumerate : mg "enumerate" = none) :
    HasM P w K mg base CX0 2 C "may_fall" ["self"] [] [] (spMayM K C fallsZ) f fd := by
  refine ⟨F.ok sc_Fold_may_fall (fun vs H Q E h => ?_) (fun cdv A outer s H vs Q E hr h => ?_), c, m, b, .nil⟩
  · obtain ⟨a, dx, pl, ml, st, rfl, _⟩ := h
    rfl
  · obtain ⟨a, dx, pl, ml, st, rfl, fc, hf, hl, q⟩ := h
    obtain ⟨lv, us, h1, h2, h3, h4, h5⟩ := id hf
    refine ⟨_, PSs.nox (pss_cons (ps_set (i := 1) sc_Fold_may_fall.nd rfl (.inr rfl) (pe_meth0 (pv 0) h_Fold_row.c h_Fold_row.m h_Fold_row.G (hr.mono (by decide)) h_Fold_row.b h_Fold_row.d pass0))
      (pss_one (ps_ret (pe_callB cr_sortedI (by rfl) m_sorted (by decide +kernel) (pa_cons (pe_lc (own := [("place", 2), ("name", 3)]) (g := gTup K 2 (gCons (gName 2) (gCons (gName 3) gNil))) (by rfl) sc_Fold_may_fall.nd (pi_enum (by rfl) m_enumerate (pa_cons (pe_meth0 (pv 0) h_Fold_names.c h_Fold_names.m h_Fold_names.G (hr.mono (by decide)) h_Fold_names.b h_Fold_names.d pass0) pa_nil)) (blkOk_by (own := [("place", 2), ("name", 3)]) (N := ["self", "row", "place", "name"]) (sc := defScope s_Fold_may_fall) (by decide +kernel)) (fun _ _ _ _ _ => (pg_tup rfl (pgs_cons (pg_name (i := 2) sc_Fold_may_fall.nd rfl (Or.inl rfl)) (pgs_cons (pg_name (i := 3) sc_Fold_may_fall.nd rfl (Or.inl rfl)) pgs_nil)))) (fun _ _ _ _ _ => (pts_one (pt_val (pe_call h_can_fall.G (hr.mono (by decide)) (by rfl) h_can_fall.g h_can_fall.kp h_can_fall.b .nil pass0 (pa_cons (pv 1) (pa_cons (pv 2) pa_nil)))))) (fun _ _ _ _ _ => (pv 3))) pa_nil))))), ?_⟩
    refine ⟨.ref a, rfl, a, dx, _, rfl, h1, rfl, C, a, dx, pl, ml, st, rfl, fc, hf, hl, fun v H1 e1 hv => ?_⟩
    refine g_at [some (.ref a), some v, none, none] rfl ?_
    dsimp only
    obtain ⟨ms, pm, pw⟩ := some_sort (mayF st.1 fallsZ)
    have nl : (namesF st.1).length = st.1.length := List.length_map ..
    have en : EvL (tMeth C "names" (spNamesM K) [] E0 (tVar 0) tNil) [some (.ref a), some v, none, none] H1 ((namesF st.1).map V.int) := fun H2 e2 Q2 q2 => ⟨.ref a, rfl, a, dx, _, rfl, (e1.trans e2) _ _ h1, rfl, C, a, dx, pl, ml, st, rfl, fc, hf.ex (e1.trans e2), hl, q2⟩
    refine s_retL (el_sortedI (K := K) (ns := mayF st.1 fallsZ) ?_ pm pw) fun p H2 hp e2 g2 => q ms p H2 pm pw (fresh_back e1 hp) (e1.trans e2) g2
    have := el_enumI (K := K) (i1 := 2) (i2 := 3) (vs := [2, 3]) (fun k => fallsZ (rowF st.1) (k : Int)) en (by omega) (fun x y => rfl) (fun x y => rfl) (t := tB (tCall (spCanFallZ K) [] E0 (tCons (tVar 1) (tCons (tVar 2) tNil)))) (fun k x H3 e3 hk => et_B (ev_call (ea_cons (ev_var rfl) (ea_cons (ev_var rfl) ea_nil)) (fun H4 e4 Q4 q4 _ => ⟨v, rowF st.1, (k : Int), rfl, hv.ex (e3.trans e4), q4⟩)))
    rw [nl] at this
    rw [show (mayF st.1 fallsZ).map V.int = given st.1.length (fun k => fallsZ (rowF st.1) (k : Int)) (fun k => .int ((namesF st.1).getD k 0)) from by rw [mayF, List.map_map]; rfl]
    exact this
end
end K77
set_option maxHeartbeats 4000000
namespace K77
open PySem PySem.Spec PyProof.Rows L2 Evl HH RZ
section
variable {P : Program} {w : World} {K : PySem.W.Frag} {mg : Str → Option Value} {base : Heap}
theorem ok_Fold_twin {f C f1 : Addr} {fd fd1 : FuncData} (F : FunD K "twin" "Fold.twin" (defArgs s_Fold_twin) (defBody s_Fold_twin) (defScope s_Fold_twin) [] [] f fd) (c : Cls K C) (m : Meth K C "twin" f) (b : Binds K fd ["self"] []) (h_Fold___init : HasI P w K mg base 1 "Fold" C ["self", "row"] (spInitL K C) f1 fd1) (m_list : mg "list" = none) : HasM P w K mg base CX0 3 C "twin" ["self"] [] [] (spTwinM K C) f fd := by
  refine ⟨F.ok sc_Fold_twin (fun vs H Q E h => ?_) (fun cdv A outer s H vs Q E hr h => ?_), c, m, b, .nil⟩
  · obtain ⟨a, dx, pl, ml, st, rfl, _⟩ := h
    rfl
  · obtain ⟨a, dx, pl, ml, st, rfl, fc, hf, hl, q⟩ := h
    obtain ⟨lv, ps, h1, h2, h3, h4, ms, h5⟩ := id hf
    refine ⟨_, PSs.nox (pss_cons (ps_set (i := 1) sc_Fold_twin.nd rfl (.inl rfl) (pe_make h_Fold___init.m h_Fold___init.G (hr.mono (by decide)) (by rfl) h_Fold___init.g h_Fold___init.b h_Fold___init.d pass0 (pa_cons (pe_tup pa_nil) pa_nil)))
      (pss_cons (ps_fld (pv 1) (pe_fld (pv 0) (by rfl)) (by rfl))
      (pss_cons (ps_fld (pv 1) (pe_fld (pv 0) (by rfl)) (by rfl))
      (pss_cons (ps_fld (pv 1) (pe_callTy call_list_of (by rfl) m_list (by decide +kernel) (pa_cons (pe_fld (pv 0) (by rfl)) pa_nil)) (by rfl))
      (pss_one (ps_ret (pv 1))))))), ?_⟩
    refine q_asg0 ?_
    refine mk_foldL (te := tTup tNil) (σ := [some (.ref a), none]) (rs := []) fc (fun H1 e1 Q k => ⟨by show 0 ≤ sizeLine; decide, fun T hT => k (.ref T) _ (Ex.new hT) ⟨T, [], rfl, st_of upd_same, rfl, fun i b hi => by simp at hi⟩⟩) (by decide) fun a' dx' pl' ml' H1 ha hpl hml n1 n2 n3 e1 hf' hm => ?_
    obtain ⟨lv', ps', g1, g2, g3, g4, ms', g5⟩ := hf'
    refine s_at [some (.ref a), some (.ref a')] rfl ?_
    have na : a ≠ a' := ne_of_none h1 ha
    have npl : pl ≠ a' := ne_of_none h3 ha
    have fl : ∀ {H' : Hp}, H' a = some (.ins C dx (fldF lv st.2.1 pl ml)) → ∀ f v, NoAttr K C f → (fldF lv st.2.1 pl ml).lookup f = some v → Ev (tFld K (tVar 0) f) [some (.ref a), some (.ref a')] H' v := fun h f v n e => ev_fld (ev_var rfl) h fc.c n e
    refine q_fldV (fl (e1 _ _ h1) "line" lv fc.l rfl) (fun _ => ev_var rfl) g1 fc.c fc.l (by show 4 < 1000; decide) fun H2 e2 => ?_
    have x2 : Ex H (upd H2 a' (.ins C dx' (putF "line" lv (fldF lv' ((([] : HH.Row).length : Int)) pl' ml')))) := Ex.mut (e1.trans e2) ha
    have i2 : (upd H2 a' (.ins C dx' (putF "line" lv (fldF lv' ((([] : HH.Row).length : Int)) pl' ml')))) a' = some (.ins C dx' (putF "line" lv (fldF lv' ((([] : HH.Row).length : Int)) pl' ml'))) := upd_same
    have m2 : (upd H2 a' (.ins C dx' (putF "line" lv (fldF lv' ((([] : HH.Row).length : Int)) pl' ml')))) ml' = some (.lst []) := by
      rw [upd_ne n3]
      exact e2 _ _ hm
    generalize upd H2 a' (.ins C dx' (putF "line" lv (fldF lv' ((([] : HH.Row).length : Int)) pl' ml'))) = H3 at x2 i2 m2 ⊢
    refine q_fldV (fl (x2 _ _ h1) "coming" (.int st.2.1) fc.n rfl) (fun _ => ev_var rfl) i2 fc.c fc.n (by show 4 < 1000; decide) fun H4 e4 => ?_
    have x4 : Ex H (upd H4 a' (.ins C dx' (putF "coming" (.int st.2.1) (putF "line" lv (fldF lv' ((([] : HH.Row).length : Int)) pl' ml'))))) := Ex.mut (x2.trans e4) ha
    have i4 : (upd H4 a' (.ins C dx' (putF "coming" (.int st.2.1) (putF "line" lv (fldF lv' ((([] : HH.Row).length : Int)) pl' ml'))))) a' = some (.ins C dx' (putF "coming" (.int st.2.1) (putF "line" lv (fldF lv' ((([] : HH.Row).length : Int)) pl' ml')))) := upd_same
    have m4 : (upd H4 a' (.ins C dx' (putF "coming" (.int st.2.1) (putF "line" lv (fldF lv' ((([] : HH.Row).length : Int)) pl' ml'))))) ml' = some (.lst []) := by
      rw [upd_ne n3]
      exact e4 _ _ m2
    generalize upd H4 a' (.ins C dx' (putF "coming" (.int st.2.1) (putF "line" lv (fldF lv' ((([] : HH.Row).length : Int)) pl' ml')))) = H5 at x4 i4 m4 ⊢
    refine q_fldL (el_list (K := K) (fl (x4 _ _ h1) "past" (.ref pl) fc.p rfl) (sq_of (x4 _ _ h3))) (fun _ => ev_var rfl) i4 fc.c fc.p (by show 4 < 1000; decide) fun p H6 hp e6 g6 => ?_
    have npa : p ≠ a' := fun z => by rw [z, i4] at hp; cases hp
    have npm : ml' ≠ p := fun z => by rw [← z, m4] at hp; cases hp
    have x6 : Ex H (upd H6 a' (.ins C dx' (putF "past" (.ref p) (putF "coming" (.int st.2.1) (putF "line" lv (fldF lv' ((([] : HH.Row).length : Int)) pl' ml')))))) := Ex.mut (x4.trans e6) ha
    refine s_ret (ev_var rfl) fun H7 e7 => q a' dx' p ml' H7 ha (fresh_back x4 hp) hml npa.symm npm n3 (x6.trans e7) ⟨lv, ps, e7 _ _ (by rw [upd_same]; rfl), h2.ex (x6.trans e7), e7 _ _ (by rw [upd_ne npa]; exact g6), All2.mono (fun _ _ z => PastAt.ex z (x6.trans e7)) h4, [], e7 _ _ (by rw [upd_ne n3]; exact e6 _ _ m4)⟩ (e7 _ _ (by rw [upd_ne n3]; exact e6 _ _ m4))
end
end K77
set_option maxHeartbeats 4000000
namespace HH
open PySem PySem.Spec PyProof.Rows L2 Evl RZ
structure FW (K : PySem.W.Frag) (C : Addr) (H0 H : Hp) (p a dx pl ml : Addr) (ov : V) (cl : Addr) (R : HH.Row) (cs : List Int) (st : FoldS) (L : List (Bool × Nat)) (n k : Nat) : Prop where
  w : WK K C H0 H p a dx pl ml st L n
  o : RowAt K H ov R
  g : H cl = some (.lst (cs.map V.int))
  c1 : cl ≠ p
  c2 : cl ≠ pl
  c3 : cl ≠ ml
  r0 : 0 < R.length
  rl : R.length ≤ 14
  tl : ∀ b ∈ R, 0 ≤ b.2
  cz : cs.length = R.length
  cm : Came R cs st.1
  ok : OkL st.1 st.2.1
  nx : st.2.1 = (R.length : Int)
  pk : st.2.2.length ≤ k
  lk : L.length ≤ 2 * k
section
variable {K : PySem.W.Frag} {C p a dx pl ml cl : Addr} {H0 H H' : Hp} {ov : V} {R : HH.Row} {cs : List Int} {st st' : FoldS} {L L' : List (Bool × Nat)} {n n' k k' : Nat}
theorem FW.ex (h : FW K C H0 H p a dx pl ml ov cl R cs st L n k) (e : Ex H H') : FW K C H0 H' p a dx pl ml ov cl R cs st L n k := ⟨h.w.ex e, h.o.ex e, e _ _ h.g, h.c1, h.c2, h.c3, h.r0, h.rl, h.tl, h.cz, h.cm, h.ok, h.nx, h.pk, h.lk⟩
theorem FW.le (h : FW K C H0 H p a dx pl ml ov cl R cs st L n k) (e : n ≤ n') (e2 : k ≤ k') : FW K C H0 H p a dx pl ml ov cl R cs st L n' k' := ⟨h.w.le e, h.o, h.g, h.c1, h.c2, h.c3, h.r0, h.rl, h.tl, h.cz, h.cm, h.ok, h.nx, Nat.le_trans h.pk e2, by have := h.lk; omega⟩
theorem FW.draw (h : FW K C H0 H p a dx pl ml ov cl R cs st L n k) (e : ExB p H H') (hb : Bx H' p n') : FW K C H0 H' p a dx pl ml ov cl R cs st L n' k := by
  obtain ⟨zs, hz⟩ := h.w.b.lst
  exact ⟨h.w.draw e hb, h.o.kp (Kp.exB e hz), e _ _ h.c1 h.g, h.c1, h.c2, h.c3, h.r0, h.rl, h.tl, h.cz, h.cm, h.ok, h.nx, h.pk, h.lk⟩
theorem FW.c0 (h : FW K C H0 H p a dx pl ml ov cl R cs st L n k) : cl ≠ a := by
  obtain ⟨lv, ps, zs, gs, ha, hp, hz, hg⟩ := h.w.ins
  have hc := h.g
  exact fun z => by rw [z, ha] at hc; cases hc
structure EndQ (K : PySem.W.Frag) (H : Hp) (ev : V) (ot lp : Addr) (R : HH.Row) (E : List Cow) (ps : HH.Row) : Prop where
  r : RowAt K H ev (rowsOf E)
  t : FrzT H ot (natsV (E.map (·.1)))
  l : ∃ pvs, H lp = some (.lst pvs) ∧ Beasts K H pvs ps
  p : PRun (tag 0 R) E ps
  n : Nf E
theorem EndQ.ex {ev : V} {ot lp : Addr} {E : List Cow} {ps : HH.Row} (h : EndQ K H ev ot lp R E ps) (e : Ex H H') : EndQ K H' ev ot lp R E ps := by
  obtain ⟨pvs, h1, h2⟩ := h.l
  obtain ⟨o, h3, h4⟩ := h.t
  exact ⟨h.r.ex e, ⟨o, h3, e _ _ h4⟩, ⟨pvs, e _ _ h1, h2.ex e⟩, h.p, h.n⟩
end
section
variable {K : PySem.W.Frag} {σ : L2.St} {H : Hp} {te ta tb t2 : TE} {D : Ends} {tz : TS}
theorem el_if {t : TT} {b : Bool} {xs : List V} (h : EvT t σ H b) (h1 : b = true → EvL ta σ H xs) (h2 : b = false → EvL tb σ H xs) : EvL (tIf t ta tb) σ H xs := fun H1 e1 Q q => h H1 e1 _ fun H2 e2 => by
  cases b with
  | true => exact h1 rfl H2 (e1.trans e2) _ fun p H3 hp e3 g => q p H3 (fresh_back e2 hp) (e2.trans e3) g
  | false => exact h2 rfl H2 (e1.trans e2) _ fun p H3 hp e3 g => q p H3 (fresh_back e2 hp) (e2.trans e3) g
theorem el_keepI {t : TT} {i : Nat} {vs : List Nat} {l : List Int} (f : Nat → Bool) (h : EvL te σ H (l.map V.int)) (hl : l.length ≤ 40000) (hw : ∀ x, wipe ((wipe σ vs).set i (some x)) vs = wipe σ vs) (c1 : ∀ x : V, ((wipe σ vs).set i (some x))[i]? = some (some x))
    (ht : ∀ (k : Nat) (x : Int) H1, Ex H H1 → l[k]? = some x → EvT t ((wipe σ vs).set i (some (.int x))) H1 (f k)) : EvL (tLc (iList K te) (gName i) t (tVar i) vs) σ H (given l.length f (fun k => .int (l.getD k 0))) := fun H0 e0 Q q => by
  refine h H0 e0 _ fun a H1 na e1 ha => ⟨a, rfl, ⟨_, sq_of ha⟩, fun D hD => ?_⟩
  have e01 := e0.trans e1
  have ln : (l.map V.int).length = l.length := List.length_map ..
  refine in_it (walk_list (xs := l.map V.int)) (fun k H2 => Ex H1 H2 ∧ H2 D = some (.lst (given k f (fun k => .int (l.getD k 0))))) ⟨Ex.new hD, upd_same⟩ (fun k H2 _ p => sq_of (p.1 _ _ ha)) (fun k x H2 H3 hk p y => ?_) (fun H2 p => ?_)
  · obtain ⟨rfl, hx⟩ := y
    obtain ⟨p1, p2⟩ := p
    have hk' : k < l.length := by omega
    have hz : (l.map V.int)[k]? = some x := hx
    rw [List.getElem?_map, List.getElem?_eq_getElem hk'] at hz
    cases hz
    have hd : l.getD k 0 = l[k] := by rw [List.getD_eq_getElem?_getD, List.getElem?_eq_getElem hk']; rfl
    refine ⟨hw _, ?_⟩
    refine t_ev (ht k _ _ (e01.trans p1) (List.getElem?_eq_getElem hk')) fun H4 e4 => ?_
    cases c : f k with
    | true =>
      refine ⟨_, c1 _, _, e4 _ _ p2, sz_lt (by have := given_len k f (fun k => V.int (l.getD k 0)); omega), Ex.mut (p1.trans e4) hD, ?_⟩
      rw [upd_same, given_yes c, hd]
    | false =>
      refine ⟨p1.trans e4, ?_⟩
      rw [given_no c]
      exact e4 _ _ p2
  · obtain ⟨p1, p2⟩ := p
    rw [ln] at p2
    exact q D H2 (fresh_back e1 hD) (e1.trans p1) p2
theorem el_dues {R ps : HH.Row} {a : Addr} {us : List V} {i j iw who : Nat} {vs : List Nat} (h : Ev te σ H (.ref a)) (ha : H a = some (.lst us)) (bs : Beasts K H us ps) (hl : ps.length ≤ 2000) (hw : ∀ x y, wipe (((wipe σ vs).set i (some x)).set j (some y)) vs = wipe σ vs)
    (h2 : ∀ x y : V, (((wipe σ vs).set i (some x)).set j (some y))[j]? = some (some y)) (h3 : ∀ x y : V, (((wipe σ vs).set i (some x)).set j (some y))[iw]? = some (some (.int (who : Int))))
    (hv : ∀ (b : Int × Int) H1, Ex H H1 → b ∈ ps → Ev t2 (((wipe σ vs).set i (some (.int b.1))).set j (some (.int b.2))) H1 (.int (tS R b.1.toNat))) :
    EvL (tLc (iList K te) (gTup K 2 (gCons (gName i) (gCons (gName j) gNil))) (tTest (tOp rEq (tVar j) (tVar iw))) t2 vs) σ H ((duesP R ps who).map V.int) := fun H0 e0 Q q => by
  refine h H0 e0 _ fun H1 e1 => ⟨a, rfl, ⟨us, sq_of ((e0.trans e1) _ _ ha)⟩, fun D hD => ?_⟩
  have e01 := e0.trans e1
  have bs := bs.ex e01
  refine in_it (walk_list (xs := us)) (fun k H2 => Ex H1 H2 ∧ H2 D = some (.lst ((duesP R (ps.take k) who).map V.int))) ⟨Ex.new hD, upd_same⟩ (fun k H2 _ z => sq_of ((e01.trans z.1) _ _ ha)) (fun k x H2 H3 hk z y => ?_) (fun H2 z => ?_)
  · obtain ⟨rfl, hx⟩ := y
    obtain ⟨z1, z2⟩ := z
    have hk' : k < ps.length := by rw [← bs.1]; exact hk
    obtain ⟨u, hu, pp, rfl, hpp⟩ := bs.2 k ps[k] (List.getElem?_eq_getElem hk')
    rw [hx] at hu
    cases hu
    refine ⟨pp, _, rfl, ex_t z1 hpp, rfl, _, _, rfl, _, _, rfl, rfl, hw _ _, ?_⟩
    have et : duesP R (ps.take (k + 1)) who = duesP R (ps.take k) who ++ (if ps[k].2 = (who : Int) then [tS R ps[k].1.toNat] else []) := by
      rw [List.take_add_one, List.getElem?_eq_getElem hk']
      exact dues_snoc R (ps.take k) ps[k] who
    have ln : (duesP R (ps.take k) who).length ≤ k := by
      unfold duesP
      rw [List.length_map]
      exact Nat.le_trans (List.length_filter_le _ _) (by rw [List.length_take]; omega)
    refine ⟨_, h2 _ _, _, h3 _ _, rfl, _, rfl, ite2 (fun c => ?_) (fun c => ?_)⟩
    · have c' : ps[k].2 = (who : Int) := by
        have := of_decide_eq_true c
        injection this
      refine hv ps[k] _ (e01.trans z1) (List.getElem_mem hk') _ (Ex.refl _) _ fun H4 e4 => ⟨_, e4 _ _ z2, sz_lt (by rw [List.length_map]; omega), Ex.mut (z1.trans e4) hD, ?_⟩
      rw [upd_same, et, if_pos c', List.map_append]
      rfl
    · have c' : ps[k].2 ≠ (who : Int) := fun z => c (decide_eq_true (by rw [z]))
      refine ⟨z1, ?_⟩
      rw [et, if_neg c', List.append_nil]
      exact z2
  · obtain ⟨z1, z2⟩ := z
    rw [bs.1, List.take_length] at z2
    exact q D H2 (fresh_back e1 hD) (e1.trans z1) z2
end
def invJ (l : List Nat) : Nat → HH.Row
  | 0 => []
  | k + 1 => invJ l k ++ ((List.range k).filter fun i => bef l k i).map fun (i : Nat) => ((i : Int), (k : Int))
theorem mem_invJ {l : List Nat} {x : Int × Int} : ∀ {m : Nat}, x ∈ invJ l m ↔ ∃ i j : Nat, i < j ∧ j < m ∧ x = ((i : Int), (j : Int)) ∧ bef l j i = true
  | 0 => ⟨fun h => (by cases h), fun ⟨i, j, h1, h2, _⟩ => absurd h2 (by omega)⟩
  | m + 1 => by
    show x ∈ invJ l m ++ _ ↔ _
    rw [List.mem_append, mem_invJ]
    constructor
    · rintro (⟨i, j, h1, h2, h3, h4⟩ | h)
      · exact ⟨i, j, h1, by omega, h3, h4⟩
      · obtain ⟨i, hi, rfl⟩ := List.mem_map.mp h
        obtain ⟨h1, h2⟩ := List.mem_filter.mp hi
        exact ⟨i, m, List.mem_range.mp h1, by omega, rfl, h2⟩
    · rintro ⟨i, j, h1, h2, rfl, h4⟩
      rcases Nat.lt_or_ge j m with c | c
      · exact .inl ⟨i, j, h1, c, rfl, h4⟩
      · have : j = m := by omega
        subst this
        exact .inr (List.mem_map.mpr ⟨i, List.mem_filter.mpr ⟨List.mem_range.mpr h1, h4⟩, rfl⟩)
theorem nd_invJ {l : List Nat} : ∀ {m : Nat}, (invJ l m).Nodup
  | 0 => List.nodup_nil
  | m + 1 => by
    refine List.nodup_append.mpr ⟨nd_invJ, ?_, fun a ha b hb e => ?_⟩
    · refine List.Pairwise.map _ (fun a b (h : a ≠ b) z => h ?_) (List.nodup_range.filter _)
      have := congrArg Prod.fst z
      exact Int.ofNat.inj this
    · subst e
      obtain ⟨i, j, _, h2, rfl, _⟩ := mem_invJ.mp ha
      obtain ⟨i', _, h3⟩ := List.mem_map.mp hb
      have h4 : (m : Int) = (j : Int) := congrArg Prod.snd h3
      omega
theorem len_invJ {l : List Nat} {n : Nat} (hl : ∀ x ∈ l, x < n) : (invJ l n).length = (tab l n n).length := by
  refine (told_tab ⟨fun p => ?_, nd_invJ⟩ hl).length_eq
  rw [mem_invJ]
  constructor
  · rintro ⟨i, j, h1, h2, h3, h4⟩
    exact ⟨i, j, h1, h3, h4⟩
  · rintro ⟨i, j, h1, h2, h3⟩
    exact ⟨i, j, h1, hl _ (bef_mem h3).1, h2, h3⟩
theorem invJ_succ (l : List Nat) (m : Nat) : (invJ l (m + 1)).length = (invJ l m).length + ((List.range m).filter fun i => bef l m i).length := by
  show (invJ l m ++ _).length = _
  rw [List.length_append, List.length_map]
theorem nodup_ix {l : List Int} (nd : l.Nodup) {i j : Nat} {x : Int} (h1 : l[i]? = some x) (h2 : l[j]? = some x) : i = j := by
  obtain ⟨a1, b1⟩ := List.getElem?_eq_some_iff.mp h1
  obtain ⟨a2, b2⟩ := List.getElem?_eq_some_iff.mp h2
  exact (List.getElem_inj nd).mp (b1.trans b2.symm)
section
variable {K : PySem.W.Frag} {σ : L2.St} {H : Hp} {te ta tb t2 : TE} {D : Ends} {tz : TS}
theorem q_tup3 {tc : TE} {gg : TG} (h : ta σ H fun x H1 => tb σ H1 fun y H2 => tc σ H2 fun z H3 => 3 ≤ sizeLine ∧ ∀ p, H3 p = none → gg (.ref p) σ (upd H3 p (.tup [x, y, z])) fun σ2 H4 => tz D σ2 H4) : tSeq (tAsg (tTup (tCons ta (tCons tb (tCons tc tNil)))) gg) tz D σ H := h
theorem mt_indexK {X : Cx} {K : PySem.W.Frag} (hK : X.K = K := by rfl) : MtR X "list.index" (rIndex K) := by
  subst hK
  exact mt_index
theorem ev_lenEL {xs : List V} (h : EvL te σ H xs) : Ev (tCB (rLenS K) (tCons te tNil)) σ H (.int (xs.length : Int)) := fun H1 e1 Q q =>
  h H1 e1 _ fun c H2 hc e2 g2 => ⟨c, xs, rfl, .inl (sq_of g2), q H2 e2⟩
theorem el_catW {xs ys : List V} {l : Addr} (ha : EvL ta σ H xs) (hb : Ev tb σ H (.ref l)) (hl : H l = some (.lst ys)) (hz : xs.length + ys.length ≤ 100000) : EvL (tOp rCat ta tb) σ H (xs ++ ys) := fun H1 e1 Q q =>
  ha H1 e1 _ fun p H2 hp e2 g2 => hb H2 (e1.trans e2) _ fun H3 e3 => ⟨p, l, xs, ys, rfl, rfl, e3 _ _ g2, ((e1.trans e2).trans e3) _ _ hl, sz_of hz, fun t ht => q t _ (fresh_back (e2.trans e3) ht) ((e2.trans e3).trans (Ex.new ht)) upd_same⟩
theorem er_oneT {b : Int × Int} {T : Addr} (h : Ev tb σ H (.ref T)) (hT : SqT K H T [.int b.1, .int b.2]) : EvR K (tTup (tCons tb tNil)) σ H [b] := fun H1 e1 Q q =>
  h H1 e1 _ fun H2 e2 => ⟨by show 1 ≤ sizeLine; decide, fun p hp => by
    have e3 := Ex.new (o := .tup [V.ref T]) hp
    refine q _ _ (e2.trans e3) ⟨p, [.ref T], rfl, st_of upd_same, rfl, fun i c hc => ?_⟩
    cases i with
    | zero =>
      cases hc
      exact ⟨.ref T, rfl, T, rfl, ex_t ((e1.trans e2).trans e3) hT⟩
    | succ i => cases hc⟩
end
end HH
set_option maxHeartbeats 4000000
namespace K77
open PySem PySem.Spec PyProof.Rows L2 Evl HH RZ
section
variable {P : Program} {w : World} {K : PySem.W.Frag} {mg : Str → Option Value} {base : Heap}
theorem ok_law_right {dv0 : Value} {f f1 f2 f3 f4 f5 f6 f7 f8 f9 f10 f11 f12 f13 f14 f15 f16 f17 C CF CM CN CP : Addr} {fd fd1 fd2 fd3 fd4 fd5 fd6 fd7 fd8 fd9 fd10 fd11 fd12 fd13 fd14 fd15 fd16 fd17 : FuncData} (F : FnP K "_law_right" s_law_right f fd) (g : mg "_law_right" = some (.ref f)) (b : Binds K fd ["_law_box"] []) (fc : FoldC K C)
    (h_law_take : Has P w K mg base 1 "_law_take" ["_law_box", "_law_many"] spTake f1 fd1) (h_law_row : Has P w K mg base 3 "_law_row" ["_law_box", "_law_most"] (spRow K) f2 fd2) (h_law_ended : Has P w K mg base 3 "_law_ended" ["_law_box", "_law_row_here"] (spEndedP K) f3 fd3) (h_law_of : Has P w K mg base 2 "_law_of" ["_law_box", "_law_pool"] (spOf K) f4 fd4) (h_law_same : Has P w K mg base 3 "_law_same" ["_law_found", "_law_due"] (spSame K 3) f5 fd5)
    (h_Fold___init : HasI P w K mg base 1 "Fold" C ["self", "row"] (spInitL K C) f6 fd6) (h_Fold_may_pass : HasM P w K mg base CX0 2 C "may_pass" ["self"] [] [] (spMayM K C letsZ) f7 fd7) (h_Fold_may_fall : HasM P w K mg base CX0 2 C "may_fall" ["self"] [] [] (spMayM K C fallsZ) f8 fd8)
    (h_Fold_overtake : HasM P w K mg base (L2N.CX P w) 5 C "overtake" ["self", "name"] [] [] (spOverM K C CN CM true) f9 fd9) (h_Fold_fall_back : HasM P w K mg base (L2N.CX P w) 5 C "fall_back" ["self", "name"] [] [] (spOverM K C CN CM false) f10 fd10) (h_Fold_do : HasM P w K mg base (L2.CX P w) 7 C "do" ["self", "deeds", "whole"] [dv0] [.bl true] (spDoM K C CF CM CN CP) f11 fd11)
    (h_Fold_last_names : HasM P w K mg base CX0 3 C "last_names" ["self"] [] [] (spLastNamesM K C) f12 fd12) (h_Fold_names : HasM P w K mg base CX0 1 C "names" ["self"] [] [] (spNamesM K) f13 fd13) (h_Fold_twin : HasM P w K mg base CX0 3 C "twin" ["self"] [] [] (spTwinM K C) f14 fd14) (h_Fold_settle : HasM P w K mg base CX0 4 C "settle" ["self"] [] [] (spSettleM K C (fun A B => Steps A B ∧ NfR B)) f15 fd15) (h_Fold_row : HasM P w K mg base CX0 1 C "row" ["self"] [] [] (spRowM K) f16 fd16) (h_Fold_paid : HasM P w K mg base (L2N.CX P w) 4 C "paid" ["self", "name"] [] [] (spPaidM K C CN) f17 fd17)
    (m_range : mg "range" = none) (m_list : mg "list" = none) (m_len : mg "len" = none) (m_enumerate : mg "enumerate" = none) (m_sum : mg "sum" = none) : Has P w K mg base 8 "_law_right" ["_law_box"] (spRightN 13000) f fd := by
  have h_Fold_overtake := HasM.toC h_Fold_overtake
  have h_Fold_fall_back := HasM.toC h_Fold_fall_back
  have h_Fold_paid := HasM.toC h_Fold_paid
  refine ⟨F.ok sc_law_right (fun vs H Q E h => ?_) (fun cdv A outer s H vs Q E hr h => ?_), g, F.kp, b⟩
  · obtain ⟨p, n, rfl, _⟩ := h
    rfl
  · obtain ⟨p, n, rfl, hb, hlim, q⟩ := h
    refine ⟨_, PSs.nox (pss_cons (ps_set (i := 1) sc_law_right.nd rfl (.inl rfl) (pe_call h_law_row.G (hr.mono (by decide)) (by rfl) h_law_row.g h_law_row.kp h_law_row.b .nil pass0 (pa_cons (pv 0) (pa_cons pe_int pa_nil))))
      (pss_cons (ps_asg (pe_tup (pa_cons (pe_make h_Fold___init.m h_Fold___init.G (hr.mono (by decide)) (by rfl) h_Fold___init.g h_Fold___init.b h_Fold___init.d pass0 (pa_cons (pv 1) pa_nil)) (pa_cons (pv 1) (pa_cons (pe_listRg rfl (by rfl) m_list (prg_1 (by rfl) m_range (pe_callB call_len_seq (by rfl) m_len PySem.boot_len (pa_cons (pv 1) pa_nil)))) pa_nil)))) (pg_tup rfl (pgs_cons (pg_name (i := 2) sc_law_right.nd rfl (Or.inl rfl)) (pgs_cons (pg_name (i := 3) sc_law_right.nd rfl (Or.inr rfl)) (pgs_cons (pg_name (i := 4) sc_law_right.nd rfl (Or.inr rfl)) pgs_nil)))))
      (pss_cons (ps_asg (pe_call h_law_ended.G (hr.mono (by decide)) (by rfl) h_law_ended.g h_law_ended.kp h_law_ended.b .nil pass0 (pa_cons (pv 0) (pa_cons (pv 3) pa_nil))) (pg_tup rfl (pgs_cons (pg_name (i := 5) sc_law_right.nd rfl (Or.inl rfl)) (pgs_cons (pg_name (i := 6) sc_law_right.nd rfl (Or.inl rfl)) (pgs_cons (pg_name (i := 7) sc_law_right.nd rfl (Or.inl rfl)) pgs_nil)))))
      (pss_cons (ps_for PassesOwn.never rfl (pi_range1 (by rfl) m_range (pa_cons (pe_op op_add pe_int (pe_call h_law_take.G (hr.mono (by decide)) (by rfl) h_law_take.g h_law_take.kp h_law_take.b .nil pass0 (pa_cons (pv 0) (pa_cons pe_int pa_nil)))) pa_nil)) (pg_name (i := 8) sc_law_right.nd rfl (Or.inl rfl))
        (pss_cons (ps_set (i := 9) sc_law_right.nd rfl (.inl rfl) (pe_call h_law_take.G (hr.mono (by decide)) (by rfl) h_law_take.g h_law_take.kp h_law_take.b .nil pass0 (pa_cons (pv 0) (pa_cons pe_int pa_nil))))
      (Evl.pss_cut (ps_set (i := 10) sc_law_right.nd rfl (.inl rfl) (pe_ifExp (pt_cmpR op_lt (pv 9) pe_int (nomark _)) (pe_meth0 (pv 2) h_Fold_may_pass.c h_Fold_may_pass.m h_Fold_may_pass.G (hr.mono (by decide)) h_Fold_may_pass.b h_Fold_may_pass.d pass0) (pe_meth0 (pv 2) h_Fold_may_fall.c h_Fold_may_fall.m h_Fold_may_fall.G (hr.mono (by decide)) h_Fold_may_fall.b h_Fold_may_fall.d pass0)))
      (Evl.pss_cut (ps_if (PW.pt (pw_and (pt_cmpR (op_neD hr.units) (pv 10) (pe_lst pa_nil) (nomark _)) (pw_and1 (pt_cmpR op_lt (pv 9) pe_int (nomark _))))) (pss_cons (ps_set (i := 11) sc_law_right.nd rfl (.inl rfl) (pe_call h_law_of.G (hr.mono (by decide)) (by rfl) h_law_of.g h_law_of.kp h_law_of.b .nil pass0 (pa_cons (pv 0) (pa_cons (pv 10) pa_nil))))
      (pss_one (ps_set (i := 12) sc_law_right.nd rfl (.inl rfl) (pe_ifExp (pt_cmpR op_lt (pv 9) pe_int (nomark _)) (pe_meth (pv 2) h_Fold_overtake.c h_Fold_overtake.m h_Fold_overtake.G (hr.mono (by decide)) h_Fold_overtake.b h_Fold_overtake.d _root_.L2.passL (pa_cons (pv 11) pa_nil)) (pe_meth (pv 2) h_Fold_fall_back.c h_Fold_fall_back.m h_Fold_fall_back.G (hr.mono (by decide)) h_Fold_fall_back.b h_Fold_fall_back.d _root_.L2.passL (pa_cons (pv 11) pa_nil)))))) (pss_one (ps_if (PW.pt (pw_and (pt_cmpR op_eq (pv 9) pe_int (nomark _)) (pw_and1 (pt_cmpR op_lt (pe_callB call_len_seq (by rfl) m_len PySem.boot_len (pa_cons (pv 3) pa_nil)) pe_int (nomark _))))) (pss_cons (ps_set (i := 13) sc_law_right.nd rfl (.inl rfl) (pe_tup (pa_cons (pe_op op_sub (pe_op op_add (pe_ix ix_tup (pe_ix ix_tup (pv 3) pe_int (fun _ _ => rfl)) pe_int (fun _ _ => rfl)) (pe_call h_law_take.G (hr.mono (by decide)) (by rfl) h_law_take.g h_law_take.kp h_law_take.b .nil pass0 (pa_cons (pv 0) (pa_cons pe_int pa_nil)))) pe_int) (pa_cons (pe_call h_law_take.G (hr.mono (by decide)) (by rfl) h_law_take.g h_law_take.kp h_law_take.b .nil pass0 (pa_cons (pv 0) (pa_cons pe_int pa_nil))) pa_nil))))
      (pss_cons (ps_set (i := 14) sc_law_right.nd rfl (.inl rfl) (pe_cmpR op_eq (pe_call h_law_take.G (hr.mono (by decide)) (by rfl) h_law_take.g h_law_take.kp h_law_take.b .nil pass0 (pa_cons (pv 0) (pa_cons pe_int pa_nil))) pe_int (nomark _)))
      (pss_cons (ps_set (i := 15) sc_law_right.nd rfl (.inl rfl) (pe_ifExp (pt_val (pv 14)) pe_int pe_non))
      (pss_cons (ps_set (i := 4) sc_law_right.nd rfl (.inr rfl) (pe_ifExp (pt_val (pv 14)) (pe_op op_cat (pe_lst (pa_cons (pe_callB call_len_seq (by rfl) m_len PySem.boot_len (pa_cons (pv 3) pa_nil)) pa_nil)) (pv 4)) (pe_op op_cat (pv 4) (pe_lst (pa_cons (pe_callB call_len_seq (by rfl) m_len PySem.boot_len (pa_cons (pv 3) pa_nil)) pa_nil)))))
      (pss_cons (ps_if (pt_cmpR (op_neD hr.units) (pe_meth (pv 2) h_Fold_do.c h_Fold_do.m h_Fold_do.G (hr.mono (by decide)) h_Fold_do.b h_Fold_do.d _root_.L2.passL (pa_cons (pe_lst (pa_cons (pe_tup (pa_cons pe_str (pa_cons (pe_ix ix_tup (pv 13) pe_int (fun _ _ => rfl)) (pa_cons (pe_ix ix_tup (pv 13) pe_int (fun _ _ => rfl)) (pa_cons (pv 15) pa_nil))))) pa_nil)) pa_nil)) (pe_lst (pa_cons (pe_callB call_len_seq (by rfl) m_len PySem.boot_len (pa_cons (pv 3) pa_nil)) pa_nil)) (nomark _)) (pss_one (ps_ret pe_bl)) pss_nil)
      (pss_one (ps_set (i := 3) sc_law_right.nd rfl (.inr rfl) (pe_ifExp (pt_val (pv 14)) (pe_op op_catA (pe_tup (pa_cons (pv 13) pa_nil)) (pv 3)) (pe_op op_catA (pv 3) (pe_tup (pa_cons (pv 13) pa_nil))))))))))) pss_nil)))
      (pss_cons (ps_asg (pe_call h_law_ended.G (hr.mono (by decide)) (by rfl) h_law_ended.g h_law_ended.kp h_law_ended.b .nil pass0 (pa_cons (pv 0) (pa_cons (pv 3) pa_nil))) (pg_tup rfl (pgs_cons (pg_name (i := 5) sc_law_right.nd rfl (Or.inl rfl)) (pgs_cons (pg_name (i := 6) sc_law_right.nd rfl (Or.inl rfl)) (pgs_cons (pg_name (i := 7) sc_law_right.nd rfl (Or.inl rfl)) pgs_nil)))))
      (pss_one (ps_if (pt_not (pt_val (pe_call h_law_same.G (hr.mono (by decide)) (by rfl) h_law_same.g h_law_same.kp h_law_same.b .nil pass0 (pa_cons (pe_meth0 (pv 2) h_Fold_last_names.c h_Fold_last_names.m h_Fold_last_names.G (hr.mono (by decide)) h_Fold_last_names.b h_Fold_last_names.d pass0) (pa_cons (pe_lc (own := [("_law_place", 16)]) (g := gName 16) (by rfl) sc_law_right.nd (pi_tup (pv 6)) (blkOk_by (own := [("_law_place", 16)]) (N := ["_law_box", "_law_row_here", "_law_fold", "_law_own", "_law_calls", "_law_ends", "_law_order", "_law_pairs", "_law_turn", "_law_way", "_law_some", "_law_who", "_law_found", "_law_beast", "_law_ahead", "_law_spot", "_law_place", "_law_now", "_law_then", "_law_twin", "_law_turned_now", "_law_at", "_law_call", "_law_due", "_law_behind", "_law_mate"]) (sc := defScope s_law_right) (by decide +kernel)) (fun _ _ _ _ _ => (pg_name (i := 16) sc_law_right.nd rfl (Or.inl rfl))) (fun _ _ _ _ _ => pts_nil) (fun _ _ _ _ _ => (pe_ix (ix_listK (K := K)) (pv 4) (pv 16) (fun _ _ => rfl)))) pa_nil))))) (pss_one (ps_ret pe_bl)) pss_nil)))))))
      (pss_cons (ps_asg (pe_tup (pa_cons (pe_meth0 (pv 2) h_Fold_names.c h_Fold_names.m h_Fold_names.G (hr.mono (by decide)) h_Fold_names.b h_Fold_names.d pass0) (pa_cons (pe_meth0 (pv 2) h_Fold_last_names.c h_Fold_last_names.m h_Fold_last_names.G (hr.mono (by decide)) h_Fold_last_names.b h_Fold_last_names.d pass0) (pa_cons (pe_meth0 (pv 2) h_Fold_twin.c h_Fold_twin.m h_Fold_twin.G (hr.mono (by decide)) h_Fold_twin.b h_Fold_twin.d pass0) pa_nil)))) (pg_tup rfl (pgs_cons (pg_name (i := 17) sc_law_right.nd rfl (Or.inl rfl)) (pgs_cons (pg_name (i := 18) sc_law_right.nd rfl (Or.inr rfl)) (pgs_cons (pg_name (i := 19) sc_law_right.nd rfl (Or.inl rfl)) pgs_nil)))))
      (pss_cons (ps_set (i := 20) sc_law_right.nd rfl (.inl rfl) pe_int)
      (pss_cons (ps_for PassesOwn.never rfl (pi_enum (by rfl) m_enumerate (pa_cons (pv 17) pa_nil)) (pg_tup rfl (pgs_cons (pg_name (i := 21) sc_law_right.nd rfl (Or.inl rfl)) (pgs_cons (pg_name (i := 22) sc_law_right.nd rfl (Or.inr rfl)) pgs_nil)))
        (pss_one (ps_set (i := 20) sc_law_right.nd rfl (.inl rfl) (pe_op op_add (pv 20) (pe_callB call_len_seq (by rfl) m_len PySem.boot_len (pa_cons (pe_lc (own := [("_law_mate", 25)]) (g := gName 25) (by rfl) sc_law_right.nd (pi_list (pe_slice sl_list (pv 17) po_none (po_some (pv 21)))) (blkOk_by (own := [("_law_mate", 25)]) (N := ["_law_box", "_law_row_here", "_law_fold", "_law_own", "_law_calls", "_law_ends", "_law_order", "_law_pairs", "_law_turn", "_law_way", "_law_some", "_law_who", "_law_found", "_law_beast", "_law_ahead", "_law_spot", "_law_place", "_law_now", "_law_then", "_law_twin", "_law_turned_now", "_law_at", "_law_call", "_law_due", "_law_behind", "_law_mate"]) (sc := defScope s_law_right) (by decide +kernel)) (fun _ _ _ _ _ => (pg_name (i := 25) sc_law_right.nd rfl (Or.inl rfl))) (fun _ _ _ _ _ => (pts_one (pt_cmpR op_lt (pe_bmK (K := K) (pe_bm PySem.F.plainAttrs_list PySem.F.slot_list_index PySem.F.type_list_index (mt_indexK (K := K)) (pv 18) (pa_cons (pv 22) pa_nil))) (pe_bmK (K := K) (pe_bm PySem.F.plainAttrs_list PySem.F.slot_list_index PySem.F.type_list_index (mt_indexK (K := K)) (pv 18) (pa_cons (pv 25) pa_nil))) (nomark _)))) (fun _ _ _ _ _ => (pv 25))) pa_nil))))))
      (pss_cons (ps_if (PW.pt (pw_or (pt_cmpR op_ne (pe_meth0 (pv 19) h_Fold_settle.c h_Fold_settle.m h_Fold_settle.G (hr.mono (by decide)) h_Fold_settle.b h_Fold_settle.d pass0) (pv 20) (nomark _)) (pw_or1 (pt_not (pt_val (pe_call h_law_same.G (hr.mono (by decide)) (by rfl) h_law_same.g h_law_same.kp h_law_same.b .nil pass0 (pa_cons (pe_meth0 (pv 19) h_Fold_row.c h_Fold_row.m h_Fold_row.G (hr.mono (by decide)) h_Fold_row.b h_Fold_row.d pass0) (pa_cons (pv 5) pa_nil)))))))) (pss_one (ps_ret pe_bl)) pss_nil)
      (pss_cons (ps_for PassesOwn.never rfl (pi_enum (by rfl) m_enumerate (pa_cons (pv 4) pa_nil)) (pg_tup rfl (pgs_cons (pg_name (i := 16) sc_law_right.nd rfl (Or.inr rfl)) (pgs_cons (pg_name (i := 22) sc_law_right.nd rfl (Or.inr rfl)) pgs_nil)))
        (pss_cons (ps_set (i := 23) sc_law_right.nd rfl (.inl rfl) (pe_callB (cr_sum rfl) (by rfl) m_sum (by decide +kernel) (pa_cons (pe_lc (own := [("_law_ahead", 14), ("_law_behind", 24)]) (g := gTup K 2 (gCons (gName 14) (gCons (gName 24) gNil))) (by rfl) sc_law_right.nd (pi_list (pv 7)) (blkOk_by (own := [("_law_ahead", 14), ("_law_behind", 24)]) (N := ["_law_box", "_law_row_here", "_law_fold", "_law_own", "_law_calls", "_law_ends", "_law_order", "_law_pairs", "_law_turn", "_law_way", "_law_some", "_law_who", "_law_found", "_law_beast", "_law_ahead", "_law_spot", "_law_place", "_law_now", "_law_then", "_law_twin", "_law_turned_now", "_law_at", "_law_call", "_law_due", "_law_behind", "_law_mate"]) (sc := defScope s_law_right) (by decide +kernel)) (fun _ _ _ _ _ => (pg_tup rfl (pgs_cons (pg_name (i := 14) sc_law_right.nd rfl (Or.inl rfl)) (pgs_cons (pg_name (i := 24) sc_law_right.nd rfl (Or.inl rfl)) pgs_nil)))) (fun _ _ _ _ _ => (pts_one (pt_cmpR op_eq (pv 24) (pv 16) (nomark _)))) (fun _ _ _ _ _ => (pe_ix (ix_tupK (K := K)) (pe_ix (ix_tupK (K := K)) (pv 3) (pv 14) (fun _ _ => rfl)) pe_int (fun _ _ => rfl)))) pa_nil)))
      (pss_one (ps_if (PW.pt (pw_or (pt_cmpR op_ne (pe_meth (pv 19) h_Fold_paid.c h_Fold_paid.m h_Fold_paid.G (hr.mono (by decide)) h_Fold_paid.b h_Fold_paid.d _root_.L2.passL (pa_cons (pv 22) pa_nil)) (pv 23) (nomark _)) (pw_or1 (pt_cmpR op_ne (pe_op op_sub (pe_ix ix_tup (pe_ix ix_tup (pv 3) (pv 16) (fun _ _ => rfl)) pe_int (fun _ _ => rfl)) (pv 23)) (pe_ix ix_tup (pe_ix ix_tup (pv 5) (pe_bmF PySem.F.slot_tuple_index PySem.F.type_tuple_index mt_tup_indexI (pv 6) (pa_cons (pv 16) pa_nil)) (fun _ _ => rfl)) pe_int (fun _ _ => rfl)) (nomark _))))) (pss_one (ps_ret pe_bl)) pss_nil))))
      (pss_one (ps_ret pe_bl))))))))))), ?_⟩
    refine ⟨.ref p, rfl, p, 7, n, rfl, by decide, by decide, hb, by omega, fun v1 H1 rs x1 hb1 hv h0 h7 ht => ?_⟩
    have htl : ∀ b ∈ rs, 0 ≤ b.2 := fun b hb => (ht b hb).2.2.1
    refine g_at [some (.ref p), some v1, none, none, none, none, none, none, none, none, none, none, none, none, none, none, none, none, none, none, none, none, none, none, none, none] rfl ?_
    dsimp only
    obtain ⟨z1, hz1⟩ := hb1.lst
    have h0ok : OkL (startF rs) (rs.length : Int) := start_ok (by omega) htl
    refine q_tup3 ?_
    refine mk_foldL (te := tVar 1) (σ := [some (.ref p), some v1, none, none, none, none, none, none, none, none, none, none, none, none, none, none, none, none, none, none, none, none, none, none, none, none]) fc (fun H2 e2 Q k => ⟨v1, rfl, k v1 H2 (Ex.refl _) (hv.ex e2)⟩) (by omega) fun a dx pl ml H2 ha hpl hml n1 n2 n3 e2 hf hm => ?_
    have npp : p ≠ pl := hb1.ne hpl
    have npm : p ≠ ml := hb1.ne hml
    obtain ⟨ra, us, rfl, hta, hbs⟩ := hv.ex e2
    refine ⟨.ref ra, rfl, .ref ra, rfl, ra, us, rfl, .inr hta, _, rfl, RgOk.of_le (by decide) (by rw [hbs.1]; omega) (by decide) (by omega), fun cl hcl => ⟨by show 3 ≤ sizeLine; decide, fun T hT => ⟨T, _, rfl, st_of upd_same, rfl, _, _, rfl, _, _, rfl, _, _, rfl, rfl, ?_⟩⟩⟩
    have ecs : rgV 0 (rs.length : Int) = ((List.range rs.length).map fun (k : Nat) => (k : Int)).map V.int := by
      rw [ord_tag, ordL_nats, tag_ids, List.map_map]
      rfl
    rw [hbs.1, ecs] at hT ⊢
    generalize hcs : (List.range rs.length).map (fun (k : Nat) => (k : Int)) = cs0 at hT ⊢
    have eC := Ex.new (o := .lst (cs0.map V.int)) hcl
    have gC : (upd H2 cl (.lst (cs0.map V.int))) cl = some (.lst (cs0.map V.int)) := upd_same
    generalize upd H2 cl (.lst (cs0.map V.int)) = H3 at eC gC hT ⊢
    have eT := Ex.new (o := .tup [V.ref a, .ref ra, .ref cl]) hT
    generalize upd H3 T (.tup [V.ref a, .ref ra, .ref cl]) = H4 at eT ⊢
    have e24 := eC.trans eT
    have e14 := e2.trans e24
    have clp : cl ≠ p := fun z => by rw [z, e2 _ _ hz1] at hcl; cases hcl
    have clpl : cl ≠ pl := fun z => by
      obtain ⟨_, _, _, _, g3, _⟩ := id hf
      rw [z, g3] at hcl
      cases hcl
    have clml : cl ≠ ml := fun z => by rw [z, hm] at hcl; cases hcl
    have cs0l : cs0.length = rs.length := by rw [← hcs, List.length_map, List.length_range]
    have w4 : FW K C H1 H4 p a dx pl ml (.ref ra) cl rs cs0 (startF rs, (rs.length : Int), []) [] (n + 100) 0 := ⟨⟨hf.ex e24, ⟨[], e24 _ _ hm, .nil⟩, hb1.ex e14, ExB.of e14, ha, hpl, hml, n1, n2, n3, npp, npm⟩, hv.ex e14, eT _ _ gC, clp, clpl, clml, h0, by omega, htl, cs0l, by rw [← hcs]; exact came_start htl, h0ok, rfl, Nat.le_refl _, Nat.le_refl _⟩
    dsimp only
    refine s_at [some (.ref p), some (.ref ra), some (.ref a), some (.ref ra), some (.ref cl), none, none, none, none, none, none, none, none, none, none, none, none, none, none, none, none, none, none, none, none, none] rfl ?_
    generalize V.ref ra = v1 at w4 ⊢
    clear ecs hcs
    refine ⟨.ref p, rfl, v1, rfl, p, v1, rs, n + 100, rfl, w4.o, by omega, htl, w4.w.b, by omega, fun q5 ev5 ot5 lp5 o5 pv5 E5 ps5 H5 x5 hb5 g5 r5 go5 pt5 gl5 bs5 pr5 _ nl5 => ?_⟩
    refine ⟨q5, _, rfl, st_of g5, rfl, _, _, rfl, _, _, rfl, _, _, rfl, rfl, ?_⟩
    dsimp only
    refine s_at [some (.ref p), some v1, some (.ref a), some v1, some (.ref cl), some ev5, some (.ref ot5), some (.ref lp5), none, none, none, none, none, none, none, none, none, none, none, none, none, none, none, none, none, none] rfl ?_
    have w5 := w4.draw x5 hb5
    refine q_forArg (M := fun m H' => 0 < m ∧ m ≤ 10 ∧ FW K C H1 H' p a dx pl ml v1 cl rs cs0 (startF rs, (rs.length : Int), []) [] (n + 1101) 0) (fun Q k => ⟨.ref p, rfl, p, 10, n + 100 + 1000, rfl, by decide, by decide, hb5, by omega, fun r H6 r0 r1 x6 hb6 => ⟨1, r, rfl, rfl, ?_⟩⟩) fun m H6 hM => ?_
    · obtain ⟨m, rfl⟩ := Int.eq_ofNat_of_zero_le r0
      have e1 : (1 : Int) + (m : Int) = ((m + 1 : Nat) : Int) := by omega
      show Q (V.int (1 + (m : Int))) H6
      rw [e1]
      exact k (m + 1) H6 ⟨by omega, by omega, (w5.draw x6 hb6).le (by omega) (Nat.le_refl _)⟩
    obtain ⟨m0, m10, w6⟩ := hM
    clear w4 w5 x5 hb5 g5 r5 go5 pt5 gl5 bs5 pr5 nl5
    refine q_forR1 (n := (m : Int)) (ea_cons ev_c ea_nil) ⟨by omega, by omega⟩ (fun i σ' H' => ∃ (y5 y6 y7 y8 y9 y10 y11 y12 y13 y14 y15 y16 : Option V) (ov : V) (cl : Addr) (R : HH.Row) (cs : List Int) (st : FoldS) (L : List (Bool × Nat)), σ' = [some (.ref p), some v1, some (.ref a), some ov, some (.ref cl), y5, y6, y7, y8, y9, y10, y11, y12, y13, y14, y15, y16, none, none, none, none, none, none, none, none, none] ∧ FW K C H1 H' p a dx pl ml ov cl R cs st L (n + 1101 + 1010 * i) i ∧ (0 < i → ∃ (ev : V) (ot lp : Addr) (E : List Cow) (ps : HH.Row), y5 = some ev ∧ y6 = some (.ref ot) ∧ y7 = some (.ref lp) ∧ EndQ K H' ev ot lp R E ps)) (fun H7 e7 => ?_) (fun i σ' H7 hi hW => ?_) (fun σ' H7 hW => ?_)
    · exact ⟨_, _, _, _, _, _, _, _, _, _, _, _, v1, cl, rs, cs0, _, [], rfl, w6.ex e7, fun z => absurd z (by decide)⟩
    · obtain ⟨y5, y6, y7, y8, y9, y10, y11, y12, y13, y14, y15, y16, ov, cl, R, cs, st, L, rfl, w7, _⟩ := hW
      have hi : i < 10 := by omega
      refine ⟨.ref p, rfl, p, 4, n + 1101 + 1010 * i, rfl, by decide, by decide, w7.w.b, by omega, fun t H8 t0 t1 x8 hb8 => ?_⟩
      refine g_at [some (.ref p), some v1, some (.ref a), some ov, some (.ref cl), y5, y6, y7, some (.int (i : Int)), some (.int t), y10, y11, y12, y13, y14, y15, y16, none, none, none, none, none, none, none, none, none] rfl ?_
      dsimp only
      have w8 := w7.draw x8 hb8
      refine q_cut (M := fun σ' H' => ∃ (q : Addr) (ms : List Int), σ' = [some (.ref p), some v1, some (.ref a), some ov, some (.ref cl), y5, y6, y7, some (.int (i : Int)), some (.int t), some (.ref q), y11, y12, y13, y14, y15, y16, none, none, none, none, none, none, none, none, none] ∧ Ex H8 H' ∧ H8 q = none ∧ H' q = some (.lst (ms.map V.int)) ∧ (mayF st.1 (if decide (t < 2) then letsZ else fallsZ)).Perm ms) ?_ (fun σ' H9 hM => ?_)
      · obtain ⟨lv, ps, zs, gs, ia, ip, ib, im⟩ := w8.w.ins
        have l24 := w8.ok.2.2.2.1
        refine (et_test (ev_op (ev_var rfl) ev_c rv_I0) : EvT (tTest (tOp (rI0 fun i j => .bl (decide (i < j))) (tVar 9) (tC (.int 2)))) [some (.ref p), some v1, some (.ref a), some ov, some (.ref cl), y5, y6, y7, some (.int (i : Int)), some (.int t), y10, y11, y12, y13, y14, y15, y16, none, none, none, none, none, none, none, none, none] H8 (decide (t < 2))) H8 (Ex.refl _) _ fun HA eA => ?_
        cases decide (t < 2) with
        | true =>
          rw [if_pos rfl]
          exact ⟨.ref a, rfl, a, dx, _, rfl, eA _ _ ia, rfl, a, dx, pl, ml, st, rfl, fc, w8.w.f.ex eA, by omega, fun ms q HB pm pw hq eB gq => ⟨q, ms, rfl, eA.trans eB, fresh_back eA hq, gq, pm⟩⟩
        | false =>
          rw [if_neg (by decide)]
          exact ⟨.ref a, rfl, a, dx, _, rfl, eA _ _ ia, rfl, a, dx, pl, ml, st, rfl, fc, w8.w.f.ex eA, by omega, fun ms q HB pm pw hq eB gq => ⟨q, ms, rfl, eA.trans eB, fresh_back eA hq, gq, pm⟩⟩
      obtain ⟨q, ms, rfl, e9, hq, gq, pm⟩ := hM
      have w9 := w8.ex e9
      have qp : q ≠ p := fun z => by
        obtain ⟨zs, hz⟩ := w8.w.b.lst
        rw [z, hz] at hq
        cases hq
      have l24 := w9.ok.2.2.2.1
      have lms : ms.length ≤ 24 := by
        have h1 : (mayF st.1 (if decide (t < 2) then letsZ else fallsZ)).length ≤ st.1.length := by
          unfold mayF
          rw [List.length_map]
          exact Nat.le_trans (List.length_filter_le _ _) (by rw [List.length_range]; exact Nat.le_refl _)
        have h2 := pm.length_eq
        omega
      generalize hww : decide (t < 2) = ww at pm
      refine q_cut (M := fun σ' H' => ∃ (y11 y12 y13 y14 y15 y16 : Option V) (ov : V) (cl : Addr) (R : HH.Row) (cs : List Int) (st : FoldS) (L : List (Bool × Nat)), σ' = [some (.ref p), some v1, some (.ref a), some ov, some (.ref cl), y5, y6, y7, some (.int (i : Int)), some (.int t), some (.ref q), y11, y12, y13, y14, y15, y16, none, none, none, none, none, none, none, none, none] ∧ FW K C H1 H' p a dx pl ml ov cl R cs st L (n + 1101 + 1010 * i + 10) (i + 1)) ?_ (fun σ' HA hM => ?_)
      · refine s_if (b := !(ms.map V.int).isEmpty && decide (t < 3)) (et_and (et_test (ev_neNil (k := 0) (ev_var (i := 10) rfl) (sq_of gq) (dp_ints ms) (nice_ints ms) (by decide))) fun _ => et_test (ev_op (ev_var (i := 9) rfl) ev_c rv_I0)) (fun z HA eA => ?_) (fun z HA eA => ?_)
        · -- one passes, or falls back
          have wA := w9.ex eA
          have hne : ms ≠ [] := fun e => by
            rw [e] at z
            cases z
          have hpos : 0 < (ms.map V.int).length := by
            rw [List.length_map]
            exact List.length_pos_iff.mpr hne
          refine ⟨.ref p, rfl, .ref q, rfl, p, q, ms.map V.int, n + 1101 + 1010 * i + 1, rfl, sq_of (eA _ _ gq), hpos, by rw [List.length_map]; omega, qp, wA.w.b, by omega, fun r x HB hx xB hbB => ?_⟩
          obtain ⟨m1, hm1, rfl⟩ : ∃ m1, ms[r]? = some m1 ∧ x = .int m1 := by
            rw [List.getElem?_map, Option.map_eq_some_iff] at hx
            obtain ⟨y, h1, rfl⟩ := hx
            exact ⟨y, h1, rfl⟩
          refine g_at [some (.ref p), some v1, some (.ref a), some ov, some (.ref cl), y5, y6, y7, some (.int (i : Int)), some (.int t), some (.ref q), some (.int m1), y12, y13, y14, y15, y16, none, none, none, none, none, none, none, none, none] rfl ?_
          dsimp only
          have wB := wA.draw xB hbB
          have hmem := pm.mem_iff.mpr (List.mem_of_getElem? hm1)
          unfold mayF at hmem
          obtain ⟨kk, hk, hkn⟩ := List.mem_map.mp hmem
          obtain ⟨hk1, hk2⟩ := List.mem_filter.mp hk
          have hk1 := List.mem_range.mp hk1
          have hnk : (namesF st.1)[kk]? = some m1 := by
            have hl : kk < (namesF st.1).length := by rw [namesF, List.length_map]; exact hk1
            rw [List.getElem?_eq_getElem hl, ← hkn, List.getD_eq_getElem?_getD, List.getElem?_eq_getElem hl]
            rfl
          have hcan : canZ (rowF st.1) (ww, (kk : Int)) = true := by
            cases ww with
            | true => exact hk2
            | false => exact hk2
          obtain ⟨lv, ps, zs, gs, ia, ip, ib, im⟩ := wB.w.ins
          have fin : ∀ (w2 : Bool) (x : Int) (HC HD : Hp), canZ (rowF st.1) (w2, (kk : Int)) = true → Ex HB HC → (namesF st.1)[nextF w2 kk]? = some x → ExF a pl HC HD → FoldAt K HD C a dx pl ml (stepF st w2 kk) → FW K C H1 HD p a dx pl ml ov cl R cs (stepF st w2 kk) L (n + 1101 + 1010 * i + 10) (i + 1) := fun w2 x HC HD hc2 eC hx xD fD => by
            have wC := wB.ex eC
            obtain ⟨lv, ps, zs, gs, ia, ip, ib, im⟩ := wC.w.ins
            have kD := Kp.exF xD ia ip
            have hD : Due st.1 st.2.1 (.over w2 m1) (.told (some x)) (turnL w2 st.1 kk) st.2.1 := .inr ⟨kk, ⟨hnk, fun j hj h => by have := nodup_ix wC.ok.1 hnk h; omega⟩, .inr ⟨hc2, x, hx, rfl, rfl, rfl⟩⟩
            exact ⟨(wC.w.fold xD fD).le (by omega), wC.o.kp kD, xD _ _ wC.c0 wC.c2 wC.g, wC.c1, wC.c2, wC.c3, wC.r0, wC.rl, wC.tl, wC.cz, came_turn wC.cm hc2, hD.ok wC.ok True.intro, wC.nx, by
              show (st.2.2 ++ [(st.1, st.2.1)]).length ≤ i + 1
              rw [List.length_append]
              have := wC.pk
              show st.2.2.length + 1 ≤ i + 1
              omega, by have := wC.lk; omega⟩
          have hpk := wB.pk
          refine (et_test (ev_op (ev_var rfl) ev_c rv_I0) : EvT (tTest (tOp (rI0 fun i j => .bl (decide (i < j))) (tVar 9) (tC (.int 2)))) [some (.ref p), some v1, some (.ref a), some ov, some (.ref cl), y5, y6, y7, some (.int (i : Int)), some (.int t), some (.ref q), some (.int m1), y12, y13, y14, y15, y16, none, none, none, none, none, none, none, none, none] HB (decide (t < 2))) HB (Ex.refl _) _ fun HC eC => ?_
          rw [hww]
          have fC := wB.w.f.ex eC
          have hokB := wB.ok
          cases ww with
          | true =>
            rw [if_pos rfl]
            refine ⟨.ref a, rfl, a, dx, _, rfl, eC _ _ ia, rfl, .int m1, rfl, ?_⟩
            refine ⟨a, dx, pl, ml, st, m1, rfl, fc, fC, n1, n2, n3, by omega, by omega, fun j hj _ hcz => ?_, fun j x hj _ _ hx HD xD fD => ?_, fun z => absurd (List.mem_of_getElem? hnk) z⟩
            · have := nodup_ix hokB.1 hj hnk
              subst this
              rw [hcan] at hcz
              cases hcz
            have := nodup_ix hokB.1 hj hnk
            subst this
            exact ⟨_, _, _, _, _, _, ov, cl, R, cs, _, L, rfl, fin true x HC HD hcan eC hx xD fD⟩
          | false =>
            rw [if_neg (by decide)]
            refine ⟨.ref a, rfl, a, dx, _, rfl, eC _ _ ia, rfl, .int m1, rfl, ?_⟩
            refine ⟨a, dx, pl, ml, st, m1, rfl, fc, fC, n1, n2, n3, by omega, by omega, fun j hj _ hcz => ?_, fun j x hj _ _ hx HD xD fD => ?_, fun z => absurd (List.mem_of_getElem? hnk) z⟩
            · have := nodup_ix hokB.1 hj hnk
              subst this
              rw [hcan] at hcz
              cases hcz
            have := nodup_ix hokB.1 hj hnk
            subst this
            exact ⟨_, _, _, _, _, _, ov, cl, R, cs, _, L, rfl, fin false x HC HD hcan eC hx xD fD⟩
        · have wA := w9.ex eA
          refine s_when (b := decide (V.int t = V.int 3) && decide ((R.length : Int) < 14)) (et_and (et_test (ev_op (ev_var (i := 9) rfl) ev_c (rv_eq rfl))) fun _ => et_test (ev_op (ev_lenR (K := K) (ev_var (i := 3) rfl) wA.o) ev_c rv_I0)) (fun z2 HB eB => ?_) (fun z2 HB eB => ⟨_, _, _, _, _, _, ov, cl, R, cs, st, L, rfl, (wA.ex eB).le (by omega) (by omega)⟩)
          have hR14 : R.length < 14 := by
            have := of_decide_eq_true (Bool.and_eq_true_iff.mp z2).2
            omega
          have wB := wA.ex eB
          obtain ⟨b0, hb0⟩ : ∃ b0, R[0]? = some b0 := ⟨_, List.getElem?_eq_getElem wB.r0⟩
          refine (ev_str (K := K) (j := 0) (ev_var (i := 3) rfl) wB.o ev_c rfl hb0) HB (Ex.refl _) _ fun HC eC => ⟨.ref p, rfl, p, 30, n + 1101 + 1010 * i + 1, rfl, by decide, by decide, (wB.ex eC).w.b, by omega, fun u HD u0 u1 xD hbD => ⟨_, _, rfl, rfl, _, _, rfl, rfl, .ref p, rfl, p, 9, n + 1101 + 1010 * i + 2, rfl, by decide, by decide, hbD, by omega, fun tt HE t2 t3 xE hbE => ⟨by show 2 ≤ sizeLine; decide, fun T hT => ?_⟩⟩⟩
          have wE := ((wB.ex eC).draw xD hbD).draw xE hbE
          show gName 13 (V.ref T) _ (upd HE T (.tup [V.int (b0.1 + u - 12), .int tt])) _
          generalize hsb : b0.1 + u - 12 = sb
          have eT := Ex.new (o := .tup [V.int sb, .int tt]) hT
          have gT : (upd HE T (.tup [V.int sb, .int tt])) T = some (.tup [V.int sb, .int tt]) := upd_same
          generalize upd HE T (.tup [V.int sb, .int tt]) = HF at eT gT ⊢
          have wF := wE.ex eT
          refine g_at [some (.ref p), some v1, some (.ref a), some ov, some (.ref cl), y5, y6, y7, some (.int (i : Int)), some (.int t), some (.ref q), y11, y12, some (.ref T), y14, y15, y16, none, none, none, none, none, none, none, none, none] rfl ?_
          dsimp only
          refine ⟨.ref p, rfl, p, 2, n + 1101 + 1010 * i + 3, rfl, by decide, by decide, wF.w.b, by omega, fun za HG za0 za1 xG hbG => ⟨rfl, ?_⟩⟩
          obtain ⟨zsF, hzF⟩ := wF.w.b.lst
          have Tp : T ≠ p := fun z => by rw [z, hzF] at gT; cases gT
          have gTG := xG _ _ Tp gT
          have wG := wF.draw xG hbG
          generalize decide (V.int za = V.int 0) = ah
          refine g_at [some (.ref p), some v1, some (.ref a), some ov, some (.ref cl), y5, y6, y7, some (.int (i : Int)), some (.int t), some (.ref q), y11, y12, some (.ref T), some (.bl ah), y15, y16, none, none, none, none, none, none, none, none, none] rfl ?_
          dsimp only
          refine q_asg (v := placeV (if ah then some 0 else none)) (ev_if (et_B (ev_var rfl)) (fun h => by subst h; exact ev_c) (fun h => by subst h; exact ev_c)) fun HH eH => ?_
          have wH := wG.ex eH
          have gTH := eH _ _ gTG
          refine s_at [some (.ref p), some v1, some (.ref a), some ov, some (.ref cl), y5, y6, y7, some (.int (i : Int)), some (.int t), some (.ref q), y11, y12, some (.ref T), some (.bl ah), some (placeV (if ah then some 0 else none)), y16, none, none, none, none, none, none, none, none, none] rfl ?_
          have hcsl := wH.cz
          refine q_asgL (xs := if ah then V.int (R.length : Int) :: cs.map V.int else cs.map V.int ++ [V.int (R.length : Int)]) (el_if (et_B (ev_var rfl)) (fun h => by
            subst h
            exact el_catW (xs := [V.int (R.length : Int)]) (el_lst (ea_cons (ev_lenR (K := K) (ev_var (i := 3) rfl) wH.o) ea_nil) (by show 1 ≤ 100000; decide)) (ev_var rfl) wH.g (by rw [List.length_map]; show 1 + cs.length ≤ 100000; omega)) (fun h => by
            subst h
            exact el_catV (ev_var rfl) wH.g (el_lst (ea_cons (ev_lenR (K := K) (ev_var (i := 3) rfl) wH.o) ea_nil) (by show 1 ≤ 100000; decide)) (by rw [List.length_map]; show cs.length + 1 ≤ 100000; omega))) fun cl2 HI hcl2 eI gI => ?_
          have gI : HI cl2 = some (.lst ((if ah then (R.length : Int) :: cs else cs ++ [(R.length : Int)]).map V.int)) := by
            rw [gI]
            cases ah with
            | true => rfl
            | false => rw [if_neg (by decide), if_neg (by decide), List.map_append]; rfl
          have wI := wH.ex eI
          have gTI := eI _ _ gTH
          refine s_at [some (.ref p), some v1, some (.ref a), some ov, some (.ref cl2), y5, y6, y7, some (.int (i : Int)), some (.int t), some (.ref q), y11, y12, some (.ref T), some (.bl ah), some (placeV (if ah then some 0 else none)), y16, none, none, none, none, none, none, none, none, none] rfl ?_
          obtain ⟨lv, ps, zs, gs, ia, ip, ib, im⟩ := wI.w.ins
          have c2p : cl2 ≠ p := fun z => by
            rw [z] at hcl2
            obtain ⟨zsH, hzH⟩ := wH.w.b.lst
            rw [hzH] at hcl2
            cases hcl2
          obtain ⟨_, _, _, _, iaH, ipH, _, imH⟩ := wH.w.ins
          have c2a : cl2 ≠ a := fun z => by rw [z, iaH] at hcl2; cases hcl2
          have c2pl : cl2 ≠ pl := fun z => by rw [z, ipH] at hcl2; cases hcl2
          have c2ml : cl2 ≠ ml := fun z => by rw [z, imH] at hcl2; cases hcl2
          have l24 := wI.ok.2.2.2.1
          have hnx := wI.nx
          obtain ⟨Mw, Ew, kw⟩ := wI.cm
          have hll := kw.len
          have hD0 : Due st.1 st.2.1 (.come sb tt (if ah then some 0 else none)) (.told (some st.2.1)) (if ah then (st.2.1, sb, tt, 0) :: st.1 else st.1 ++ [(st.2.1, sb, tt, 0)]) (st.2.1 + 1) := by
            cases ah with
            | true => exact .inr (.inr ⟨by omega, 0, rfl, Nat.zero_le _, rfl, rfl, rfl⟩)
            | false => exact .inr (.inr ⟨by omega, st.1.length, rfl, Nat.le_refl _, rfl, by rw [if_neg (by decide), List.take_length, List.drop_length, List.append_nil], rfl⟩)
          have hokD : OkL (if ah then (st.2.1, sb, tt, 0) :: st.1 else st.1 ++ [(st.2.1, sb, tt, 0)]) (st.2.1 + 1) := hD0.ok wI.ok t2
          have hpk := wI.pk
          have hlk := wI.lk
          refine ⟨.ref a, rfl, a, dx, _, rfl, ia, rfl, (ev_op (ev_var rfl) ev_c (rv_ixT (K := K) (st_of gTI) rfl) : Ev (tOp (rIxT K) (tVar 13) (tC (.int 0))) [some (.ref p), some v1, some (.ref a), some ov, some (.ref cl2), y5, y6, y7, some (.int (i : Int)), some (.int t), some (.ref q), y11, y12, some (.ref T), some (.bl ah), some (placeV (if ah then some 0 else none)), y16, none, none, none, none, none, none, none, none, none] HI (.int sb)) HI (Ex.refl _) _ fun HJ eJ => (ev_op (ev_var rfl) ev_c (rv_ixT (K := K) (st_of (eJ _ _ gTI)) rfl) : Ev (tOp (rIxT K) (tVar 13) (tC (.int 1))) [some (.ref p), some v1, some (.ref a), some ov, some (.ref cl2), y5, y6, y7, some (.int (i : Int)), some (.int t), some (.ref q), y11, y12, some (.ref T), some (.bl ah), some (placeV (if ah then some 0 else none)), y16, none, none, none, none, none, none, none, none, none] HJ (.int tt)) HJ (Ex.refl _) _ fun HK eK => ⟨_, rfl, by show 4 ≤ sizeLine; decide, fun T2 hT2 => ⟨by show 1 ≤ sizeLine; decide, fun q0 hq0 => ?_⟩⟩⟩
          have eT2 := Ex.new (o := .tup [V.str "come", .int sb, .int tt, placeV (if ah then some 0 else none)]) hT2
          have gT2 : (upd HK T2 (.tup [V.str "come", .int sb, .int tt, placeV (if ah then some 0 else none)])) T2 = some (.tup [V.str "come", .int sb, .int tt, placeV (if ah then some 0 else none)]) := upd_same
          generalize upd HK T2 (.tup [V.str "come", .int sb, .int tt, placeV (if ah then some 0 else none)]) = HL at eT2 gT2 hq0 ⊢
          have eq0 := Ex.new (o := .lst [V.ref T2]) hq0
          have gq0 : (upd HL q0 (.lst [V.ref T2])) q0 = some (.lst [V.ref T2]) := upd_same
          have eIL := (eJ.trans eK).trans eT2
          have q0n : q0 ≠ pl ∧ q0 ≠ ml := ⟨fun z => (by rw [z, eIL _ _ ip] at hq0; cases hq0), fun z => (by rw [z, eIL _ _ im] at hq0; cases hq0)⟩
          generalize upd HL q0 (.lst [V.ref T2]) = HM at eq0 gq0 ⊢
          have eIM := eIL.trans eq0
          have wM := wI.ex eIM
          obtain ⟨_, _, _, _, iaM, ipM, ibM, imM⟩ := wM.w.ins
          refine ⟨a, dx, pl, ml, st, .ref q0, [.come sb tt (if ah then some 0 else none)], true, L, rfl, fc, wM.w.f, wM.w.m, n1, n2, n3, ⟨q0, [.ref T2], rfl, .inl (sq_of gq0), .cons ⟨T2, rfl, st_of (eq0 _ _ gT2)⟩ .nil⟩, fun x hx => (by cases hx; exact q0n), fun d hd => (by cases List.mem_singleton.mp hd; exact t2), by show 1 ≤ 50; decide, wM.ok, by omega, by omega, fun xs st' qq HN dt xN fN mN hqq gqq => ?_, fun k xs st' d r l c dd HN dt hk hD hr _ _ _ _ _ => ?_⟩
          · obtain ⟨rfl, rfl⟩ : xs = [some st.2.1] ∧ st' = turnF st (if ah then (st.2.1, sb, tt, 0) :: st.1 else st.1 ++ [(st.2.1, sb, tt, 0)]) (st.2.1 + 1) := by
              cases dt with
              | cons h0 r =>
                cases r with
                | nil =>
                  obtain ⟨h1, rfl, rfl⟩ := Due.one wM.ok.2.2.1 hD0 h0
                  cases h1
                  exact ⟨rfl, rfl⟩
            have kN := Kp.exM xN iaM ipM imM
            have oN := wM.o.kp kN
            have gTM := eIM _ _ gTI
            have gTN := xN _ _ (fun z => by rw [z, iaM] at gTM; cases gTM) (fun z => by rw [z, ipM] at gTM; cases gTM) (fun z => by rw [z, imM] at gTM; cases gTM) gTM
            have clN := xN _ _ c2a c2pl c2ml (eIM _ _ gI)
            have wN := wM.w.many xN fN mN
            have gqq' : HN qq = some (.lst ([(R.length : Int)].map V.int)) := by
              rw [gqq, ← hnx]
              rfl
            refine (el_lst (ea_cons (ev_lenR (K := K) (ev_var (i := 3) rfl) oN) ea_nil) (by show 1 ≤ 100000; decide) : EvL (tLst (tCons (tCB (rLenS K) (tCons (tVar 3) tNil)) tNil)) [some (.ref p), some v1, some (.ref a), some ov, some (.ref cl2), y5, y6, y7, some (.int (i : Int)), some (.int t), some (.ref q), y11, y12, some (.ref T), some (.bl ah), some (placeV (if ah then some 0 else none)), y16, none, none, none, none, none, none, none, none, none] HN [V.int (R.length : Int)]) HN (Ex.refl _) _ fun q8 HP hq8 e8 g8 => ?_
            refine (rv_neInts (K := K) (ns := [(R.length : Int)]) (sq_of (e8 _ _ gqq')) (sq_of g8)) HP (Ex.refl _) _ fun HQ eQ => ⟨false, rfl, ?_⟩
            dsimp only
            rw [if_neg (show ¬ ((false : Bool) = true) by decide)]
            unfold tNext
            dsimp only
            have eNQ := e8.trans eQ
            refine (er_if (rs := if ah then (sb, tt) :: R else R ++ [(sb, tt)]) (et_B (ev_var rfl)) (fun h => by subst h; exact er_cat (rs := [(sb, tt)]) (er_oneT (ev_var rfl) (st_of (eNQ _ _ gTN))) (er_val (ev_var rfl) (oN.ex eNQ)) (by show 1 + R.length ≤ 100000; omega)) (fun h => by subst h; exact er_cat (ss := [(sb, tt)]) (er_val (ev_var rfl) (oN.ex eNQ)) (er_oneT (ev_var rfl) (st_of (eNQ _ _ gTN))) (by show R.length + 1 ≤ 100000; omega)) : EvR K (tIf (tB (tVar 14)) (tOp (rCatA K) (tTup (tCons (tVar 13) tNil)) (tVar 3)) (tOp (rCatA K) (tVar 3) (tTup (tCons (tVar 13) tNil)))) [some (.ref p), some v1, some (.ref a), some ov, some (.ref cl2), y5, y6, y7, some (.int (i : Int)), some (.int t), some (.ref q), y11, y12, some (.ref T), some (.bl ah), some (placeV (if ah then some 0 else none)), y16, none, none, none, none, none, none, none, none, none] HQ _) HQ (Ex.refl _) _ fun ov2 HR eR oR => ?_
            have eNR := eNQ.trans eR
            have hcm : Came (if ah then (sb, tt) :: R else R ++ [(sb, tt)]) (if ah then (R.length : Int) :: cs else cs ++ [(R.length : Int)]) (if ah then (st.2.1, sb, tt, 0) :: st.1 else st.1 ++ [(st.2.1, sb, tt, 0)]) := by
              rw [hnx]
              cases ah with
              | true => exact came_front (b := (sb, tt)) ⟨Mw, Ew, kw⟩ t2
              | false => exact came_back (b := (sb, tt)) ⟨Mw, Ew, kw⟩ t2 wI.cz
            have hlen : (if ah then (sb, tt) :: R else R ++ [(sb, tt)]).length = R.length + 1 := by
              cases ah with
              | true => rfl
              | false => rw [if_neg (by decide), List.length_append]; rfl
            have hclen : (if ah then (R.length : Int) :: cs else cs ++ [(R.length : Int)]).length = cs.length + 1 := by
              cases ah with
              | true => rfl
              | false => rw [if_neg (by decide), List.length_append]; rfl
            have htl2 : ∀ b ∈ (if ah then (sb, tt) :: R else R ++ [(sb, tt)]), 0 ≤ b.2 := fun b hb => by
              have hb : b = (sb, tt) ∨ b ∈ R := by
                cases ah with
                | true => exact List.mem_cons.mp hb
                | false =>
                  rcases List.mem_append.mp hb with h | h
                  · exact .inr h
                  · exact .inl (List.mem_singleton.mp h)
              rcases hb with rfl | hb
              · exact t2
              · exact wI.tl b hb
            exact ⟨_, _, _, _, _, _, ov2, cl2, _, _, _, _, rfl, ⟨(wN.ex eNR).le (by omega), oR, eNR _ _ clN, c2p, c2pl, c2ml, by rw [hlen]; omega, by rw [hlen]; omega, htl2, by rw [hlen, hclen, wI.cz], hcm, hokD, by
              show st.2.1 + 1 = _
              rw [hlen]
              omega, by
              show (st.2.2 ++ [(st.1, st.2.1)]).length ≤ i + 1
              rw [List.length_append]
              show st.2.2.length + 1 ≤ i + 1
              omega, by
              rw [List.length_append]
              show L.length + 2 ≤ 2 * (i + 1)
              omega⟩⟩
          · have hk0 : k = 0 ∧ d = .come sb tt (if ah then some 0 else none) := by
              cases k with
              | zero => exact ⟨rfl, (Option.some.inj hk).symm⟩
              | succ k => cases hk
            obtain ⟨rfl, rfl⟩ := hk0
            have hst2 : st' = st := by
              have dt : DoTo st [] xs st' := dt
              cases dt
              rfl
            subst hst2
            obtain ⟨rfl, _, _⟩ := Due.one wM.ok.2.2.1 hD0 hD
            cases hr
      · obtain ⟨y11, y12, y13, y14, y15, y16, ov, cl, R, cs, st, L, rfl, wA⟩ := hM
        have hrl := wA.rl
        have lAok := wA.ok.2.2.2.1
        refine ⟨.ref p, rfl, ov, rfl, p, ov, R, n + 1101 + 1010 * i + 10, rfl, wA.o, by omega, wA.tl, wA.w.b, by omega, fun q5 ev ot lp o5 pv5 E5 ps5 HB x5 hb5 g5 r5 go5 pt5 gl5 bs5 pr5 _ nl5 => ?_⟩
        refine ⟨q5, _, rfl, st_of g5, rfl, _, _, rfl, _, _, rfl, _, _, rfl, rfl, ?_⟩
        dsimp only
        refine s_at [some (.ref p), some v1, some (.ref a), some ov, some (.ref cl), some ev, some (.ref ot), some (.ref lp), some (.int (i : Int)), some (.int t), some (.ref q), y11, y12, y13, y14, y15, y16, none, none, none, none, none, none, none, none, none] rfl ?_
        have wB := wA.draw x5 hb5
        have eB : EndQ K HB ev ot lp R E5 ps5 := ⟨r5, by rw [← ordL_nats]; exact ⟨o5, pt5, go5⟩, ⟨pv5, gl5, bs5⟩, pr5, nf_of nl5⟩
        obtain ⟨Mw, Ew, kw⟩ := wB.cm
        have eE : E5 = Ew := nf_any (good_tag wB.tl).tl pr5.steps eB.n kw.s kw.nf
        obtain ⟨Lw, sL, nL⟩ := nf_is (good_tag wB.ok.2.2.1).tl
        have lns := kw.lastNames sL nL
        have hE5 : E5.length = R.length := by
          have := pr5.steps.idsT.length_eq
          rw [List.length_map, List.length_range] at this
          exact this
        have hids : ∀ x ∈ E5.map (·.1), x < R.length := fun x hx => List.mem_range.mp (pr5.steps.idsT.mem_iff.mp hx)
        refine s_when (et_not (et_test (ev_sameX (k := 2) (d := .list ((Ew.map fun c => cs.getD c.1 0).map PyData.int)) (by
          rw [← lns]
          exact ex_L (el_lastM fc wB.w.f (fun _ => ev_var (i := 2) rfl) (by omega) wB.ok.2.2.1 fun L' s n => nf_any (good_tag wB.ok.2.2.1).tl s (nfr_nf n) sL nL)) (by
          obtain ⟨o6, pt6, g6⟩ := eB.t
          rw [← eE]
          have e9 : (E5.map fun c => cs.getD c.1 0) = (E5.map (·.1)).map fun k => cs.getD k 0 := by
            rw [List.map_map]
            rfl
          rw [e9]
          refine ex_L ?_
          rw [List.map_map]
          refine el_mapT (K := K) (σ := [some (.ref p), some v1, some (.ref a), some ov, some (.ref cl), some ev, some (.ref ot), some (.ref lp), some (.int (i : Int)), some (.int t), some (.ref q), y11, y12, y13, y14, y15, y16, none, none, none, none, none, none, none, none, none]) (H := HB) (te := tVar 6) (t1 := tOp (rIxL K) (tVar 4) (tVar 16)) (j := 16) (vs := [16]) (o := ot) (l := E5.map (·.1)) (V.int ∘ fun k => cs.getD k 0) (ev_var (i := 6) rfl) (.inl (.inr ⟨o6, g6⟩)) (by rw [List.length_map]; omega) (fun x => rfl) (fun x hx H2 e2 => ?_)
          have hx' := hids x hx
          have hcz := wB.cz
          have hc : (cs.map V.int)[x]? = some (V.int (cs.getD x 0)) := by
            rw [List.getElem?_map, List.getElem?_eq_getElem (by omega), List.getD_eq_getElem?_getD, List.getElem?_eq_getElem (by omega)]
            rfl
          exact ev_op (ev_var (i := 4) rfl) (ev_var rfl) (rv_ixL (K := K) (sq_of (e2 _ _ wB.g)) (atI_nat hc))) (okV_ints (k := 1) (by rw [List.length_map, ← eE]; omega)).1))) (fun z => by cases z) fun _ HC eC => ?_
        exact ⟨_, _, _, _, _, _, _, _, _, _, _, _, ov, cl, R, cs, st, L, rfl, (wB.ex eC).le (by omega) (Nat.le_refl _), fun _ => ⟨ev, ot, lp, E5, ps5, rfl, rfl, rfl, eB.ex eC⟩⟩
    · rw [Int.toNat_natCast] at hW
      obtain ⟨y5, y6, y7, y8, y9, y10, y11, y12, y13, y14, y15, y16, ov, cl, R, cs, st, L, rfl, w7, hq⟩ := hW
      obtain ⟨ev, ot, lp, E', ps, rfl, rfl, rfl, eq7⟩ := hq m0
      obtain ⟨Mw, Ew, kw⟩ := w7.cm
      have eE : E' = Ew := nf_any (good_tag w7.tl).tl eq7.p.steps eq7.n kw.s kw.nf
      subst eE
      obtain ⟨Lw, sL, nL⟩ := nf_is (good_tag w7.ok.2.2.1).tl
      have lns := kw.lastNames sL nL
      have hrl := w7.rl
      have l24 := w7.ok.2.2.2.1
      have hll := kw.len
      have iL := sL.idsT
      have hL := ids_ltF iL
      have nd := w7.ok.1
      have hpk := w7.pk
      have ndl : (Lw.map (·.1)).Nodup := iL.nodup_iff.mpr List.nodup_range
      obtain ⟨lv, pz, zs, gs, ia, ip, ib, im⟩ := w7.w.ins
      refine q_tup3 ⟨.ref a, rfl, a, dx, _, rfl, ia, rfl, C, a, dx, pl, ml, st, rfl, fc, w7.w.f, by omega, fun nn HA hnn eA gnn => ?_⟩
      refine (el_lastM (K := K) fc (w7.w.f.ex eA) (fun _ => ev_var (i := 2) rfl) (by omega) w7.ok.2.2.1 fun L' s n => nf_any (good_tag w7.ok.2.2.1).tl s (nfr_nf n) sL nL) HA (Ex.refl _) _ fun tn HB htn eB gtn => ?_
      have eAB := eA.trans eB
      refine ⟨.ref a, rfl, a, dx, _, rfl, eAB _ _ ia, rfl, a, dx, pl, ml, st, rfl, fc, w7.w.f.ex eAB, by omega, fun a1 dx1 pl1 ml1 HC k1 k2 k3 k4 k5 k6 eC t1 _ => ⟨by show 3 ≤ sizeLine; decide, fun T hT => ⟨T, _, rfl, st_of upd_same, rfl, _, _, rfl, _, _, rfl, _, _, rfl, rfl, ?_⟩⟩⟩
      have eT := Ex.new (o := .tup [V.ref nn, .ref tn, .ref a1]) hT
      generalize upd HC T (.tup [V.ref nn, .ref tn, .ref a1]) = HD at eT ⊢
      dsimp only
      refine s_at [some (.ref p), some v1, some (.ref a), some ov, some (.ref cl), some ev, some (.ref ot), some (.ref lp), y8, y9, y10, y11, y12, y13, y14, y15, y16, some (.ref nn), some (.ref tn), some (.ref a1), none, none, none, none, none, none] rfl ?_
      have wB := w7.ex eAB
      have qB := eq7.ex eAB
      have gnB := eB _ _ gnn
      have eBD := eC.trans eT
      refine q_asg (v := .int 0) ev_c fun HE eE => ?_
      refine s_at [some (.ref p), some v1, some (.ref a), some ov, some (.ref cl), some ev, some (.ref ot), some (.ref lp), y8, y9, y10, y11, y12, y13, y14, y15, y16, some (.ref nn), some (.ref tn), some (.ref a1), some (.int 0), none, none, none, none, none] rfl ?_
      have eBE := eBD.trans eE
      have nl : (namesF st.1).length = st.1.length := by rw [namesF, List.length_map]
      refine q_forEv (K := K) (ev_var (i := 17) rfl) (sq_of (eBE _ _ gnB)) (fun j σ' H' => ∃ (y21 y22 : Option V), σ' = [some (.ref p), some v1, some (.ref a), some ov, some (.ref cl), some ev, some (.ref ot), some (.ref lp), y8, y9, y10, y11, y12, y13, y14, y15, y16, some (.ref nn), some (.ref tn), some (.ref a1), some (.int ((invJ (Lw.map (·.1)) j).length : Nat)), y21, y22, none, none, none] ∧ Ex HE H') (fun HF eF => ⟨none, none, rfl, eF⟩) (fun j σ' H' hj hW => by obtain ⟨_, _, _, h⟩ := hW; exact sq_of ((eBE.trans h) _ _ gnB)) (fun j x σ' H' T2 hx hW hT2 => ?_) (fun σ' H' hW => ?_)
      · obtain ⟨y21, y22, rfl, e1⟩ := hW
        rw [List.getElem?_map, Option.map_eq_some_iff] at hx
        obtain ⟨nj, hnj, rfl⟩ := hx
        have hjl : j < st.1.length := by
          have := (List.getElem?_eq_some_iff.mp hnj).1
          omega
        refine ⟨T2, _, rfl, st_of upd_same, rfl, _, _, rfl, _, _, rfl, rfl, ?_⟩
        have e2 := Ex.new (o := .tup [V.int (j : Nat), .int nj]) hT2
        generalize upd H' T2 (.tup [V.int (j : Nat), .int nj]) = HF at e2 ⊢
        dsimp only
        refine s_at [some (.ref p), some v1, some (.ref a), some ov, some (.ref cl), some ev, some (.ref ot), some (.ref lp), y8, y9, y10, y11, y12, y13, y14, y15, y16, some (.ref nn), some (.ref tn), some (.ref a1), some (.int ((invJ (Lw.map (·.1)) j).length : Nat)), some (.int (j : Int)), some (.int nj), none, none, none] rfl ?_
        have eBF := (eBE.trans e1).trans e2
        have at' : ∀ {k : Nat}, k < st.1.length → ∃ pk nk, (Lw.map (·.1))[pk]? = some k ∧ (namesF st.1)[k]? = some nk ∧ (Lw.map fun c => (namesF st.1).getD c.1 0)[pk]? = some nk := fun {k} hk => by
          obtain ⟨pk, h1⟩ := List.getElem?_of_mem (iL.mem_iff.mpr (List.mem_range.mpr (by rw [rowF_len]; exact hk)))
          have h2 : k < (namesF st.1).length := by omega
          refine ⟨pk, (namesF st.1)[k], h1, List.getElem?_eq_getElem h2, ?_⟩
          rw [List.getElem?_map, Option.map_eq_some_iff] at h1
          obtain ⟨c, hc, rfl⟩ := h1
          rw [List.getElem?_map, hc]
          show some ((namesF st.1).getD c.1 0) = _
          rw [List.getD_eq_getElem?_getD, List.getElem?_eq_getElem h2]
          rfl
        have ndt : (Lw.map fun c => (namesF st.1).getD c.1 0).Nodup := by
          have := names_led iL nd
          rw [led_names hL] at this
          exact this
        have cut : cutV ((namesF st.1).map V.int) none (some (j : Int)) = ((namesF st.1).take j).map V.int := by
          rw [cut_to, List.map_take]
        have slice : EvL (tSl (rSlL K) (tVar 17) tNoPart (tPart (tVar 21))) [some (.ref p), some v1, some (.ref a), some ov, some (.ref cl), some ev, some (.ref ot), some (.ref lp), y8, y9, y10, y11, y12, y13, y14, y15, y16, some (.ref nn), some (.ref tn), some (.ref a1), some (.int ((invJ (Lw.map (·.1)) j).length : Nat)), some (.int (j : Int)), some (.int nj), none, none, none] HF (((namesF st.1).take j).map V.int) := by
          rw [← cut]
          exact el_sl (K := K) (ev_var rfl) eo_none (eo_some (ev_var rfl)) (sq_of (eBF _ _ gnB))
        have lt : ((namesF st.1).take j).length = j := by rw [List.length_take]; omega
        refine s_asg (v := .int ((invJ (Lw.map (·.1)) (j + 1)).length : Nat)) (ev_is (ev_op (ev_var (i := 20) rfl) (ev_lenEL (el_keepI (i := 25) (vs := [25]) (fun i => bef (Lw.map (·.1)) j i) slice (by omega) (fun x => rfl) (fun x => rfl) (fun k x H1 e3 hk => ?_))) rv_I0) ?_) fun HG eG => ⟨_, _, rfl, (e1.trans e2).trans eG⟩
        · have hkj : k < j := by
            have := (List.getElem?_eq_some_iff.mp hk).1
            omega
          rw [List.getElem?_take_of_lt hkj] at hk
          obtain ⟨pj, mj, a1', a2, a3⟩ := at' hjl
          obtain ⟨pk, mk, b1', b2', b3'⟩ := at' (show k < st.1.length by omega)
          rw [hnj] at a2
          cases a2
          rw [hk] at b2'
          cases b2'
          have gt3 := (eBF.trans e3) _ _ gtn
          rw [bef_iff ndl a1' b1']
          refine et_test (ev_is (ev_op (ev_indexI (K := K) (ev_var (i := 18) rfl) (ev_var (i := 22) rfl) (sq_of gt3) a3 fun m hm h => by have := nodup_ix ndt a3 h; omega) (ev_indexI (K := K) (ev_var (i := 18) rfl) (ev_var (i := 25) rfl) (sq_of gt3) b3' fun m hm h => by have := nodup_ix ndt b3' h; omega) rv_I0) ?_)
          congr 1
          exact decide_eq_decide.mpr ⟨fun h => by omega, fun h => by omega⟩
        · rw [given_range, List.length_map, lt, invJ_succ]
          congr 1
      obtain ⟨y21, y22, rfl, eEF⟩ := hW
      rw [List.length_map, nl]
      have hcount : (invJ (Lw.map (·.1)) st.1.length).length = (tab (Lw.map (·.1)) (Lw.map (·.1)).length (Lw.map (·.1)).length).length := by
        have h1 : (Lw.map (·.1)).length = st.1.length := by
          have := iL.length_eq
          rw [List.length_range, rowF_len] at this
          exact this
        rw [h1]
        exact len_invJ hL
      rw [hcount]
      have eBF := eBE.trans eEF
      have t1F := t1.ex ((eT.trans eE).trans eEF)
      obtain ⟨lv1, pz1, i1, _, l1, _⟩ := id t1F
      refine ⟨.ref a1, rfl, a1, dx1, _, rfl, i1, rfl, a1, dx1, pl1, ml1, st, rfl, fc, t1F, k4, k5, k6, by omega, w7.ok.2.2.1, by omega, fun L' HG hM xG fG => ?_⟩
      dsimp only
      refine ⟨_, rfl, ?_⟩
      have eL : L' = Lw := nf_any (good_tag w7.ok.2.2.1).tl hM.1 (nfr_nf hM.2) sL nL
      subst eL
      dsimp only
      refine (rv_ne (x := .int ((tab (L'.map (·.1)) (L'.map (·.1)).length (L'.map (·.1)).length).length : Nat)) (y := .int ((tab (L'.map (·.1)) (L'.map (·.1)).length (L'.map (·.1)).length).length : Nat)) rfl) HG (Ex.refl _) _ ?_
      intro HH eH
      refine ⟨_, rfl, ?_⟩
      rw [if_neg (by rw [decide_eq_true rfl]; decide)]
      rw [moved_map] at fG
      have eBG := ex_fresh eBF xG (fresh_back (.refl _) k1) (fresh_back (.refl _) k2)
      have eBH := eBG.trans eH
      have wH := wB.ex eBH
      have qH := qB.ex eBH
      have fH := fG.ex eH
      generalize hst1 : turnF st (L'.map (mvC st.1)) st.2.1 = st1 at fH
      have lin1 : st1.1 = L'.map (mvC st.1) := by rw [← hst1]; rfl
      have rw1 : rowF st1.1 = rowsOf E' := by rw [lin1, row_led hL, kw.rows sL nL]
      have n1l : st1.1.length ≤ 1000 := by
        rw [lin1, List.length_map]
        have := iL.length_eq
        rw [List.length_map, List.length_range, rowF_len] at this
        omega
      have hE5 : E'.length = R.length := by
        have := qH.p.steps.idsT.length_eq
        rw [List.length_map, List.length_range] at this
        exact this
      refine (et_not (et_test (ev_sameX (k := 2) (d := rowD (rowF st1.1)) (ex_rowM fc fH (fun _ => ev_var (i := 19) rfl) n1l) (by
        rw [rw1]
        exact ex_row (er_val (ev_var (i := 5) rfl) qH.r)) (by rw [rw1]; exact (okV_row (k := 0) (by rw [rowsOf, List.length_map]; omega)).1))) : EvT (tNot (tB (tCall (spSame K 3) [] E0 (tCons (tMeth C "row" (spRowM K) [] E0 (tVar 19) tNil) (tCons (tVar 5) tNil))))) [some (.ref p), some v1, some (.ref a), some ov, some (.ref cl), some ev, some (.ref ot), some (.ref lp), y8, y9, y10, y11, y12, y13, y14, y15, y16, some (.ref nn), some (.ref tn), some (.ref a1), some (.int ((tab (L'.map (·.1)) (L'.map (·.1)).length (L'.map (·.1)).length).length : Nat)), y21, y22, none, none, none] HH (!true)) HH (Ex.refl _) _ fun HI eI => ?_
      rw [if_neg (show ¬ ((!true) = true) by decide)]
      unfold tNext
      dsimp only
      have eBI := eBH.trans eI
      have wI := wH.ex eI
      have qI := qH.ex eI
      have fI := fH.ex eI
      have nd1 : (namesF st1.1).Nodup := by rw [lin1]; exact names_led iL nd
      have lost := lost_all qI.p (by rw [tag_ids]; exact List.nodup_range)
      obtain ⟨pvs, gpv, bpv⟩ := qI.l
      have told := (qI.p.told wI.tl)
      have few : ps.length ≤ 2000 := by
        have h1 := told.2.1.few
        have h2 : R.length * R.length ≤ 14 * 14 := Nat.mul_le_mul hrl hrl
        omega
      refine q_forEv (K := K) (ev_var (i := 4) rfl) (sq_of wI.g) (fun j σ' H' => ∃ (y16 y22 y23 : Option V), σ' = [some (.ref p), some v1, some (.ref a), some ov, some (.ref cl), some ev, some (.ref ot), some (.ref lp), y8, y9, y10, y11, y12, y13, y14, y15, y16, some (.ref nn), some (.ref tn), some (.ref a1), some (.int ((tab (L'.map (·.1)) (L'.map (·.1)).length (L'.map (·.1)).length).length : Nat)), y21, y22, y23, none, none] ∧ Ex HI H') (fun HJ eJ => ⟨_, _, none, rfl, eJ⟩) (fun j σ' H' hj hW => by obtain ⟨_, _, _, _, h⟩ := hW; exact sq_of (h _ _ wI.g)) (fun j x σ' H' T2 hx hW hT2 => ?_) (fun σ' H' hW => ?_)
      · obtain ⟨y16, y22, y23, rfl, e1⟩ := hW
        rw [List.getElem?_map, Option.map_eq_some_iff] at hx
        obtain ⟨cj, hcj, rfl⟩ := hx
        have hjl : j < R.length := by
          have := (List.getElem?_eq_some_iff.mp hcj).1
          have := wI.cz
          omega
        refine ⟨T2, _, rfl, st_of upd_same, rfl, _, _, rfl, _, _, rfl, rfl, ?_⟩
        have e2 := Ex.new (o := .tup [V.int (j : Nat), .int cj]) hT2
        generalize upd H' T2 (.tup [V.int (j : Nat), .int cj]) = HJ at e2 ⊢
        dsimp only
        refine s_at [some (.ref p), some v1, some (.ref a), some ov, some (.ref cl), some ev, some (.ref ot), some (.ref lp), y8, y9, y10, y11, y12, y13, y14, y15, some (.int (j : Int)), some (.ref nn), some (.ref tn), some (.ref a1), some (.int ((tab (L'.map (·.1)) (L'.map (·.1)).length (L'.map (·.1)).length).length : Nat)), y21, some (.int cj), y23, none, none] rfl ?_
        have eJ := e1.trans e2
        have wJ := wI.ex eJ
        refine q_asg (v := .int (duesP R ps j).sum) (ev_sumL (el_dues (K := K) (i := 14) (j := 24) (iw := 16) (vs := [14, 24]) (ev_var (i := 7) rfl) (eJ _ _ gpv) (bpv.ex eJ) few (fun x y => rfl) (fun x y => rfl) (fun x y => rfl) (fun b H1 e3 hb => ?_))) fun HK eK => ?_
        · obtain ⟨i1, j1, h1, h2, h3⟩ := (told.1.mem b).mp hb
          have hi1 : i1 < R.length := by
            have := (told.1 |> fun t => (bef_mem h3))
            have h5 : ∀ x ∈ E'.map (·.1), x < R.length := fun x hx => List.mem_range.mp (qI.p.steps.idsT.mem_iff.mp hx)
            exact h5 _ this.2
          subst h2
          have hR := List.getElem?_eq_getElem hi1
          have hv : tS R ((i1 : Int)).toNat = (R[i1]).2 := by
            rw [Int.toNat_natCast]
            unfold tS
            rw [hR]
            rfl
          show Ev _ _ H1 (.int (tS R ((i1 : Int)).toNat))
          rw [hv]
          exact ev_tol (K := K) (j := i1) (ev_var (i := 3) rfl) (wJ.o.ex e3) (ev_var (i := 14) rfl) rfl hR
        refine s_at [some (.ref p), some v1, some (.ref a), some ov, some (.ref cl), some ev, some (.ref ot), some (.ref lp), y8, y9, y10, y11, y12, y13, y14, y15, some (.int (j : Int)), some (.ref nn), some (.ref tn), some (.ref a1), some (.int ((tab (L'.map (·.1)) (L'.map (·.1)).length (L'.map (·.1)).length).length : Nat)), y21, some (.int cj), some (.int (duesP R ps j).sum), none, none] rfl ?_
        have eIK := eJ.trans eK
        have wK := wI.ex eIK
        have qK := qI.ex eIK
        have fK := fI.ex eIK
        have hjE : j ∈ E'.map (·.1) := qI.p.steps.idsT.mem_iff.mpr (List.mem_range.mpr hjl)
        obtain ⟨pe, hpe⟩ := List.getElem?_of_mem hjE
        have hpe' := hpe
        rw [List.getElem?_map, Option.map_eq_some_iff] at hpe'
        obtain ⟨e, he, hej⟩ := hpe'
        have hem : e ∈ E' := List.mem_of_getElem? he
        obtain ⟨g1, g2⟩ := lost.2 e hem
        obtain ⟨p1, p2⟩ := kw.paid nd sL nL hem
        rw [hej] at g2 p1 p2
        have hcd : cs.getD j 0 = cj := by
          rw [List.getD_eq_getElem?_getD, hcj]
          rfl
        rw [hcd] at p1 p2
        rw [← lin1] at p1 p2
        have hRj := List.getElem?_eq_getElem hjl
        have hsj : sS R j = (R[j]).1 := by
          unfold sS
          rw [hRj]
          rfl
        have hEe : (rowsOf E')[pe]? = some e.2 := by
          unfold rowsOf
          rw [List.getElem?_map, he]
          rfl
        have ndE : (E'.map (·.1)).Nodup := lost.1
        refine s_when (et_or (a := false) (b := false) (et_test (ev_is (ev_op (ev_paidX fc (ev_var (i := 19) rfl) (ev_var (i := 22) rfl) fK nd1 n1l p2) (ev_var (i := 23) rfl) (rv_ne rfl)) ?_)) fun _ => et_test (ev_is (ev_op (ev_op (ev_str (K := K) (j := j) (ev_var (i := 3) rfl) wK.o (ev_var (i := 16) rfl) rfl hRj) (ev_var (i := 23) rfl) rv_I0) (ev_str (K := K) (j := pe) (ev_var (i := 5) rfl) qK.r (ev_index (ev_var (i := 6) rfl) qK.t ndE (ev_var (i := 16) rfl) hpe) rfl hEe) (rv_ne rfl)) ?_)) (fun z => by cases z) fun _ HL eL => ⟨_, _, _, rfl, eIK.trans eL⟩
        · rw [p1, g2]
          have : sS R j - (sS R j - (duesP R ps j).sum) = (duesP R ps j).sum := by omega
          rw [this, decide_eq_true rfl]
          rfl
        · rw [g2, hsj, decide_eq_true rfl]
          rfl
      · obtain ⟨y16, y22, y23, rfl, e1⟩ := hW
        have wZ := wI.ex e1
        exact s_ret ev_c fun HJ eJ => q HJ (x1.trans (wZ.w.x.trans (ExB.of eJ))) ((wZ.w.b.ex eJ).le (by omega))
end
end K77
set_option maxHeartbeats 0
namespace K77
open PySem PySem.Spec PyProof.Rows L2 Evl HH RZ
def d_is_number : He.DefD := ⟨("is_number", none), "is_number", "is_number", defArgs s_is_number, defBody s_is_number, defScope s_is_number, [], []⟩
def d_can_pass : He.DefD := ⟨("can_pass", none), "can_pass", "can_pass", defArgs s_can_pass, defBody s_can_pass, defScope s_can_pass, [], []⟩
def d_can_fall : He.DefD := ⟨("can_fall", none), "can_fall", "can_fall", defArgs s_can_fall, defBody s_can_fall, defScope s_can_fall, [], []⟩
def d_passed : He.DefD := ⟨("passed", none), "passed", "passed", defArgs s_passed, defBody s_passed, defScope s_passed, [], []⟩
def d_fallen : He.DefD := ⟨("fallen", none), "fallen", "fallen", defArgs s_fallen, defBody s_fallen, defScope s_fallen, [], []⟩
def d_swapped : He.DefD := ⟨("swapped", none), "swapped", "swapped", defArgs s_swapped, defBody s_swapped, defScope s_swapped, [], []⟩
def d_can_do : He.DefD := ⟨("can_do", none), "can_do", "can_do", defArgs s_can_do, defBody s_can_do, defScope s_can_do, [], []⟩
def d_led : He.DefD := ⟨("led", none), "led", "led", defArgs s_led, defBody s_led, defScope s_led, [], []⟩
def d_pass_all : He.DefD := ⟨("pass_all", none), "pass_all", "pass_all", defArgs s_pass_all, defBody s_pass_all, defScope s_pass_all, [], []⟩
def d_fall_all : He.DefD := ⟨("fall_all", none), "fall_all", "fall_all", defArgs s_fall_all, defBody s_fall_all, defScope s_fall_all, [], []⟩
def d_row_and_order : He.DefD := ⟨("row_and_order", none), "row_and_order", "row_and_order", defArgs s_row_and_order, defBody s_row_and_order, defScope s_row_and_order, [], []⟩
def d_last : He.DefD := ⟨("last", none), "last", "last", defArgs s_last, defBody s_last, defScope s_last, [], []⟩
def d_first : He.DefD := ⟨("first", none), "first", "first", defArgs s_first, defBody s_first, defScope s_first, [], []⟩
def d_places_of : He.DefD := ⟨("places_of", none), "places_of", "places_of", defArgs s_places_of, defBody s_places_of, defScope s_places_of, [], []⟩
def d_turned_about : He.DefD := ⟨("turned_about", none), "turned_about", "turned_about", defArgs s_turned_about, defBody s_turned_about, defScope s_turned_about, [], []⟩
def d_is_handed : He.DefD := ⟨("is_handed", none), "is_handed", "is_handed", defArgs s_is_handed, defBody s_is_handed, defScope s_is_handed, [], []⟩
def d_is_fold_deed : He.DefD := ⟨("is_fold_deed", none), "is_fold_deed", "is_fold_deed", defArgs s_is_fold_deed, defBody s_is_fold_deed, defScope s_is_fold_deed, [], []⟩
def d_refuse_bad_deeds : He.DefD := ⟨("refuse_bad_deeds", none), "refuse_bad_deeds", "refuse_bad_deeds", defArgs s_refuse_bad_deeds, defBody s_refuse_bad_deeds, defScope s_refuse_bad_deeds, [], []⟩
def d_moved : He.DefD := ⟨("moved", none), "moved", "moved", defArgs s_moved, defBody s_moved, defScope s_moved, [], []⟩
def d_law_dip : He.DefD := ⟨("_law_dip", none), "_law_dip", "_law_dip", defArgs s_law_dip, defBody s_law_dip, defScope s_law_dip, [], []⟩
def d_law_take : He.DefD := ⟨("_law_take", none), "_law_take", "_law_take", defArgs s_law_take, defBody s_law_take, defScope s_law_take, [], []⟩
def d_law_folded : He.DefD := ⟨("_law_folded", none), "_law_folded", "_law_folded", defArgs s_law_folded, defBody s_law_folded, defScope s_law_folded, [], []⟩
def d_law_same : He.DefD := ⟨("_law_same", none), "_law_same", "_law_same", defArgs s_law_same, defBody s_law_same, defScope s_law_same, [], []⟩
def d_law_of : He.DefD := ⟨("_law_of", none), "_law_of", "_law_of", defArgs s_law_of, defBody s_law_of, defScope s_law_of, [], []⟩
def d_law_row : He.DefD := ⟨("_law_row", none), "_law_row", "_law_row", defArgs s_law_row, defBody s_law_row, defScope s_law_row, [], []⟩
def d_law_lets : He.DefD := ⟨("_law_lets", none), "_law_lets", "_law_lets", defArgs s_law_lets, defBody s_law_lets, defScope s_law_lets, [], []⟩
def d_law_passed : He.DefD := ⟨("_law_passed", none), "_law_passed", "_law_passed", defArgs s_law_passed, defBody s_law_passed, defScope s_law_passed, [], []⟩
def d_law_ended : He.DefD := ⟨("_law_ended", none), "_law_ended", "_law_ended", defArgs s_law_ended, defBody s_law_ended, defScope s_law_ended, [], []⟩
def d_law_right : He.DefD := ⟨("_law_right", none), "_law_right", "_law_right", defArgs s_law_right, defBody s_law_right, defScope s_law_right, [], []⟩
def d_law : He.DefD := ⟨("law", none), "law", "law", defArgs s_law, defBody s_law, defScope s_law, [], []⟩
def d_ini_BadDeed : He.DefD := ⟨("BadDeed", some "__init__"), "__init__", "BadDeed.__init__", defArgs s_ini_BadDeed, defBody s_ini_BadDeed, defScope s_ini_BadDeed, [], []⟩
def d_ini_NoBeast : He.DefD := ⟨("NoBeast", some "__init__"), "__init__", "NoBeast.__init__", defArgs s_ini_NoBeast, defBody s_ini_NoBeast, defScope s_ini_NoBeast, [], []⟩
def d_ini_NoPlace : He.DefD := ⟨("NoPlace", some "__init__"), "__init__", "NoPlace.__init__", defArgs s_ini_NoPlace, defBody s_ini_NoPlace, defScope s_ini_NoPlace, [], []⟩
def d_ini_MayNot : He.DefD := ⟨("MayNot", some "__init__"), "__init__", "MayNot.__init__", defArgs s_ini_MayNot, defBody s_ini_MayNot, defScope s_ini_MayNot, [], []⟩
def d_ini_NotLet : He.DefD := ⟨("NotLet", some "__init__"), "__init__", "NotLet.__init__", defArgs s_ini_NotLet, defBody s_ini_NotLet, defScope s_ini_NotLet, [], []⟩
def d_ini_Full : He.DefD := ⟨("Full", some "__init__"), "__init__", "Full.__init__", defArgs s_ini_Full, defBody s_ini_Full, defScope s_ini_Full, [], []⟩
def d_Fold___init : He.DefD := ⟨("Fold", some "__init__"), "__init__", "Fold.__init__", defArgs s_Fold___init, defBody s_Fold___init, defScope s_Fold___init, [], []⟩
def d_Fold___len : He.DefD := ⟨("Fold", some "__len__"), "__len__", "Fold.__len__", defArgs s_Fold___len, defBody s_Fold___len, defScope s_Fold___len, [], []⟩
def d_Fold_turn : He.DefD := ⟨("Fold", some "turn"), "turn", "Fold.turn", defArgs s_Fold_turn, defBody s_Fold_turn, defScope s_Fold_turn, [], []⟩
def d_Fold_put_at : He.DefD := ⟨("Fold", some "put_at"), "put_at", "Fold.put_at", defArgs s_Fold_put_at, defBody s_Fold_put_at, defScope s_Fold_put_at, [], []⟩
def d_Fold_move : He.DefD := ⟨("Fold", some "move"), "move", "Fold.move", defArgs s_Fold_move, defBody s_Fold_move, defScope s_Fold_move, [], []⟩
def d_Fold_place_of : He.DefD := ⟨("Fold", some "place_of"), "place_of", "Fold.place_of", defArgs s_Fold_place_of, defBody s_Fold_place_of, defScope s_Fold_place_of, [], []⟩
def d_Fold_come : He.DefD := ⟨("Fold", some "come"), "come", "Fold.come", defArgs s_Fold_come, defBody s_Fold_come, defScope s_Fold_come, [], [("place", .non)]⟩
def d_Fold_leave : He.DefD := ⟨("Fold", some "leave"), "leave", "Fold.leave", defArgs s_Fold_leave, defBody s_Fold_leave, defScope s_Fold_leave, [], []⟩
def d_Fold_overtake : He.DefD := ⟨("Fold", some "overtake"), "overtake", "Fold.overtake", defArgs s_Fold_overtake, defBody s_Fold_overtake, defScope s_Fold_overtake, [], []⟩
def d_Fold_fall_back : He.DefD := ⟨("Fold", some "fall_back"), "fall_back", "Fold.fall_back", defArgs s_Fold_fall_back, defBody s_Fold_fall_back, defScope s_Fold_fall_back, [], []⟩
def d_Fold_feed : He.DefD := ⟨("Fold", some "feed"), "feed", "Fold.feed", defArgs s_Fold_feed, defBody s_Fold_feed, defScope s_Fold_feed, [], []⟩
def d_Fold_ask : He.DefD := ⟨("Fold", some "ask"), "ask", "Fold.ask", defArgs s_Fold_ask, defBody s_Fold_ask, defScope s_Fold_ask, [], []⟩
def d_Fold_settle : He.DefD := ⟨("Fold", some "settle"), "settle", "Fold.settle", defArgs s_Fold_settle, defBody s_Fold_settle, defScope s_Fold_settle, [], []⟩
def d_Fold_unsettle : He.DefD := ⟨("Fold", some "unsettle"), "unsettle", "Fold.unsettle", defArgs s_Fold_unsettle, defBody s_Fold_unsettle, defScope s_Fold_unsettle, [], []⟩
def d_Fold_undo : He.DefD := ⟨("Fold", some "undo"), "undo", "Fold.undo", defArgs s_Fold_undo, defBody s_Fold_undo, defScope s_Fold_undo, [], []⟩
def d_Fold_do_one : He.DefD := ⟨("Fold", some "do_one"), "do_one", "Fold.do_one", defArgs s_Fold_do_one, defBody s_Fold_do_one, defScope s_Fold_do_one, [], []⟩
def d_Fold_do : He.DefD := ⟨("Fold", some "do"), "do", "Fold.do", defArgs s_Fold_do, defBody s_Fold_do, defScope s_Fold_do, [], [("whole", .bl true)]⟩
def d_Fold_row : He.DefD := ⟨("Fold", some "row"), "row", "Fold.row", defArgs s_Fold_row, defBody s_Fold_row, defScope s_Fold_row, [], []⟩
def d_Fold_names : He.DefD := ⟨("Fold", some "names"), "names", "Fold.names", defArgs s_Fold_names, defBody s_Fold_names, defScope s_Fold_names, [], []⟩
def d_Fold_may_pass : He.DefD := ⟨("Fold", some "may_pass"), "may_pass", "Fold.may_pass", defArgs s_Fold_may_pass, defBody s_Fold_may_pass, defScope s_Fold_may_pass, [], []⟩
def d_Fold_may_fall : He.DefD := ⟨("Fold", some "may_fall"), "may_fall", "Fold.may_fall", defArgs s_Fold_may_fall, defBody s_Fold_may_fall, defScope s_Fold_may_fall, [], []⟩
def d_Fold_last_names : He.DefD := ⟨("Fold", some "last_names"), "last_names", "Fold.last_names", defArgs s_Fold_last_names, defBody s_Fold_last_names, defScope s_Fold_last_names, [], []⟩
def d_Fold_paid : He.DefD := ⟨("Fold", some "paid"), "paid", "Fold.paid", defArgs s_Fold_paid, defBody s_Fold_paid, defScope s_Fold_paid, [], []⟩
def d_Fold_deeds : He.DefD := ⟨("Fold", some "deeds"), "deeds", "Fold.deeds", defArgs s_Fold_deeds, defBody s_Fold_deeds, defScope s_Fold_deeds, [], []⟩
def d_Fold_twin : He.DefD := ⟨("Fold", some "twin"), "twin", "Fold.twin", defArgs s_Fold_twin, defBody s_Fold_twin, defScope s_Fold_twin, [], []⟩
def fnsL : List He.DefD := [d_is_number, d_can_pass, d_can_fall, d_passed, d_fallen, d_swapped, d_can_do, d_led, d_pass_all, d_fall_all, d_row_and_order, d_last, d_first, d_places_of, d_turned_about, d_is_handed, d_is_fold_deed, d_refuse_bad_deeds, d_moved, d_law_dip, d_law_take, d_law_folded, d_law_same, d_law_of, d_law_row, d_law_lets, d_law_passed, d_law_ended, d_law_right, d_law, d_ini_BadDeed, d_ini_NoBeast, d_ini_NoPlace, d_ini_MayNot, d_ini_NotLet, d_ini_Full, d_Fold___init, d_Fold___len, d_Fold_turn, d_Fold_put_at, d_Fold_move, d_Fold_place_of, d_Fold_come, d_Fold_leave, d_Fold_overtake, d_Fold_fall_back, d_Fold_feed, d_Fold_ask, d_Fold_settle, d_Fold_unsettle, d_Fold_undo, d_Fold_do_one, d_Fold_do, d_Fold_row, d_Fold_names, d_Fold_may_pass, d_Fold_may_fall, d_Fold_last_names, d_Fold_paid, d_Fold_deeds, d_Fold_twin]
def faL : List He.Fa := [.glo "is_number", .glo "can_pass", .glo "can_fall", .glo "passed", .glo "fallen", .glo "swapped", .glo "can_do", .glo "led", .glo "pass_all", .glo "fall_all", .glo "row_and_order", .glo "last", .glo "first", .glo "places_of", .glo "turned_about", .glo "is_handed", .glo "is_fold_deed", .glo "refuse_bad_deeds", .glo "moved", .glo "_law_dip", .glo "_law_take", .glo "_law_folded", .glo "_law_same", .glo "_law_of", .glo "_law_row", .glo "_law_lets", .glo "_law_passed", .glo "_law_ended", .glo "_law_right", .glo "law", .free "LookupError", .free "OverflowError", .free "RuntimeError", .free "ValueError", .free "abs", .free "all", .free "bool", .free "enumerate", .free "int", .free "isinstance", .free "len", .free "list", .free "max", .free "range", .free "reversed", .free "sorted", .free "str", .free "sum", .free "tuple", .free "zip", .glo "BadDeed", .glo "NoBeast", .glo "NoPlace", .glo "MayNot", .glo "NotLet", .glo "Full", .cls "Fold", .glo "Fold", .mkr "Fold", .noat "Fold" "line", .noat "Fold" "coming", .noat "Fold" "past", .noat "Fold" "marks", .meth "Fold" "__len__", .meth "Fold" "turn", .meth "Fold" "put_at", .meth "Fold" "move", .meth "Fold" "place_of", .meth "Fold" "come", .meth "Fold" "leave", .meth "Fold" "overtake", .meth "Fold" "fall_back", .meth "Fold" "feed", .meth "Fold" "ask", .meth "Fold" "settle", .meth "Fold" "unsettle", .meth "Fold" "undo", .meth "Fold" "do_one", .meth "Fold" "do", .meth "Fold" "row", .meth "Fold" "names", .meth "Fold" "may_pass", .meth "Fold" "may_fall", .meth "Fold" "last_names", .meth "Fold" "paid", .meth "Fold" "deeds", .meth "Fold" "twin", .int "MOST" 24, .glo "HANDED"]
def exK (K : PySem.W.Frag) : Bool := exTyB K .val "number" (He.ga K "BadDeed") (He.ma K (He.ga K "BadDeed") "__init__") && (exTyB K .look "name" (He.ga K "NoBeast") (He.ma K (He.ga K "NoBeast") "__init__") && (exTyB K .look "place" (He.ga K "NoPlace") (He.ma K (He.ga K "NoPlace") "__init__") && (exTyB K .run "place" (He.ga K "MayNot") (He.ma K (He.ga K "MayNot") "__init__") && (exTyB K .run "number" (He.ga K "NotLet") (He.ma K (He.ga K "NotLet") "__init__") && (exTyB K .over "many" (He.ga K "Full") (He.ma K (He.ga K "Full") "__init__") && (decide (PySem.W.exmAny K (.ref (He.ga K "Full")) [.ref (He.ga K "Full"), .ref (He.ga K "NoPlace"), .ref (He.ga K "NoBeast"), .ref (He.ga K "MayNot")] = some true) && (decide (PySem.W.exmAny K (.ref (He.ga K "NoPlace")) [.ref (He.ga K "Full"), .ref (He.ga K "NoPlace"), .ref (He.ga K "NoBeast"), .ref (He.ga K "MayNot")] = some true) && (decide (PySem.W.exmAny K (.ref (He.ga K "NoBeast")) [.ref (He.ga K "Full"), .ref (He.ga K "NoPlace"), .ref (He.ga K "NoBeast"), .ref (He.ga K "MayNot")] = some true) && (decide (PySem.W.exmAny K (.ref (He.ga K "MayNot")) [.ref (He.ga K "Full"), .ref (He.ga K "NoPlace"), .ref (He.ga K "NoBeast"), .ref (He.ga K "MayNot")] = some true) && (He.valsB K (He.ga K "HANDED") (handedL.map fun q => (q.1, .str q.2))))))))))))
abbrev R : PySem.W.OpenRow := PySem.W.OpenLaw.row PySem.Challenge.rw_hayherd_k77_whole_come_ahead_and_behind
abbrev hk : PySem.W.Hook := He.hookX 4 faL fnsL [(fun K => He.ga K "HANDED", handedL.map fun q => q.1)] [] exK
def ob (s : PySem.W.SharedT) : He.AlX := He.obsX 4 faL fnsL [(fun K => He.ga K "HANDED", handedL.map fun q => q.1)] [] exK (HandSHeadRun.getT s)
theorem ob_eq (s : PySem.W.SharedT) : ob s = hk.obs s.abs := He.obsX_eq (HandSHeadRun.getT_eq s)
def loose0 : List PySem.Str := ["BadDeed", "NoBeast", "NoPlace", "MayNot", "NotLet", "Full", "Fold", "MOST", "HANDED", "is_number", "can_pass", "can_fall", "passed", "fallen", "swapped", "can_do", "led", "pass_all", "fall_all", "row_and_order", "last", "first"]
def loose1 : List PySem.Str := ["places_of", "turned_about", "is_handed", "is_fold_deed", "refuse_bad_deeds", "moved", "_law_dip", "_law_take", "_law_folded", "_law_same", "_law_of", "_law_row", "_law_lets", "_law_passed", "_law_ended", "_law_right"]
def loose : List PySem.Str := loose0 ++ loose1
theorem runfalse (w : World) : HandSHeadRun.RunEq R (PySem.W.view R.prog [43]) hk ob 6000 loose (w.withFollow "special-get-raises" false) := by
  intro os
  kernel_rfl
theorem runtrue (w : World) : HandSHeadRun.RunEq R (PySem.W.view R.prog [43]) hk ob 6000 loose (w.withFollow "special-get-raises" true) := by
  intro os
  kernel_rfl
theorem run (w : World) : HandSHeadRun.RunEq R (PySem.W.view R.prog [43]) hk ob 6000 loose w := PySem.W.byRow2 "special-get-raises" (P := fun w => HandSHeadRun.RunEq R (PySem.W.view R.prog [43]) hk ob 6000 loose w) runfalse runtrue w
end K77
set_option maxHeartbeats 0
namespace K77
open PySem PySem.Spec PyProof.Rows L2 Evl HH RZ
theorem facts {P : Program} {w : World} {K : PySem.W.Frag} {h : Heap} {mg : Str → Option Value} {f : Addr} (X : K.In h) (G : h.Ns mainGlobals mg) (hfa : mg ("law" : Str) = some (.ref f)) {h0 : Heap} (cx : He.SaysX faL fnsL [(fun K => He.ga K "HANDED", handedL.map fun q => q.1)] [] exK w h0 K) :
    ∃ fd : FuncData, (∀ (s : Shared) (v : Value), BindsTo s fd ⟨[v], []⟩ [("_law_script", v)]) ∧ ∀ base : Heap, K.In base → base.Ns mainGlobals mg → FnOk P w K mg base CX0 9 f fd ["_law_script"] (spLaw K) := by
  have c := cx.t.d
  obtain ⟨fd_is_number, F_is_number⟩ := c.def_ 0 (d := d_is_number) rfl
  have g_is_number := He.glo_ok X G (c.fact 0 (f := .glo "is_number") rfl)
  have b_is_number : Binds K fd_is_number ["thing"] [] := F_is_number.bindsN fun _ _ _ _ _ _ us hl => match us, hl with | [_], _ => rfl
  obtain ⟨fd_can_pass, F_can_pass⟩ := c.def_ 1 (d := d_can_pass) rfl
  have g_can_pass := He.glo_ok X G (c.fact 1 (f := .glo "can_pass") rfl)
  have b_can_pass : Binds K fd_can_pass ["row", "place"] [] := F_can_pass.bindsN fun _ _ _ _ _ _ us hl => match us, hl with | [_, _], _ => rfl
  obtain ⟨fd_can_fall, F_can_fall⟩ := c.def_ 2 (d := d_can_fall) rfl
  have g_can_fall := He.glo_ok X G (c.fact 2 (f := .glo "can_fall") rfl)
  have b_can_fall : Binds K fd_can_fall ["row", "place"] [] := F_can_fall.bindsN fun _ _ _ _ _ _ us hl => match us, hl with | [_, _], _ => rfl
  obtain ⟨fd_passed, F_passed⟩ := c.def_ 3 (d := d_passed) rfl
  have g_passed := He.glo_ok X G (c.fact 3 (f := .glo "passed") rfl)
  have b_passed : Binds K fd_passed ["row", "place"] [] := F_passed.bindsN fun _ _ _ _ _ _ us hl => match us, hl with | [_, _], _ => rfl
  obtain ⟨fd_fallen, F_fallen⟩ := c.def_ 4 (d := d_fallen) rfl
  have g_fallen := He.glo_ok X G (c.fact 4 (f := .glo "fallen") rfl)
  have b_fallen : Binds K fd_fallen ["row", "place"] [] := F_fallen.bindsN fun _ _ _ _ _ _ us hl => match us, hl with | [_, _], _ => rfl
  obtain ⟨fd_swapped, F_swapped⟩ := c.def_ 5 (d := d_swapped) rfl
  have g_swapped := He.glo_ok X G (c.fact 5 (f := .glo "swapped") rfl)
  have b_swapped : Binds K fd_swapped ["order", "place"] [] := F_swapped.bindsN fun _ _ _ _ _ _ us hl => match us, hl with | [_, _], _ => rfl
  obtain ⟨fd_can_do, F_can_do⟩ := c.def_ 6 (d := d_can_do) rfl
  have g_can_do := He.glo_ok X G (c.fact 6 (f := .glo "can_do") rfl)
  have b_can_do : Binds K fd_can_do ["row", "word", "place"] [] := F_can_do.bindsN fun _ _ _ _ _ _ us hl => match us, hl with | [_, _, _], _ => rfl
  obtain ⟨fd_led, F_led⟩ := c.def_ 7 (d := d_led) rfl
  have g_led := He.glo_ok X G (c.fact 7 (f := .glo "led") rfl)
  have b_led : Binds K fd_led ["row", "deeds"] [] := F_led.bindsN fun _ _ _ _ _ _ us hl => match us, hl with | [_, _], _ => rfl
  obtain ⟨fd_pass_all, F_pass_all⟩ := c.def_ 8 (d := d_pass_all) rfl
  have g_pass_all := He.glo_ok X G (c.fact 8 (f := .glo "pass_all") rfl)
  have b_pass_all : Binds K fd_pass_all ["line", "strengths", "tolls", "who"] [] := F_pass_all.bindsN fun _ _ _ _ _ _ us hl => match us, hl with | [_, _, _, _], _ => rfl
  obtain ⟨fd_fall_all, F_fall_all⟩ := c.def_ 9 (d := d_fall_all) rfl
  have g_fall_all := He.glo_ok X G (c.fact 9 (f := .glo "fall_all") rfl)
  have b_fall_all : Binds K fd_fall_all ["line", "strengths", "tolls", "who"] [] := F_fall_all.bindsN fun _ _ _ _ _ _ us hl => match us, hl with | [_, _, _, _], _ => rfl
  obtain ⟨fd_row_and_order, F_row_and_order⟩ := c.def_ 10 (d := d_row_and_order) rfl
  have g_row_and_order := He.glo_ok X G (c.fact 10 (f := .glo "row_and_order") rfl)
  have b_row_and_order : Binds K fd_row_and_order ["line", "strengths", "tolls"] [] := F_row_and_order.bindsN fun _ _ _ _ _ _ us hl => match us, hl with | [_, _, _], _ => rfl
  obtain ⟨fd_last, F_last⟩ := c.def_ 11 (d := d_last) rfl
  have g_last := He.glo_ok X G (c.fact 11 (f := .glo "last") rfl)
  have b_last : Binds K fd_last ["row"] [] := F_last.bindsN fun _ _ _ _ _ _ us hl => match us, hl with | [_], _ => rfl
  obtain ⟨fd_first, F_first⟩ := c.def_ 12 (d := d_first) rfl
  have g_first := He.glo_ok X G (c.fact 12 (f := .glo "first") rfl)
  have b_first : Binds K fd_first ["row"] [] := F_first.bindsN fun _ _ _ _ _ _ us hl => match us, hl with | [_], _ => rfl
  obtain ⟨fd_places_of, F_places_of⟩ := c.def_ 13 (d := d_places_of) rfl
  have g_places_of := He.glo_ok X G (c.fact 13 (f := .glo "places_of") rfl)
  have b_places_of : Binds K fd_places_of ["order"] [] := F_places_of.bindsN fun _ _ _ _ _ _ us hl => match us, hl with | [_], _ => rfl
  obtain ⟨fd_turned_about, F_turned_about⟩ := c.def_ 14 (d := d_turned_about) rfl
  have g_turned_about := He.glo_ok X G (c.fact 14 (f := .glo "turned_about") rfl)
  have b_turned_about : Binds K fd_turned_about ["order"] [] := F_turned_about.bindsN fun _ _ _ _ _ _ us hl => match us, hl with | [_], _ => rfl
  obtain ⟨fd_is_handed, F_is_handed⟩ := c.def_ 15 (d := d_is_handed) rfl
  have g_is_handed := He.glo_ok X G (c.fact 15 (f := .glo "is_handed") rfl)
  have b_is_handed : Binds K fd_is_handed ["kind", "thing"] [] := F_is_handed.bindsN fun _ _ _ _ _ _ us hl => match us, hl with | [_, _], _ => rfl
  obtain ⟨fd_is_fold_deed, F_is_fold_deed⟩ := c.def_ 16 (d := d_is_fold_deed) rfl
  have g_is_fold_deed := He.glo_ok X G (c.fact 16 (f := .glo "is_fold_deed") rfl)
  have b_is_fold_deed : Binds K fd_is_fold_deed ["thing"] [] := F_is_fold_deed.bindsN fun _ _ _ _ _ _ us hl => match us, hl with | [_], _ => rfl
  obtain ⟨fd_refuse_bad_deeds, F_refuse_bad_deeds⟩ := c.def_ 17 (d := d_refuse_bad_deeds) rfl
  have g_refuse_bad_deeds := He.glo_ok X G (c.fact 17 (f := .glo "refuse_bad_deeds") rfl)
  have b_refuse_bad_deeds : Binds K fd_refuse_bad_deeds ["deeds"] [] := F_refuse_bad_deeds.bindsN fun _ _ _ _ _ _ us hl => match us, hl with | [_], _ => rfl
  obtain ⟨fd_moved, F_moved⟩ := c.def_ 18 (d := d_moved) rfl
  have g_moved := He.glo_ok X G (c.fact 18 (f := .glo "moved") rfl)
  have b_moved : Binds K fd_moved ["line", "end"] [] := F_moved.bindsN fun _ _ _ _ _ _ us hl => match us, hl with | [_, _], _ => rfl
  obtain ⟨fd_law_dip, F_law_dip⟩ := c.def_ 19 (d := d_law_dip) rfl
  have g_law_dip := He.glo_ok X G (c.fact 19 (f := .glo "_law_dip") rfl)
  have b_law_dip : Binds K fd_law_dip ["_law_script", "_law_k"] [] := F_law_dip.bindsN fun _ _ _ _ _ _ us hl => match us, hl with | [_, _], _ => rfl
  obtain ⟨fd_law_take, F_law_take⟩ := c.def_ 20 (d := d_law_take) rfl
  have g_law_take := He.glo_ok X G (c.fact 20 (f := .glo "_law_take") rfl)
  have b_law_take : Binds K fd_law_take ["_law_box", "_law_many"] [] := F_law_take.bindsN fun _ _ _ _ _ _ us hl => match us, hl with | [_, _], _ => rfl
  obtain ⟨fd_law_folded, F_law_folded⟩ := c.def_ 21 (d := d_law_folded) rfl
  have g_law_folded := He.glo_ok X G (c.fact 21 (f := .glo "_law_folded") rfl)
  have b_law_folded : Binds K fd_law_folded ["_law_script", "_law_many"] [] := F_law_folded.bindsN fun _ _ _ _ _ _ us hl => match us, hl with | [_, _], _ => rfl
  obtain ⟨fd_law_same, F_law_same⟩ := c.def_ 22 (d := d_law_same) rfl
  have g_law_same := He.glo_ok X G (c.fact 22 (f := .glo "_law_same") rfl)
  have b_law_same : Binds K fd_law_same ["_law_found", "_law_due"] [] := F_law_same.bindsN fun _ _ _ _ _ _ us hl => match us, hl with | [_, _], _ => rfl
  obtain ⟨fd_law_of, F_law_of⟩ := c.def_ 23 (d := d_law_of) rfl
  have g_law_of := He.glo_ok X G (c.fact 23 (f := .glo "_law_of") rfl)
  have b_law_of : Binds K fd_law_of ["_law_box", "_law_pool"] [] := F_law_of.bindsN fun _ _ _ _ _ _ us hl => match us, hl with | [_, _], _ => rfl
  obtain ⟨fd_law_row, F_law_row⟩ := c.def_ 24 (d := d_law_row) rfl
  have g_law_row := He.glo_ok X G (c.fact 24 (f := .glo "_law_row") rfl)
  have b_law_row : Binds K fd_law_row ["_law_box", "_law_most"] [] := F_law_row.bindsN fun _ _ _ _ _ _ us hl => match us, hl with | [_, _], _ => rfl
  obtain ⟨fd_law_lets, F_law_lets⟩ := c.def_ 25 (d := d_law_lets) rfl
  have g_law_lets := He.glo_ok X G (c.fact 25 (f := .glo "_law_lets") rfl)
  have b_law_lets : Binds K fd_law_lets ["_law_row_here", "_law_place"] [] := F_law_lets.bindsN fun _ _ _ _ _ _ us hl => match us, hl with | [_, _], _ => rfl
  obtain ⟨fd_law_passed, F_law_passed⟩ := c.def_ 26 (d := d_law_passed) rfl
  have g_law_passed := He.glo_ok X G (c.fact 26 (f := .glo "_law_passed") rfl)
  have b_law_passed : Binds K fd_law_passed ["_law_row_here", "_law_place"] [] := F_law_passed.bindsN fun _ _ _ _ _ _ us hl => match us, hl with | [_, _], _ => rfl
  obtain ⟨fd_law_ended, F_law_ended⟩ := c.def_ 27 (d := d_law_ended) rfl
  have g_law_ended := He.glo_ok X G (c.fact 27 (f := .glo "_law_ended") rfl)
  have b_law_ended : Binds K fd_law_ended ["_law_box", "_law_row_here"] [] := F_law_ended.bindsN fun _ _ _ _ _ _ us hl => match us, hl with | [_, _], _ => rfl
  obtain ⟨fd_law_right, F_law_right⟩ := c.def_ 28 (d := d_law_right) rfl
  have g_law_right := He.glo_ok X G (c.fact 28 (f := .glo "_law_right") rfl)
  have b_law_right : Binds K fd_law_right ["_law_box"] [] := F_law_right.bindsN fun _ _ _ _ _ _ us hl => match us, hl with | [_], _ => rfl
  obtain ⟨fd_law, F_law⟩ := c.def_ 29 (d := d_law) rfl
  have m_LookupError := He.free_ok X G (c.fact 30 (f := .free "LookupError") rfl)
  have m_OverflowError := He.free_ok X G (c.fact 31 (f := .free "OverflowError") rfl)
  have m_RuntimeError := He.free_ok X G (c.fact 32 (f := .free "RuntimeError") rfl)
  have m_ValueError := He.free_ok X G (c.fact 33 (f := .free "ValueError") rfl)
  have m_abs := He.free_ok X G (c.fact 34 (f := .free "abs") rfl)
  have m_all := He.free_ok X G (c.fact 35 (f := .free "all") rfl)
  have m_bool := He.free_ok X G (c.fact 36 (f := .free "bool") rfl)
  have m_enumerate := He.free_ok X G (c.fact 37 (f := .free "enumerate") rfl)
  have m_int := He.free_ok X G (c.fact 38 (f := .free "int") rfl)
  have m_isinstance := He.free_ok X G (c.fact 39 (f := .free "isinstance") rfl)
  have m_len := He.free_ok X G (c.fact 40 (f := .free "len") rfl)
  have m_list := He.free_ok X G (c.fact 41 (f := .free "list") rfl)
  have m_max := He.free_ok X G (c.fact 42 (f := .free "max") rfl)
  have m_range := He.free_ok X G (c.fact 43 (f := .free "range") rfl)
  have m_reversed := He.free_ok X G (c.fact 44 (f := .free "reversed") rfl)
  have m_sorted := He.free_ok X G (c.fact 45 (f := .free "sorted") rfl)
  have m_str := He.free_ok X G (c.fact 46 (f := .free "str") rfl)
  have m_sum := He.free_ok X G (c.fact 47 (f := .free "sum") rfl)
  have m_tuple := He.free_ok X G (c.fact 48 (f := .free "tuple") rfl)
  have m_zip := He.free_ok X G (c.fact 49 (f := .free "zip") rfl)
  have mm : exK K = true := cx.more
  unfold exK at mm
  obtain ⟨T0_BadDeed, mm⟩ := band mm
  obtain ⟨T0_NoBeast, mm⟩ := band mm
  obtain ⟨T0_NoPlace, mm⟩ := band mm
  obtain ⟨T0_MayNot, mm⟩ := band mm
  obtain ⟨T0_NotLet, mm⟩ := band mm
  obtain ⟨T0_Full, mm⟩ := band mm
  obtain ⟨D_kd1, mm⟩ := band mm
  obtain ⟨D_kd2, mm⟩ := band mm
  obtain ⟨D_kd3, mm⟩ := band mm
  obtain ⟨D_kd4, mm⟩ := band mm
  have V_HANDED := mm
  have kd1 := of_decide_eq_true D_kd1
  have kd2 := of_decide_eq_true D_kd2
  have kd3 := of_decide_eq_true D_kd3
  have kd4 := of_decide_eq_true D_kd4
  obtain ⟨fd_ini_BadDeed, F_ini_BadDeed⟩ := c.def_ 30 (d := d_ini_BadDeed) rfl
  have g_BadDeed := He.glo_ok X G (c.fact 50 (f := .glo "BadDeed") rfl)
  have b_ini_BadDeed : Binds K fd_ini_BadDeed ["self", "number"] [] := F_ini_BadDeed.bindsN fun _ _ _ _ _ _ us hl => match us, hl with | [_, _], _ => rfl
  have T_BadDeed := exTyB_ok T0_BadDeed (by kernel_rfl)
  obtain ⟨fd_ini_NoBeast, F_ini_NoBeast⟩ := c.def_ 31 (d := d_ini_NoBeast) rfl
  have g_NoBeast := He.glo_ok X G (c.fact 51 (f := .glo "NoBeast") rfl)
  have b_ini_NoBeast : Binds K fd_ini_NoBeast ["self", "name"] [] := F_ini_NoBeast.bindsN fun _ _ _ _ _ _ us hl => match us, hl with | [_, _], _ => rfl
  have T_NoBeast := exTyB_ok T0_NoBeast (by kernel_rfl)
  obtain ⟨fd_ini_NoPlace, F_ini_NoPlace⟩ := c.def_ 32 (d := d_ini_NoPlace) rfl
  have g_NoPlace := He.glo_ok X G (c.fact 52 (f := .glo "NoPlace") rfl)
  have b_ini_NoPlace : Binds K fd_ini_NoPlace ["self", "place"] [] := F_ini_NoPlace.bindsN fun _ _ _ _ _ _ us hl => match us, hl with | [_, _], _ => rfl
  have T_NoPlace := exTyB_ok T0_NoPlace (by kernel_rfl)
  obtain ⟨fd_ini_MayNot, F_ini_MayNot⟩ := c.def_ 33 (d := d_ini_MayNot) rfl
  have g_MayNot := He.glo_ok X G (c.fact 53 (f := .glo "MayNot") rfl)
  have b_ini_MayNot : Binds K fd_ini_MayNot ["self", "place"] [] := F_ini_MayNot.bindsN fun _ _ _ _ _ _ us hl => match us, hl with | [_, _], _ => rfl
  have T_MayNot := exTyB_ok T0_MayNot (by kernel_rfl)
  obtain ⟨fd_ini_NotLet, F_ini_NotLet⟩ := c.def_ 34 (d := d_ini_NotLet) rfl
  have g_NotLet := He.glo_ok X G (c.fact 54 (f := .glo "NotLet") rfl)
  have b_ini_NotLet : Binds K fd_ini_NotLet ["self", "number"] [] := F_ini_NotLet.bindsN fun _ _ _ _ _ _ us hl => match us, hl with | [_, _], _ => rfl
  have T_NotLet := exTyB_ok T0_NotLet (by kernel_rfl)
  obtain ⟨fd_ini_Full, F_ini_Full⟩ := c.def_ 35 (d := d_ini_Full) rfl
  have g_Full := He.glo_ok X G (c.fact 55 (f := .glo "Full") rfl)
  have b_ini_Full : Binds K fd_ini_Full ["self", "many"] [] := F_ini_Full.bindsN fun _ _ _ _ _ _ us hl => match us, hl with | [_, _], _ => rfl
  have T_Full := exTyB_ok T0_Full (by kernel_rfl)
  have e := hfa.symm.trans (He.glo_ok X G (c.fact 29 (f := .glo "law") rfl))
  cases e
  have bl := FunD.bindsA (ps := ["_law_script"]) F_law fun _ _ _ _ _ _ us hl => match us, hl with | [_], _ => rfl
  refine ⟨fd_law, fun s v => bl s [v] rfl, fun base _ _ => ?_⟩
  have cls_Fold := He.cls_ok (c.fact 56 (f := .cls "Fold") rfl)
  have g_Fold := He.glo_ok X G (c.fact 57 (f := .glo "Fold") rfl)
  have mk_Fold := He.mkr_ok (c.fact 58 (f := .mkr "Fold") rfl)
  have fc : FoldC K (He.ga K "Fold") := ⟨cls_Fold, He.noat_ok (c.fact 59 (f := .noat "Fold" "line") rfl), He.noat_ok (c.fact 60 (f := .noat "Fold" "coming") rfl), He.noat_ok (c.fact 61 (f := .noat "Fold" "past") rfl), He.noat_ok (c.fact 62 (f := .noat "Fold" "marks") rfl)⟩
  have g_MOST := He.int_ok X G (c.fact 87 (f := .int "MOST" 24) rfl)
  obtain ⟨fd_Fold___init, F_Fold___init⟩ := c.def_ 36 (d := d_Fold___init) rfl
  have b_Fold___init : Binds K fd_Fold___init ["self", "row"] [] := F_Fold___init.bindsN fun _ _ _ _ _ _ us hl => match us, hl with | [_, _], _ => rfl
  obtain ⟨fd_Fold___len, F_Fold___len⟩ := c.def_ 37 (d := d_Fold___len) rfl
  have me_Fold___len := He.meth_ok (c.fact 63 (f := .meth "Fold" "__len__") rfl)
  have b_Fold___len : Binds K fd_Fold___len ["self"] [] := F_Fold___len.bindsN fun _ _ _ _ _ _ us hl => match us, hl with | [_], _ => rfl
  obtain ⟨fd_Fold_turn, F_Fold_turn⟩ := c.def_ 38 (d := d_Fold_turn) rfl
  have me_Fold_turn := He.meth_ok (c.fact 64 (f := .meth "Fold" "turn") rfl)
  have b_Fold_turn : Binds K fd_Fold_turn ["self", "line", "coming"] [] := F_Fold_turn.bindsN fun _ _ _ _ _ _ us hl => match us, hl with | [_, _, _], _ => rfl
  obtain ⟨fd_Fold_put_at, F_Fold_put_at⟩ := c.def_ 39 (d := d_Fold_put_at) rfl
  have me_Fold_put_at := He.meth_ok (c.fact 65 (f := .meth "Fold" "put_at") rfl)
  have b_Fold_put_at : Binds K fd_Fold_put_at ["self", "place", "parts"] [] := F_Fold_put_at.bindsN fun _ _ _ _ _ _ us hl => match us, hl with | [_, _, _], _ => rfl
  obtain ⟨fd_Fold_move, F_Fold_move⟩ := c.def_ 40 (d := d_Fold_move) rfl
  have me_Fold_move := He.meth_ok (c.fact 66 (f := .meth "Fold" "move") rfl)
  have b_Fold_move : Binds K fd_Fold_move ["self", "end"] [] := F_Fold_move.bindsN fun _ _ _ _ _ _ us hl => match us, hl with | [_, _], _ => rfl
  obtain ⟨fd_Fold_place_of, F_Fold_place_of⟩ := c.def_ 41 (d := d_Fold_place_of) rfl
  have me_Fold_place_of := He.meth_ok (c.fact 67 (f := .meth "Fold" "place_of") rfl)
  have b_Fold_place_of : Binds K fd_Fold_place_of ["self", "name"] [] := F_Fold_place_of.bindsN fun _ _ _ _ _ _ us hl => match us, hl with | [_, _], _ => rfl
  obtain ⟨fd_Fold_come, F_Fold_come⟩ := c.def_ 42 (d := d_Fold_come) rfl
  have me_Fold_come := He.meth_ok (c.fact 68 (f := .meth "Fold" "come") rfl)
  obtain ⟨dsl_Fold_come, bd_Fold_come, b_Fold_come⟩ := F_Fold_come.binds0 (ps := ["self", "strength", "toll", "place"]) 3 (by intro h; cases h) rfl (fun D doc pm an cdv ct us ks l1 l2 => match us, l1, ks, l2 with | [_, _, _], _, [_], _ => ⟨_, _, _, _, _, _, rfl, rfl, rfl⟩)
  obtain ⟨dv_Fold_come, rfl⟩ : ∃ dv, dsl_Fold_come = [dv] := match dsl_Fold_come, bd_Fold_come with | [dv], _ => ⟨dv, rfl⟩
  have kb_Fold_come := kb_kwo (n := 3) (g := "place") (ps := ["self", "strength", "toll", "place"]) F_Fold_come fun kV doc pm an cdv ct us w hl => match us, hl with | [_, _, _], _ => rfl
  obtain ⟨fd_Fold_leave, F_Fold_leave⟩ := c.def_ 43 (d := d_Fold_leave) rfl
  have me_Fold_leave := He.meth_ok (c.fact 69 (f := .meth "Fold" "leave") rfl)
  have b_Fold_leave : Binds K fd_Fold_leave ["self", "name"] [] := F_Fold_leave.bindsN fun _ _ _ _ _ _ us hl => match us, hl with | [_, _], _ => rfl
  obtain ⟨fd_Fold_overtake, F_Fold_overtake⟩ := c.def_ 44 (d := d_Fold_overtake) rfl
  have me_Fold_overtake := He.meth_ok (c.fact 70 (f := .meth "Fold" "overtake") rfl)
  have b_Fold_overtake : Binds K fd_Fold_overtake ["self", "name"] [] := F_Fold_overtake.bindsN fun _ _ _ _ _ _ us hl => match us, hl with | [_, _], _ => rfl
  obtain ⟨fd_Fold_fall_back, F_Fold_fall_back⟩ := c.def_ 45 (d := d_Fold_fall_back) rfl
  have me_Fold_fall_back := He.meth_ok (c.fact 71 (f := .meth "Fold" "fall_back") rfl)
  have b_Fold_fall_back : Binds K fd_Fold_fall_back ["self", "name"] [] := F_Fold_fall_back.bindsN fun _ _ _ _ _ _ us hl => match us, hl with | [_, _], _ => rfl
  obtain ⟨fd_Fold_feed, F_Fold_feed⟩ := c.def_ 46 (d := d_Fold_feed) rfl
  have me_Fold_feed := He.meth_ok (c.fact 72 (f := .meth "Fold" "feed") rfl)
  have b_Fold_feed : Binds K fd_Fold_feed ["self", "name", "by"] [] := F_Fold_feed.bindsN fun _ _ _ _ _ _ us hl => match us, hl with | [_, _, _], _ => rfl
  obtain ⟨fd_Fold_ask, F_Fold_ask⟩ := c.def_ 47 (d := d_Fold_ask) rfl
  have me_Fold_ask := He.meth_ok (c.fact 73 (f := .meth "Fold" "ask") rfl)
  have b_Fold_ask : Binds K fd_Fold_ask ["self", "name", "toll"] [] := F_Fold_ask.bindsN fun _ _ _ _ _ _ us hl => match us, hl with | [_, _, _], _ => rfl
  obtain ⟨fd_Fold_settle, F_Fold_settle⟩ := c.def_ 48 (d := d_Fold_settle) rfl
  have me_Fold_settle := He.meth_ok (c.fact 74 (f := .meth "Fold" "settle") rfl)
  have b_Fold_settle : Binds K fd_Fold_settle ["self"] [] := F_Fold_settle.bindsN fun _ _ _ _ _ _ us hl => match us, hl with | [_], _ => rfl
  obtain ⟨fd_Fold_unsettle, F_Fold_unsettle⟩ := c.def_ 49 (d := d_Fold_unsettle) rfl
  have me_Fold_unsettle := He.meth_ok (c.fact 75 (f := .meth "Fold" "unsettle") rfl)
  have b_Fold_unsettle : Binds K fd_Fold_unsettle ["self"] [] := F_Fold_unsettle.bindsN fun _ _ _ _ _ _ us hl => match us, hl with | [_], _ => rfl
  obtain ⟨fd_Fold_undo, F_Fold_undo⟩ := c.def_ 50 (d := d_Fold_undo) rfl
  have me_Fold_undo := He.meth_ok (c.fact 76 (f := .meth "Fold" "undo") rfl)
  have b_Fold_undo : Binds K fd_Fold_undo ["self"] [] := F_Fold_undo.bindsN fun _ _ _ _ _ _ us hl => match us, hl with | [_], _ => rfl
  obtain ⟨fd_Fold_do_one, F_Fold_do_one⟩ := c.def_ 51 (d := d_Fold_do_one) rfl
  have me_Fold_do_one := He.meth_ok (c.fact 77 (f := .meth "Fold" "do_one") rfl)
  have b_Fold_do_one : Binds K fd_Fold_do_one ["self", "deed"] [] := F_Fold_do_one.bindsN fun _ _ _ _ _ _ us hl => match us, hl with | [_, _], _ => rfl
  obtain ⟨fd_Fold_do, F_Fold_do⟩ := c.def_ 52 (d := d_Fold_do) rfl
  have me_Fold_do := He.meth_ok (c.fact 78 (f := .meth "Fold" "do") rfl)
  obtain ⟨dsl_Fold_do, bd_Fold_do, b_Fold_do⟩ := F_Fold_do.binds0 (ps := ["self", "deeds", "whole"]) 2 (by intro h; cases h) rfl (fun D doc pm an cdv ct us ks l1 l2 => match us, l1, ks, l2 with | [_, _], _, [_], _ => ⟨_, _, _, _, _, _, rfl, rfl, rfl⟩)
  obtain ⟨dv_Fold_do, rfl⟩ : ∃ dv, dsl_Fold_do = [dv] := match dsl_Fold_do, bd_Fold_do with | [dv], _ => ⟨dv, rfl⟩
  have kb_Fold_do := kb_kwo (n := 2) (g := "whole") (ps := ["self", "deeds", "whole"]) F_Fold_do fun kV doc pm an cdv ct us w hl => match us, hl with | [_, _], _ => rfl
  obtain ⟨fd_Fold_row, F_Fold_row⟩ := c.def_ 53 (d := d_Fold_row) rfl
  have me_Fold_row := He.meth_ok (c.fact 79 (f := .meth "Fold" "row") rfl)
  have b_Fold_row : Binds K fd_Fold_row ["self"] [] := F_Fold_row.bindsN fun _ _ _ _ _ _ us hl => match us, hl with | [_], _ => rfl
  obtain ⟨fd_Fold_names, F_Fold_names⟩ := c.def_ 54 (d := d_Fold_names) rfl
  have me_Fold_names := He.meth_ok (c.fact 80 (f := .meth "Fold" "names") rfl)
  have b_Fold_names : Binds K fd_Fold_names ["self"] [] := F_Fold_names.bindsN fun _ _ _ _ _ _ us hl => match us, hl with | [_], _ => rfl
  obtain ⟨fd_Fold_may_pass, F_Fold_may_pass⟩ := c.def_ 55 (d := d_Fold_may_pass) rfl
  have me_Fold_may_pass := He.meth_ok (c.fact 81 (f := .meth "Fold" "may_pass") rfl)
  have b_Fold_may_pass : Binds K fd_Fold_may_pass ["self"] [] := F_Fold_may_pass.bindsN fun _ _ _ _ _ _ us hl => match us, hl with | [_], _ => rfl
  obtain ⟨fd_Fold_may_fall, F_Fold_may_fall⟩ := c.def_ 56 (d := d_Fold_may_fall) rfl
  have me_Fold_may_fall := He.meth_ok (c.fact 82 (f := .meth "Fold" "may_fall") rfl)
  have b_Fold_may_fall : Binds K fd_Fold_may_fall ["self"] [] := F_Fold_may_fall.bindsN fun _ _ _ _ _ _ us hl => match us, hl with | [_], _ => rfl
  obtain ⟨fd_Fold_last_names, F_Fold_last_names⟩ := c.def_ 57 (d := d_Fold_last_names) rfl
  have me_Fold_last_names := He.meth_ok (c.fact 83 (f := .meth "Fold" "last_names") rfl)
  have b_Fold_last_names : Binds K fd_Fold_last_names ["self"] [] := F_Fold_last_names.bindsN fun _ _ _ _ _ _ us hl => match us, hl with | [_], _ => rfl
  obtain ⟨fd_Fold_paid, F_Fold_paid⟩ := c.def_ 58 (d := d_Fold_paid) rfl
  have me_Fold_paid := He.meth_ok (c.fact 84 (f := .meth "Fold" "paid") rfl)
  have b_Fold_paid : Binds K fd_Fold_paid ["self", "name"] [] := F_Fold_paid.bindsN fun _ _ _ _ _ _ us hl => match us, hl with | [_, _], _ => rfl
  obtain ⟨fd_Fold_deeds, F_Fold_deeds⟩ := c.def_ 59 (d := d_Fold_deeds) rfl
  have me_Fold_deeds := He.meth_ok (c.fact 85 (f := .meth "Fold" "deeds") rfl)
  have b_Fold_deeds : Binds K fd_Fold_deeds ["self"] [] := F_Fold_deeds.bindsN fun _ _ _ _ _ _ us hl => match us, hl with | [_], _ => rfl
  obtain ⟨fd_Fold_twin, F_Fold_twin⟩ := c.def_ 60 (d := d_Fold_twin) rfl
  have me_Fold_twin := He.meth_ok (c.fact 86 (f := .meth "Fold" "twin") rfl)
  have b_Fold_twin : Binds K fd_Fold_twin ["self"] [] := F_Fold_twin.bindsN fun _ _ _ _ _ _ us hl => match us, hl with | [_], _ => rfl
  have x_BadDeed := ok_ini_BadDeed (P := P) (w := w) (mg := mg) (base := base) F_ini_BadDeed T_BadDeed g_BadDeed b_ini_BadDeed m_ValueError
  have x_NoBeast := ok_ini_NoBeast (P := P) (w := w) (mg := mg) (base := base) F_ini_NoBeast T_NoBeast g_NoBeast b_ini_NoBeast m_LookupError
  have x_NoPlace := ok_ini_NoPlace (P := P) (w := w) (mg := mg) (base := base) F_ini_NoPlace T_NoPlace g_NoPlace b_ini_NoPlace m_LookupError
  have x_MayNot := ok_ini_MayNot (P := P) (w := w) (mg := mg) (base := base) F_ini_MayNot T_MayNot g_MayNot b_ini_MayNot m_RuntimeError
  have x_NotLet := ok_ini_NotLet (P := P) (w := w) (mg := mg) (base := base) F_ini_NotLet T_NotLet g_NotLet b_ini_NotLet m_RuntimeError
  have x_Full := ok_ini_Full (P := P) (w := w) (mg := mg) (base := base) F_ini_Full T_Full g_Full b_ini_Full m_OverflowError
  have g_HANDED := He.glo_ok X G (c.fact 88 (f := .glo "HANDED") rfl)
  have hH : Handed K w (He.ga K "HANDED") := ⟨cx.t.tab 0 rfl, fun q hq => He.valsB_ok V_HANDED (List.mem_map.mpr ⟨q, hq, rfl⟩)⟩
  have hH_Fold_undo := ok_Fold_undo_H (P := P) (w := w) (mg := mg) (base := base) F_Fold_undo cls_Fold me_Fold_undo b_Fold_undo m_len
  have h_is_number := ok_is_number (P := P) (w := w) (mg := mg) (base := base) F_is_number g_is_number b_is_number m_isinstance m_int m_bool
  have h_can_pass := ok_can_pass (P := P) (w := w) (mg := mg) (base := base) F_can_pass g_can_pass b_can_pass m_len
  have h_can_fall := ok_can_fall (P := P) (w := w) (mg := mg) (base := base) F_can_fall g_can_fall b_can_fall m_len
  have h_passed := ok_passed (P := P) (w := w) (mg := mg) (base := base) F_passed g_passed b_passed x_MayNot h_can_pass
  have h_fallen := ok_fallen (P := P) (w := w) (mg := mg) (base := base) F_fallen g_fallen b_fallen x_MayNot h_can_fall
  have h_swapped := ok_swapped (P := P) (w := w) (mg := mg) (base := base) F_swapped g_swapped b_swapped
  have h_can_do := ok_can_do (P := P) (w := w) (mg := mg) (base := base) F_can_do g_can_do b_can_do h_can_pass h_can_fall
  have h_led := ok_led (P := P) (w := w) (mg := mg) (base := base) F_led g_led b_led x_NotLet h_can_do h_passed h_fallen h_swapped m_tuple m_range m_len m_enumerate
  have h_pass_all := ok_pass_all (P := P) (w := w) (mg := mg) (base := base) F_pass_all g_pass_all b_pass_all m_len
  have h_fall_all := ok_fall_all (P := P) (w := w) (mg := mg) (base := base) F_fall_all g_fall_all b_fall_all m_len
  have h_row_and_order := ok_row_and_order (P := P) (w := w) (mg := mg) (base := base) F_row_and_order g_row_and_order b_row_and_order m_tuple
  have h_last := ok_last (P := P) (w := w) (mg := mg) (base := base) F_last g_last b_last h_pass_all h_row_and_order m_range m_len
  have h_first := ok_first (P := P) (w := w) (mg := mg) (base := base) F_first g_first b_first h_fall_all h_row_and_order m_range m_len m_reversed
  have h_places_of := ok_places_of (P := P) (w := w) (mg := mg) (base := base) F_places_of g_places_of b_places_of m_enumerate
  have h_turned_about := ok_turned_about (P := P) (w := w) (mg := mg) (base := base) F_turned_about g_turned_about b_turned_about h_places_of m_len m_range
  have h_is_handed := ok_is_handed (P := P) (w := w) (mg := mg) (base := base) F_is_handed g_is_handed b_is_handed h_is_number
  have h_is_fold_deed := ok_is_fold_deed (P := P) (w := w) (mg := mg) (base := base) F_is_fold_deed g_is_fold_deed b_is_fold_deed hH g_HANDED h_is_handed m_isinstance m_tuple m_str m_len m_all m_zip
  have h_refuse_bad_deeds := ok_refuse_bad_deeds (P := P) (w := w) (mg := mg) (base := base) F_refuse_bad_deeds g_refuse_bad_deeds b_refuse_bad_deeds h_is_fold_deed m_enumerate
  have h_moved := ok_moved (P := P) (w := w) (mg := mg) (base := base) F_moved g_moved b_moved m_zip m_tuple
  have h_law_dip := ok_law_dip (P := P) (w := w) (mg := mg) (base := base) F_law_dip g_law_dip b_law_dip m_len m_abs m_int
  have h_law_take := ok_law_take (P := P) (w := w) (mg := mg) (base := base) F_law_take g_law_take b_law_take
  have h_law_folded := ok_law_folded (P := P) (w := w) (mg := mg) (base := base) F_law_folded g_law_folded b_law_folded m_list m_enumerate
  have h_law_same := ok_law_same (P := P) (w := w) (mg := mg) (base := base) F_law_same g_law_same b_law_same m_isinstance m_list m_tuple m_bool m_str m_int m_len m_all m_zip 3
  have h_law_of := ok_law_of (P := P) (w := w) (mg := mg) (base := base) F_law_of g_law_of b_law_of h_law_take m_len
  have h_law_row := ok_law_row (P := P) (w := w) (mg := mg) (base := base) F_law_row g_law_row b_law_row h_law_take h_law_of m_range m_tuple
  have h_law_lets := ok_law_lets (P := P) (w := w) (mg := mg) (base := base) F_law_lets g_law_lets b_law_lets
  have h_law_passed := ok_law_passed (P := P) (w := w) (mg := mg) (base := base) F_law_passed g_law_passed b_law_passed
  have h_law_ended := ok_law_ended (P := P) (w := w) (mg := mg) (base := base) F_law_ended g_law_ended b_law_ended h_law_of h_law_lets h_law_passed m_range m_tuple m_list m_len
  have h_Fold___init : HasI P w K mg base 1 "Fold" _ ["self", "row"] (spInitL K (He.ga K "Fold")) _ _ := ⟨mk_Fold, ok_Fold___init (P := P) (w := w) (mg := mg) (base := base) F_Fold___init m_enumerate m_tuple m_len, g_Fold, b_Fold___init, .nil⟩
  have h_Fold___len := ok_Fold___len (P := P) (w := w) (mg := mg) (base := base) F_Fold___len cls_Fold me_Fold___len b_Fold___len m_len
  have h_Fold_turn := ok_Fold_turn (P := P) (w := w) (mg := mg) (base := base) F_Fold_turn cls_Fold me_Fold_turn b_Fold_turn
  have h_Fold_put_at := ok_Fold_put_at (P := P) (w := w) (mg := mg) (base := base) F_Fold_put_at cls_Fold me_Fold_put_at b_Fold_put_at h_Fold_turn
  have h_Fold_move := ok_Fold_move (P := P) (w := w) (mg := mg) (base := base) F_Fold_move cls_Fold me_Fold_move b_Fold_move h_moved h_turned_about h_Fold_turn m_len
  have h_Fold_come := ok_Fold_come (P := P) (w := w) (mg := mg) (base := base) F_Fold_come cls_Fold me_Fold_come b_Fold_come bd_Fold_come x_Full x_NoPlace h_Fold_turn m_len g_MOST
  have h_Fold_undo := ok_Fold_undo (P := P) (w := w) (mg := mg) (base := base) F_Fold_undo cls_Fold me_Fold_undo b_Fold_undo m_len
  have h_Fold_row := ok_Fold_row (P := P) (w := w) (mg := mg) (base := base) F_Fold_row cls_Fold me_Fold_row b_Fold_row m_tuple
  have h_Fold_settle := ok_Fold_settle (P := P) (w := w) (mg := mg) (base := base) F_Fold_settle cls_Fold me_Fold_settle b_Fold_settle h_last h_Fold_row h_Fold_move
  have h_Fold_unsettle := ok_Fold_unsettle (P := P) (w := w) (mg := mg) (base := base) F_Fold_unsettle cls_Fold me_Fold_unsettle b_Fold_unsettle h_first h_Fold_row h_Fold_move
  have h_Fold_names := ok_Fold_names (P := P) (w := w) (mg := mg) (base := base) F_Fold_names cls_Fold me_Fold_names b_Fold_names
  have h_Fold_place_of := ok_Fold_place_of (P := P) (w := w) (mg := mg) (base := base) F_Fold_place_of cls_Fold me_Fold_place_of b_Fold_place_of x_NoBeast h_Fold_names
  have h_Fold_leave := ok_Fold_leave (P := P) (w := w) (mg := mg) (base := base) F_Fold_leave cls_Fold me_Fold_leave b_Fold_leave h_Fold_put_at h_Fold_place_of
  have h_Fold_overtake := ok_Fold_overtake (P := P) (w := w) (mg := mg) (base := base) F_Fold_overtake cls_Fold me_Fold_overtake b_Fold_overtake x_MayNot h_can_pass h_led h_Fold_row h_Fold_names h_Fold_place_of h_Fold_move
  have h_Fold_fall_back := ok_Fold_fall_back (P := P) (w := w) (mg := mg) (base := base) F_Fold_fall_back cls_Fold me_Fold_fall_back b_Fold_fall_back x_MayNot h_can_fall h_led h_Fold_row h_Fold_names h_Fold_place_of h_Fold_move
  have h_Fold_feed := ok_Fold_feed (P := P) (w := w) (mg := mg) (base := base) F_Fold_feed cls_Fold me_Fold_feed b_Fold_feed h_Fold_put_at h_Fold_place_of
  have h_Fold_ask := ok_Fold_ask (P := P) (w := w) (mg := mg) (base := base) F_Fold_ask cls_Fold me_Fold_ask b_Fold_ask h_Fold_put_at h_Fold_place_of
  have h_Fold_do_one := ok_Fold_do_one (P := P) (w := w) (mg := mg) (base := base) F_Fold_do_one cls_Fold me_Fold_do_one b_Fold_do_one h_Fold_come kb_Fold_come h_Fold_settle h_Fold_unsettle h_Fold_overtake h_Fold_fall_back h_Fold_leave h_Fold_feed h_Fold_ask
  have h_Fold_do := ok_Fold_do (P := P) (w := w) (mg := mg) (base := base) F_Fold_do cls_Fold me_Fold_do b_Fold_do bd_Fold_do x_Full x_NoPlace x_NoBeast x_MayNot kd1 kd2 kd3 kd4 h_refuse_bad_deeds h_Fold_do_one hH_Fold_undo m_len
  have h_Fold_may_pass := ok_Fold_may_pass (P := P) (w := w) (mg := mg) (base := base) F_Fold_may_pass cls_Fold me_Fold_may_pass b_Fold_may_pass h_can_pass h_Fold_row h_Fold_names m_sorted m_enumerate
  have h_Fold_may_fall := ok_Fold_may_fall (P := P) (w := w) (mg := mg) (base := base) F_Fold_may_fall cls_Fold me_Fold_may_fall b_Fold_may_fall h_can_fall h_Fold_row h_Fold_names m_sorted m_enumerate
  have h_Fold_last_names := ok_Fold_last_names (P := P) (w := w) (mg := mg) (base := base) F_Fold_last_names cls_Fold me_Fold_last_names b_Fold_last_names h_last h_Fold_row h_Fold_names
  have h_Fold_paid := ok_Fold_paid (P := P) (w := w) (mg := mg) (base := base) F_Fold_paid cls_Fold me_Fold_paid b_Fold_paid h_Fold_place_of
  have h_Fold_deeds := ok_Fold_deeds (P := P) (w := w) (mg := mg) (base := base) F_Fold_deeds cls_Fold me_Fold_deeds b_Fold_deeds m_len
  have h_Fold_twin := ok_Fold_twin (P := P) (w := w) (mg := mg) (base := base) F_Fold_twin cls_Fold me_Fold_twin b_Fold_twin h_Fold___init m_list
  have h_law_right := ok_law_right (P := P) (w := w) (mg := mg) (base := base) F_law_right g_law_right b_law_right fc h_law_take h_law_row h_law_ended h_law_of h_law_same h_Fold___init h_Fold_may_pass h_Fold_may_fall h_Fold_overtake h_Fold_fall_back h_Fold_do h_Fold_last_names h_Fold_names h_Fold_twin h_Fold_settle h_Fold_row h_Fold_paid m_range m_list m_len m_enumerate m_sum
  exact ok_law F_law h_law_folded h_law_dip h_law_right m_range m_len m_all m_max
end K77
open PySem PySem.W PySem.Calls PyProof.Rows
theorem PySem.Challenge.cw_hayherd_k77_whole_come_ahead_and_behind_holds : PySem.Challenge.rw_hayherd_k77_whole_come_ahead_and_behind.Holds := by
  w_on; o_law
  refine HandSHeadRun.head_any (r := OpenLaw.row PySem.Challenge.rw_hayherd_k77_whole_come_ahead_and_behind) (q := view (OpenLaw.row PySem.Challenge.rw_hayherd_k77_whole_come_ahead_and_behind).prog [43]) (H := K77.hk) (ob := K77.ob) (M := 6000) (loose := K77.loose) (d := HandSHeadRun.topDef (OpenLaw.row PySem.Challenge.rw_hayherd_k77_whole_come_ahead_and_behind).prog 43) (kwd := []) K77.ob_eq
    (by kernel_rfl) (fun s => by kernel_rfl) K77.run (by kernel_rfl) (by kernel_rfl) (by kernel_rfl) (by rfl) (by first | assumption | decide +kernel) (by decide +kernel) ⟨rfl, rfl, rfl, rfl, rfl, by decide +kernel⟩ ?hw ?hc
  case hw => w_witness2
  case hc =>
    refine L2.walk_ofE (l := PySem.Challenge.rw_hayherd_k77_whole_come_ahead_and_behind) (n := 63) (k := 9) (x := "_law_script") (CX := L2.CX0) rfl (by decide) (by kernel_rfl) ⟨rfl, by decide, by decide⟩ ?F (fun _ _ _ _ z => z)
    intro w mg fa h Y G hmg0
    obtain ⟨K, KX, c⟩ := Y
    have hmg : mg ("law" : PySem.Str) = some (.ref fa) := by
      have e : (HandSHeadRun.topDef (OpenLaw.row PySem.Challenge.rw_hayherd_k77_whole_come_ahead_and_behind).prog 43).name = ("law" : PySem.Str) := by kernel_rfl
      rw [← e]
      exact hmg0
    obtain ⟨fd, hb, hF⟩ := K77.facts (P := (PySem.Challenge.rw_hayherd_k77_whole_come_ahead_and_behind).prog) (w := w) KX G hmg c
    exact ⟨K, fd, HH.spLaw K, KX, hb, fun H a ns hl _ hS => ⟨a, ns, rfl, hS, hl, fun _ => rfl⟩, hF⟩
