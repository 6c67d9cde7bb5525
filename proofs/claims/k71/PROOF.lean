import PyProof.Rows.All
import Wide.All
import OpenK.AllK
import Wide.FinOn
import KE.KStateDown
import HandS.ForMost
import HandS.Conv
import HandS.Flow
import HandS.Style
import HandS.TupAny
import HandS.TupMul
import HandS.IsInst
import HandS.Wide
import HandS.Defaults
import HandS.Zip
import HandS.Evl
import HandS.More
import HandS.WordsExc
import HandS.Head2
import HandS.HeadEnd
import HandS.HeadHook2
import HandS.Walk
import PyProof.ReprRoads
import PyProof.ReprText
import PyProof.ReprLen
import HandS.RevRange
import HandS.SortInts
import KE.GoesMore
import HandS.DictComp
import HandS.Dict
import HandS.SortRule
import HandS.Deep
import HandS.Strs
import KE.GoesZip
import KE.GoesEnum
import HandS.WideBits
import HandS.DictTup
import KE.KDictZip
import HandS.ExcInit
import HandS.HeadHook4
import KE.KExcIs
import KE.KTryMore
import KE.KExcInit
import HandS.SetFor
import HandS.Small
import KE.KSortTupAny
import HandS.CallLocal
import KE.DataMinMax
import PyProof.SumAnyB
import HandS.TupLe
import PyProof.Rows.TupDisplay
import KE.KDictDisplayH
import HandS.TupLen
import HandS.Iter
import KE.SortData
import HandS.TryOnly
import PySem.Challenge.RW_hayherd_k71_whole_no_shorter_way
set_option Elab.async false
set_option linter.all false
set_option maxRecDepth 100000
set_option maxHeartbeats 4000000
namespace HH
open PySem PySem.Spec PyProof.Rows L2
section
variable {X : Cx}
def CPowW (i j : Int) : Prop := 0 ≤ j ∧ (Builtin.Int.intBits i : Int) * j ≤ 2 ^ 27
theorem op_powW : OpR X (binaryOp .Pow) (rI CPowW fun i j => .int (i ^ j.toNat)) := opI fun _ _ _ _ _ _ _ hc q => pow_int hc.1 hc.2 q
def gSl (to ta tc : TE) : TG := fun v σ H Q => to σ H fun o H1 => ta σ H1 fun a H2 => tc σ H2 fun c H3 => ∃ (l b : Addr) (xs ys : List V) (i j : Int), o = .ref l ∧ v = .ref b ∧ a = .int i ∧ c = .int j ∧ H3 l = some (.lst xs) ∧ H3 b = some (.lst ys) ∧ l ≠ b ∧ 0 ≤ i ∧ i ≤ j ∧ j ≤ xs.length ∧ xs.length + ys.length ≤ sizeLine ∧ Q σ (upd H3 l (.lst (xs.take i.toNat ++ ys ++ xs.drop j.toNat)))
theorem pg_sl {o a c : Expr} {to ta tc : TE} {p2 pos : Pos} (ho : PE X o to) (hl : PE X a ta) (hu : PE X c tc) : PG X (.Subscript o (.Slice (some a) (some c) none p2) pos) (gSl to ta tc) := by
  refine ⟨fun pins s σ H v u Q I0 r0 h0 => ?_⟩
  rw [arm_assign_Subscript]
  refine wpAny_bind (wpAny_holding (thn (ho.run pins s σ H _ I0 h0) fun ov s1 ⟨x, H1, I1, r1, q1⟩ => ?_))
  refine wpAny_bind (wpAny_holding (wpAny_Slice (thn (hl.run pins s1 σ H1 _ I1 q1) fun lv s2 ⟨y, H2, I2, r2, q2⟩ => ?_)))
  refine thn (hu.run pins s2 σ H2 _ I2 q2) fun uv s3 ⟨z, H3, I3, r3, q3⟩ => ?_
  obtain ⟨l, b, xs, ys, i, j, rfl, rfl, rfl, rfl, hH, hB, hne, h0, hij, hj, hz, q⟩ := q3
  cases r1
  cases r0
  refine wpAny_of_eq (evalPart_none _) ?_
  have I5 : Inv X pins σ H3 { s3 with heap := s3.heap.push { cls := .type "slice", data := .fields #[lv, uv, .none] } } := I3.kept (t' := s3.toks) fun b ob q => Heap.get?_push_of_some _ q
  refine wpAny_bind (wpAny_standAt (wpAny_bind (wpAny_holding (set_slice I5 hH hB hne (Heap.IsSliceOf.new _ _ _ _) r2 r3 h0 hij hj hz fun s' I6 => ?_))))
  exact wpAny_release ⟨σ, _, I6, q⟩
theorem ix_tupK {K : PySem.W.Frag} (h : X.K = K := by rfl) : IxR X (rIxT K) := by
  subst h
  exact ix_tup
theorem ix_listK {K : PySem.W.Frag} (h : X.K = K := by rfl) : IxR X (rIxL K) := by
  subst h
  exact ix_list
end
end HH
set_option maxHeartbeats 4000000
namespace HH
open PySem PySem.Spec PyProof.Rows L2 Evl
abbrev FnP (K : PySem.W.Frag) (x : Str) (st : Stmt) (f : Addr) (fd : FuncData) : Prop := FunD K x x (defArgs st) (defBody st) (defScope st) [] [] f fd
structure Has (P : Program) (w : World) (K : PySem.W.Frag) (mg : Str → Option Value) (base : Heap) (k : Nat) (x : Str) (ps : List Str) (sp : Sp) (f : Addr) (fd : FuncData) : Prop where
  G : FnOk P w K mg base CX0 k f fd ps sp
  g : mg x = some (.ref f)
  kp : PySem.W.keepIn K (.ref f) = true
  b : Binds K fd ps []
def ExB (b : Addr) (H H' : Hp) : Prop := ∀ a o, a ≠ b → H a = some o → H' a = some o
theorem ExB.refl (b : Addr) (H : Hp) : ExB b H H := fun _ _ _ h => h
theorem ExB.trans {b : Addr} {H H1 H2 : Hp} (x : ExB b H H1) (y : ExB b H1 H2) : ExB b H H2 := fun a o n h => y a o n (x a o n h)
theorem ExB.of {b : Addr} {H H' : Hp} (e : Ex H H') : ExB b H H' := fun a o _ h => e a o h
theorem ExB.new {b p : Addr} {H H' : Hp} {o : HO} (e : ExB b H H') (h : H' p = none) : ExB b H (upd H' p o) := e.trans (.of (Ex.new h))
theorem ExB.upd {b : Addr} {H H' : Hp} {o : HO} (e : ExB b H H') : ExB b H (upd H' b o) := fun a u n h => by
  rw [upd_ne n]
  exact e a u n h
theorem ExB.mut {b p : Addr} {H H' : Hp} {o : HO} (e : ExB b H H') (h : H p = none) : ExB b H (L2.upd H' p o) := fun a u n ha => by
  rw [upd_ne (ne_of_none ha h)]
  exact e a u n ha
theorem ExB.rd {b a : Addr} {H H' : Hp} {u : HO} (e : ExB b H H') (n : a ≠ b) (h : Rd H a u) : Rd H' a u := by
  rcases h with h | ⟨o, h⟩
  · exact .inl (e a _ n h)
  · exact .inr ⟨o, e a _ n h⟩
theorem ExB.l {K : PySem.W.Frag} {b a : Addr} {H H' : Hp} {xs : List V} (e : ExB b H H') (n : a ≠ b) (h : SqL K H a xs) : SqL K H' a xs := by
  rcases h with h | h
  · exact .inl (e.rd n h)
  · exact .inr h
theorem ExB.t {K : PySem.W.Frag} {b a : Addr} {H H' : Hp} {xs ys : List V} (e : ExB b H H') (hb : H b = some (.lst ys)) (h : SqT K H a xs) : SqT K H' a xs := by
  rcases h with h | h
  · refine .inl (e.rd (fun z => ?_) h)
    subst z
    rcases h with h | ⟨o, h⟩
    · rw [hb] at h
      cases h
    · rw [hb] at h
      cases h
  · exact .inr h
def Lim : Nat := 2 ^ 4000
def Bx (H : Hp) (p : Addr) (n : Nat) : Prop := ∃ a b c : Int, H p = some (.lst [.int a, .int b, .int c]) ∧ 0 ≤ a ∧ 0 ≤ b ∧ b < 2 ^ 62 ∧ 0 ≤ c ∧ c ≤ n
theorem Bx.ex {H H' : Hp} {p : Addr} {n : Nat} (h : Bx H p n) (e : Ex H H') : Bx H' p n := by
  obtain ⟨a, b, c, h1, h2⟩ := h
  exact ⟨a, b, c, e _ _ h1, h2⟩
theorem Bx.mut {H : Hp} {p q : Addr} {n : Nat} {o : HO} (h : Bx H p n) (e : p ≠ q) : Bx (upd H q o) p n := by
  obtain ⟨a, b, c, h1, h2⟩ := h
  exact ⟨a, b, c, by rw [upd_ne e]; exact h1, h2⟩
theorem Bx.le {H : Hp} {p : Addr} {n m : Nat} (h : Bx H p n) (e : n ≤ m) : Bx H p m := by
  obtain ⟨a, b, c, h1, h2, h3, h4, h5, h6⟩ := h
  exact ⟨a, b, c, h1, h2, h3, h4, h5, by omega⟩
theorem Bx.lst {H : Hp} {p : Addr} {n : Nat} (h : Bx H p n) : ∃ xs, H p = some (.lst xs) := by
  obtain ⟨a, b, c, h1, _⟩ := h
  exact ⟨_, h1⟩
theorem Bx.ne {H : Hp} {p q : Addr} {n : Nat} (h : Bx H p n) (hq : H q = none) : p ≠ q := by
  obtain ⟨xs, h⟩ := h.lst
  exact ne_of_none h hq
abbrev Row := List (Int × Int)
def BeastAt (K : PySem.W.Frag) (H : Hp) (v : V) (b : Int × Int) : Prop := ∃ p, v = .ref p ∧ SqT K H p [.int b.1, .int b.2]
def Beasts (K : PySem.W.Frag) (H : Hp) (vs : List V) (rs : Row) : Prop := vs.length = rs.length ∧ ∀ (i : Nat) (b : Int × Int), rs[i]? = some b → ∃ u, vs[i]? = some u ∧ BeastAt K H u b
def RowAt (K : PySem.W.Frag) (H : Hp) (v : V) (rs : Row) : Prop := ∃ a vs, v = .ref a ∧ SqT K H a vs ∧ Beasts K H vs rs
theorem BeastAt.ex {K : PySem.W.Frag} {H H' : Hp} {v : V} {b : Int × Int} (e : Ex H H') (h : BeastAt K H v b) : BeastAt K H' v b := by
  obtain ⟨p, h1, h2⟩ := h
  exact ⟨p, h1, ex_t e h2⟩
theorem BeastAt.exB {K : PySem.W.Frag} {H H' : Hp} {v : V} {b : Int × Int} {q : Addr} {ys : List V} (e : ExB q H H') (hq : H q = some (.lst ys)) (h : BeastAt K H v b) : BeastAt K H' v b := by
  obtain ⟨p, h1, h2⟩ := h
  exact ⟨p, h1, e.t hq h2⟩
theorem Beasts.ex {K : PySem.W.Frag} {H H' : Hp} {vs : List V} {rs : Row} (e : Ex H H') (h : Beasts K H vs rs) : Beasts K H' vs rs := ⟨h.1, fun i b hi => by
  obtain ⟨u, h1, h2⟩ := h.2 i b hi
  exact ⟨u, h1, h2.ex e⟩⟩
theorem Beasts.exB {K : PySem.W.Frag} {H H' : Hp} {vs : List V} {rs : Row} {q : Addr} {ys : List V} (e : ExB q H H') (hq : H q = some (.lst ys)) (h : Beasts K H vs rs) : Beasts K H' vs rs := ⟨h.1, fun i b hi => by
  obtain ⟨u, h1, h2⟩ := h.2 i b hi
  exact ⟨u, h1, h2.exB e hq⟩⟩
theorem RowAt.ex {K : PySem.W.Frag} {H H' : Hp} {v : V} {rs : Row} (h : RowAt K H v rs) (e : Ex H H') : RowAt K H' v rs := by
  obtain ⟨a, vs, h1, h2, h3⟩ := h
  exact ⟨a, vs, h1, ex_t e h2, h3.ex e⟩
theorem RowAt.exB {K : PySem.W.Frag} {H H' : Hp} {v : V} {rs : Row} {q : Addr} {n : Nat} (h : RowAt K H v rs) (e : ExB q H H') (hb : Bx H q n) : RowAt K H' v rs := by
  obtain ⟨a, vs, h1, h2, h3⟩ := h
  obtain ⟨ys, hy⟩ := hb.lst
  exact ⟨a, vs, h1, e.t hy h2, h3.exB e hy⟩
theorem Beasts.nil {K : PySem.W.Frag} {H : Hp} : Beasts K H [] [] := ⟨rfl, fun i b h => by simp at h⟩
theorem Beasts.app {K : PySem.W.Frag} {H : Hp} {vs us : List V} {rs ss : Row} (h : Beasts K H vs rs) (g : Beasts K H us ss) : Beasts K H (vs ++ us) (rs ++ ss) := by
  refine ⟨by rw [List.length_append, List.length_append, h.1, g.1], fun i b hi => ?_⟩
  by_cases hl : i < rs.length
  · rw [List.getElem?_append_left hl] at hi
    rw [List.getElem?_append_left (by rw [h.1]; exact hl)]
    exact h.2 i b hi
  · rw [List.getElem?_append_right (by omega)] at hi
    rw [List.getElem?_append_right (by rw [h.1]; omega), h.1]
    exact g.2 _ b hi
theorem Beasts.one {K : PySem.W.Frag} {H : Hp} {v : V} {b : Int × Int} (h : BeastAt K H v b) : Beasts K H [v] [b] := by
  refine ⟨rfl, fun i c hi => ?_⟩
  cases i with
  | zero =>
    cases hi
    exact ⟨v, rfl, h⟩
  | succ i => simp at hi
theorem Beasts.take {K : PySem.W.Frag} {H : Hp} {vs : List V} {rs : Row} (n : Nat) (h : Beasts K H vs rs) : Beasts K H (vs.take n) (rs.take n) := by
  refine ⟨by rw [List.length_take, List.length_take, h.1], fun i b hi => ?_⟩
  rw [List.getElem?_take] at hi ⊢
  by_cases hl : i < n
  · rw [if_pos hl] at hi ⊢
    exact h.2 i b hi
  · rw [if_neg hl] at hi
    cases hi
theorem Beasts.drop {K : PySem.W.Frag} {H : Hp} {vs : List V} {rs : Row} (n : Nat) (h : Beasts K H vs rs) : Beasts K H (vs.drop n) (rs.drop n) := by
  refine ⟨by rw [List.length_drop, List.length_drop, h.1], fun i b hi => ?_⟩
  rw [List.getElem?_drop] at hi ⊢
  exact h.2 _ b hi
theorem cut_to (xs : List V) (j : Nat) : cutV xs none (some (j : Int)) = xs.take j := by
  unfold cutV
  rw [HT.sIx_none, HT.sIx_nat, Nat.sub_zero, List.drop_zero]
  by_cases h : j ≤ xs.length
  · rw [Nat.min_eq_left h]
  · rw [Nat.min_eq_right (by omega), List.take_of_length_le (Nat.le_refl _), List.take_of_length_le (by omega)]
theorem cut_from (xs : List V) (j : Nat) : cutV xs (some (j : Int)) none = xs.drop j := by
  unfold cutV
  rw [HT.sIx_none, HT.sIx_nat]
  by_cases h : j ≤ xs.length
  · rw [Nat.min_eq_left h]
    exact List.take_of_length_le (by rw [List.length_drop]; omega)
  · rw [Nat.min_eq_right (by omega), Nat.sub_self, List.take_zero, List.drop_of_length_le (by omega)]
theorem cut_all {xs : List V} {lo hi : Option Int} (h : HT.sIx xs.length 0 lo = 0 ∧ HT.sIx xs.length xs.length hi = xs.length) : cutV xs lo hi = xs := by
  unfold cutV
  rw [h.1, h.2, Nat.sub_zero, List.drop_zero]
  exact List.take_of_length_le (Nat.le_refl _)
end HH
set_option maxHeartbeats 4000000
namespace HH
open PySem PySem.Spec PyProof.Rows L2 Evl
section
variable {K : PySem.W.Frag} {σ : L2.St} {H H' : Hp} {ta tb te tx : TE} {x y z v : V}
def EvR (K : PySem.W.Frag) (te : TE) (σ : L2.St) (H : Hp) (rs : Row) : Prop := ∀ H1, Ex H H1 → ∀ Q : VK, (∀ v H2, Ex H1 H2 → RowAt K H2 v rs → Q v H2) → te σ H1 Q
def EvB (K : PySem.W.Frag) (te : TE) (σ : L2.St) (H : Hp) (b : Int × Int) : Prop := ∀ H1, Ex H H1 → ∀ Q : VK, (∀ v H2, Ex H1 H2 → BeastAt K H2 v b → Q v H2) → te σ H1 Q
theorem er_val {rs : Row} (h : Ev te σ H v) (hr : RowAt K H v rs) : EvR K te σ H rs := fun H1 e Q q => h H1 e Q fun H2 e2 => q v H2 e2 (hr.ex (e.trans e2))
theorem eb_val {b : Int × Int} (h : Ev te σ H v) (hr : BeastAt K H v b) : EvB K te σ H b := fun H1 e Q q => h H1 e Q fun H2 e2 => q v H2 e2 (hr.ex (e.trans e2))
theorem er_cat {rs ss : Row} (ha : EvR K ta σ H rs) (hb : EvR K tb σ H ss) (hl : rs.length + ss.length ≤ 100000) : EvR K (tOp (rCatA K) ta tb) σ H (rs ++ ss) := fun H1 e Q q =>
  ha H1 e _ fun v H2 e2 hv => hb H2 (e.trans e2) _ fun u H3 e3 hu => by
    obtain ⟨a, vs, rfl, h1, h2⟩ := hv.ex e3
    obtain ⟨b, us, rfl, g1, g2⟩ := hu
    refine ⟨a, b, vs, us, rfl, rfl, h1, g1, by rw [h2.1, g2.1]; exact sz_of hl, fun z => ?_, fun _ z => ?_, fun _ _ p hp => ?_⟩
    · subst z
      have e0 : rs = [] := List.length_eq_zero_iff.mp h2.1.symm
      subst e0
      exact q _ H3 (e2.trans e3) ⟨b, us, rfl, g1, g2⟩
    · subst z
      have e0 : ss = [] := List.length_eq_zero_iff.mp g2.1.symm
      subst e0
      rw [List.append_nil] at q
      exact q _ H3 (e2.trans e3) ⟨a, vs, rfl, h1, h2⟩
    · exact q _ _ ((e2.trans e3).trans (Ex.new hp)) ⟨p, _, rfl, st_of upd_same, (h2.app g2).ex (Ex.new hp)⟩
theorem er_to {rs : Row} {ti : TE} {j : Nat} {i : Int} (h : EvR K te σ H rs) (hi : Ev ti σ H (.int i)) (hj : i = (j : Int)) : EvR K (tSl (rSlA K) te tNoPart (tPart ti)) σ H (rs.take j) := fun H1 e Q q =>
  h H1 e _ fun v H2 e2 hv => hi H2 (e.trans e2) _ fun H3 e3 => by
    obtain ⟨a, vs, rfl, h1, h2⟩ := hv.ex e3
    subst hj
    refine ⟨(j : Int), rfl, a, vs, rfl, h1, fun z => ?_, fun _ p hp => ?_⟩
    · have e0 := cut_all z
      rw [cut_to] at e0
      refine q _ H3 (e2.trans e3) ⟨a, vs, rfl, h1, ?_⟩
      have h3 := h2.take j
      rw [e0] at h3
      exact h3
    · refine q _ _ ((e2.trans e3).trans (Ex.new hp)) ⟨p, _, rfl, st_of upd_same, ?_⟩
      rw [cut_to]
      exact (h2.take j).ex (Ex.new hp)
theorem er_from {rs : Row} {ti : TE} {j : Nat} {i : Int} (h : EvR K te σ H rs) (hi : Ev ti σ H (.int i)) (hj : i = (j : Int)) : EvR K (tSl (rSlA K) te (tPart ti) tNoPart) σ H (rs.drop j) := fun H1 e Q q =>
  h H1 e _ fun v H2 e2 hv => hi H2 (e.trans e2) _ fun H3 e3 => by
    obtain ⟨a, vs, rfl, h1, h2⟩ := hv.ex e3
    subst hj
    refine ⟨(j : Int), rfl, a, vs, rfl, h1, fun z => ?_, fun _ p hp => ?_⟩
    · have e0 := cut_all z
      rw [cut_from] at e0
      refine q _ H3 (e2.trans e3) ⟨a, vs, rfl, h1, ?_⟩
      have h3 := h2.drop j
      rw [e0] at h3
      exact h3
    · refine q _ _ ((e2.trans e3).trans (Ex.new hp)) ⟨p, _, rfl, st_of upd_same, ?_⟩
      rw [cut_from]
      exact (h2.drop j).ex (Ex.new hp)
theorem eb_tup {s t : Int} (h1 : Ev ta σ H (.int s)) (h2 : Ev tb σ H (.int t)) : EvB K (tTup (tCons ta (tCons tb tNil))) σ H (s, t) := fun H1 e Q q =>
  h1 H1 e _ fun H2 e2 => h2 H2 (e.trans e2) _ fun H3 e3 => ⟨by show 2 ≤ sizeLine; decide, fun p hp => q _ _ ((e2.trans e3).trans (Ex.new hp)) ⟨p, rfl, st_of upd_same⟩⟩
theorem er_two {b c : Int × Int} (h1 : EvB K ta σ H b) (h2 : EvB K tb σ H c) : EvR K (tTup (tCons ta (tCons tb tNil))) σ H [b, c] := fun H1 e Q q =>
  h1 H1 e _ fun v H2 e2 hv => h2 H2 (e.trans e2) _ fun u H3 e3 hu => ⟨by show 2 ≤ sizeLine; decide, fun p hp => q _ _ ((e2.trans e3).trans (Ex.new hp)) ⟨p, _, rfl, st_of upd_same, (Beasts.one (hv.ex (e3.trans (Ex.new hp)))).app (Beasts.one (hu.ex (Ex.new hp)))⟩⟩
theorem s_retR {D : Ends} {rs : Row} (h : EvR K te σ H rs) (k : ∀ v H1, Ex H H1 → RowAt K H1 v rs → D.rt v H1) : tRet te D σ H := h H (Ex.refl H) _ fun v H1 e hv => k v H1 e hv
theorem ev_rowAt {a : Addr} {vs : List V} {rs : Row} {ti : TE} {j : Nat} {i : Int} {b : Int × Int} (h : Ev te σ H (.ref a)) (hs : SqT K H a vs) (hb : Beasts K H vs rs) (hi : Ev ti σ H (.int i)) (hj : i = (j : Int)) (hg : rs[j]? = some b) :
    ∃ p, Ev (tOp (rIxT K) te ti) σ H (.ref p) ∧ SqT K H p [.int b.1, .int b.2] := by
  obtain ⟨u, h1, p, rfl, h2⟩ := hb.2 j b hg
  subst hj
  exact ⟨p, ev_op h hi (rv_ixT hs (atI_nat h1)), h2⟩
theorem ev_beast {rs : Row} {ti : TE} {j : Nat} {i : Int} {b : Int × Int} (h : Ev te σ H v) (hr : RowAt K H v rs) (hi : Ev ti σ H (.int i)) (hj : i = (j : Int)) (hg : rs[j]? = some b) : ∃ p, Ev (tOp (rIxT K) te ti) σ H (.ref p) ∧ SqT K H p [.int b.1, .int b.2] := by
  obtain ⟨a, vs, rfl, hs, hb⟩ := hr
  exact ev_rowAt h hs hb hi hj hg
theorem ev_str {rs : Row} {ti : TE} {j : Nat} {i : Int} {b : Int × Int} (h : Ev te σ H v) (hr : RowAt K H v rs) (hi : Ev ti σ H (.int i)) (hj : i = (j : Int)) (hg : rs[j]? = some b) : Ev (tOp (rIxT K) (tOp (rIxT K) te ti) (tC (.int 0))) σ H (.int b.1) := by
  obtain ⟨p, h1, h2⟩ := ev_beast h hr hi hj hg
  exact ev_op h1 ev_c (rv_ixT h2 rfl)
theorem ev_tol {rs : Row} {ti : TE} {j : Nat} {i : Int} {b : Int × Int} (h : Ev te σ H v) (hr : RowAt K H v rs) (hi : Ev ti σ H (.int i)) (hj : i = (j : Int)) (hg : rs[j]? = some b) : Ev (tOp (rIxT K) (tOp (rIxT K) te ti) (tC (.int 1))) σ H (.int b.2) := by
  obtain ⟨p, h1, h2⟩ := ev_beast h hr hi hj hg
  exact ev_op h1 ev_c (rv_ixT h2 rfl)
theorem ev_lenR {rs : Row} (h : Ev te σ H v) (hr : RowAt K H v rs) : Ev (tCB (rLenS K) (tCons te tNil)) σ H (.int (rs.length : Int)) := fun H1 e Q q => by
  obtain ⟨a, vs, rfl, hs, hb⟩ := hr
  refine h H1 e _ fun H2 e2 => ⟨a, vs, rfl, Or.inr (ex_t (e.trans e2) hs), ?_⟩
  rw [hb.1]
  exact q H2 e2
end
def sS (rs : Row) (i : Nat) : Int := (rs[i]?.getD (0, 0)).1
def tS (rs : Row) (i : Nat) : Int := (rs[i]?.getD (0, 0)).2
theorem row_get {rs : Row} {i : Nat} (h : i < rs.length) : rs[i]? = some (sS rs i, tS rs i) := by
  unfold sS tS
  rw [List.getElem?_eq_getElem h] <;> rfl
def letsN (rs : Row) (i : Nat) : Bool := decide (0 < i) && decide (sS rs i - tS rs (i - 1) > sS rs (i - 1))
def fallsN (rs : Row) (i : Nat) : Bool := decide (sS rs i > sS rs (i + 1))
def passR (rs : Row) (p : Nat) : Row := rs.take (p - 1) ++ [(sS rs p - tS rs (p - 1), tS rs p), (sS rs (p - 1), tS rs (p - 1))] ++ rs.drop (p + 1)
def fallR (rs : Row) (p : Nat) : Row := rs.take p ++ [(sS rs (p + 1), tS rs (p + 1)), (sS rs p + tS rs (p + 1), tS rs p)] ++ rs.drop (p + 2)
def spCanPass (K : PySem.W.Frag) : Sp := fun vs H Q _ => ∃ (v : V) (rs : Row) (p : Nat), vs = [v, .int (p : Int)] ∧ RowAt K H v rs ∧ p < rs.length ∧ ∀ H', Ex H H' → Q (.bl (letsN rs p)) H'
def spCanFall (K : PySem.W.Frag) : Sp := fun vs H Q _ => ∃ (v : V) (rs : Row) (p : Nat), vs = [v, .int (p : Int)] ∧ RowAt K H v rs ∧ p < rs.length ∧ ∀ H', Ex H H' → Q (.bl (decide (p + 1 < rs.length) && fallsN rs p)) H'
def spRowOp (K : PySem.W.Frag) (C : Row → Nat → Prop) (g : Row → Nat → Row) : Sp := fun vs H Q _ => ∃ (v : V) (rs : Row) (p : Nat), vs = [v, .int (p : Int)] ∧ RowAt K H v rs ∧ rs.length ≤ 1000 ∧ C rs p ∧ ∀ v' H', Ex H H' → RowAt K H' v' (g rs p) → Q v' H'
def spPassed (K : PySem.W.Frag) : Sp := spRowOp K (fun rs p => 0 < p ∧ p < rs.length) passR
def spFallen (K : PySem.W.Frag) : Sp := spRowOp K (fun rs p => p + 1 < rs.length) fallR
end HH
set_option maxHeartbeats 4000000
namespace HH
open PySem PySem.Spec PyProof.Rows L2 Evl
section
variable {K : PySem.W.Frag} {σ : L2.St} {H H' : Hp} {ta tb te tx : TE} {x y z v : V} {D : Ends} {tz : TS}
theorem q_asgT2 {i j : Nat} {p : Addr} (h : Ev te σ H (.ref p)) (hp : SqT K H p [x, y]) (k : ∀ H1, Ex H H1 → tz D ((σ.set i (some x)).set j (some y)) H1) : tSeq (tAsg te (gTup K 2 (gCons (gName i) (gCons (gName j) gNil)))) tz D σ H :=
  h H (Ex.refl H) _ fun H1 e => ⟨p, [x, y], rfl, ex_t e hp, rfl, x, [y], rfl, y, [], rfl, rfl, k H1 e⟩
theorem q_asg12 {i j l : Nat} {p : Addr} {u : V} (h : Ev ta σ H u) (h2 : Ev tb σ H (.ref p)) (hp : SqT K H p [x, y]) (k : ∀ H1, Ex H H1 → tz D (((σ.set i (some u)).set j (some x)).set l (some y)) H1) :
    tSeq (tAsg (tTup (tCons ta (tCons tb tNil))) (gTup K 2 (gCons (gName i) (gCons (gTup K 2 (gCons (gName j) (gCons (gName l) gNil))) gNil)))) tz D σ H :=
  h H (Ex.refl H) _ fun H1 e => h2 H1 e _ fun H2 e2 => ⟨by show 2 ≤ sizeLine; decide, fun q hq => ⟨q, _, rfl, st_of upd_same, rfl, u, _, rfl, .ref p, [], rfl, ⟨p, [x, y], rfl, ex_t ((e.trans e2).trans (Ex.new hq)) hp, rfl, x, [y], rfl, y, [], rfl, rfl, rfl, k _ ((e.trans e2).trans (Ex.new hq))⟩⟩⟩
theorem q_asg21 {i j l : Nat} {p : Addr} {u : V} (h2 : Ev ta σ H (.ref p)) (h : Ev tb σ H u) (hp : SqT K H p [x, y]) (k : ∀ H1, Ex H H1 → tz D (((σ.set i (some x)).set j (some y)).set l (some u)) H1) :
    tSeq (tAsg (tTup (tCons ta (tCons tb tNil))) (gTup K 2 (gCons (gTup K 2 (gCons (gName i) (gCons (gName j) gNil))) (gCons (gName l) gNil)))) tz D σ H :=
  h2 H (Ex.refl H) _ fun H1 e => h H1 e _ fun H2 e2 => ⟨by show 2 ≤ sizeLine; decide, fun q hq => ⟨q, _, rfl, st_of upd_same, rfl, .ref p, _, rfl, ⟨p, [x, y], rfl, ex_t ((e.trans e2).trans (Ex.new hq)) hp, rfl, x, [y], rfl, y, [], rfl, rfl, u, [], rfl, rfl, k _ ((e.trans e2).trans (Ex.new hq))⟩⟩⟩
theorem sv_can_pass {rs : Row} {p : Nat} (h : RowAt K H v rs) (hp : p < rs.length) : SpV (spCanPass K) [v, .int (p : Int)] H (.bl (letsN rs p)) := fun H1 e Q q E => ⟨v, rs, p, rfl, h.ex e, hp, q⟩
theorem sv_can_fall {rs : Row} {p : Nat} (h : RowAt K H v rs) (hp : p < rs.length) : SpV (spCanFall K) [v, .int (p : Int)] H (.bl (decide (p + 1 < rs.length) && fallsN rs p)) := fun H1 e Q q E => ⟨v, rs, p, rfl, h.ex e, hp, q⟩
end
end HH
set_option maxHeartbeats 4000000
namespace HH
open PySem PySem.Spec PyProof.Rows L2 Evl
theorem bits_le {i : Int} {n : Nat} (h : i.natAbs < 2 ^ n) : Builtin.Int.intBits i ≤ n := by
  unfold Builtin.Int.intBits
  split
  · exact Nat.zero_le _
  · rename_i z
    have hz : i.natAbs ≠ 0 := by
      intro e
      apply z
      have : i = 0 := by omega
      rw [this]
      rfl
    have := (Nat.log2_lt hz).mpr h
    omega
theorem pow_ok {i : Int} (h : i.natAbs < 2 ^ 4100) : CPowW i 5 := by
  refine ⟨by decide, ?_⟩
  have h1 := bits_le h
  have h2 : (Builtin.Int.intBits i : Int) ≤ 4100 := by omega
  have h3 : (2 : Int) ^ 27 = 134217728 := by decide
  rw [h3]
  omega
theorem mulW_ok {i j : Int} (h : i.natAbs < 2 ^ 4100) (g : j.natAbs < 2 ^ 4100) : CMulW i j := wide_mul h g (by decide) (by decide) (by decide)
theorem two_split : (2 : Nat) ^ 4100 = 2 ^ 4000 * 2 ^ 100 := by rw [← Nat.pow_add]
theorem big_of {c : Int} (h0 : 0 ≤ c) (h : c ≤ (Lim : Int) + 1) (k b : Int) (hk : 0 ≤ k) (hk2 : k ≤ 40000) (hb : 0 ≤ b) (hb2 : b ≤ 2 ^ 63) : (b + k * c).natAbs < 2 ^ 4100 := by
  have hl : Lim = 2 ^ 4000 := rfl
  have hp : 0 < (2 : Nat) ^ 4000 := Nat.pow_pos (by decide)
  rw [two_split]
  generalize (2 : Nat) ^ 4000 = L at *
  have h2 : c.toNat ≤ L + 1 := by omega
  have h3 : k.toNat * c.toNat ≤ 40000 * (L + 1) := Nat.mul_le_mul (by omega) h2
  have h4 : (b + k * c) = ((b.toNat + k.toNat * c.toNat : Nat) : Int) := by
    rw [Int.natCast_add, Int.natCast_mul, Int.toNat_of_nonneg hb, Int.toNat_of_nonneg hk, Int.toNat_of_nonneg h0]
  rw [h4, Int.natAbs_natCast]
  have h5 : b.toNat ≤ 2 ^ 63 := by omega
  have h6 : (2 : Nat) ^ 100 = 1267650600228229401496703205376 := by decide
  have h7 : (2 : Nat) ^ 63 = 9223372036854775808 := by decide
  rw [h6]
  rw [h7] at h5
  have h8 : L * 1267650600228229401496703205376 ≥ L * 40000 + L * 9223372036854775808 + L * 50000 := by omega
  omega
def spTake : Sp := fun vs H Q _ => ∃ (p : Addr) (m : Int) (n : Nat), vs = [.ref p, .int m] ∧ 0 < m ∧ m < 1073741824 ∧ Bx H p n ∧ n < Lim ∧ ∀ (r : Int) H', 0 ≤ r → r < m → ExB p H H' → Bx H' p (n + 1) → Q (.int r) H'
theorem divW_ok {i m : Int} (h : 0 < m) (g : m < 1073741824) : CDivW i m := wide_div h (show m.natAbs < 2 ^ 30 by
  have : (2 : Nat) ^ 30 = 1073741824 := by decide
  omega) (by decide) (by decide)
theorem fmod_lo {a m : Int} (h : 0 < m) : 0 ≤ a.fmod m := Int.fmod_nonneg_of_pos a h
theorem fmod_hi {a m : Int} (h : 0 < m) : a.fmod m < m := Int.fmod_lt_of_pos a h
end HH
set_option maxHeartbeats 4000000
namespace HH
open PySem PySem.Spec PyProof.Rows L2 Evl RZ
inductive TyN (K : PySem.W.Frag) (H : Hp) : V → String → Prop where
  | non : TyN K H .non "NoneType"
  | bl (b : Bool) : TyN K H (.bl b) "bool"
  | int (i : Int) : TyN K H (.int i) "int"
  | str (s : Str) : TyN K H (.str s) "str"
  | lst {a : Addr} {xs : List V} (e : SqL K H a xs) : TyN K H (.ref a) "list"
  | tup {a : Addr} {xs : List V} (e : SqT K H a xs) : TyN K H (.ref a) "tuple"
theorem TyN.ex {K : PySem.W.Frag} {H H' : Hp} {x : V} {t : String} (h : TyN K H x t) (e : Ex H H') : TyN K H' x t := by
  cases h with
  | non => exact .non
  | bl b => exact .bl b
  | int i => exact .int i
  | str s => exact .str s
  | lst h => exact .lst (ex_l e h)
  | tup h => exact .tup (ex_t e h)
theorem TyN.x {K : PySem.W.Frag} {H : Hp} {x : V} {t : String} (h : TyN K H x t) : TyX K H x (.type t) := by
  cases h with
  | non => exact .base .non
  | bl b => exact .base (.bl b)
  | int i => exact .base (.int i)
  | str s => exact .base (.str s)
  | lst h =>
    rcases h with (h | ⟨o, h⟩) | h
    · exact .base (.lst h)
    · exact .base (.frz h)
    · obtain ⟨o, _, _, h1, h2, _⟩ := h
      exact .kList h1 h2
  | tup h =>
    rcases h with (h | ⟨o, h⟩) | h
    · exact .base (.tup h)
    · exact .fTuple h
    · obtain ⟨o, _, _, h1, h2, _⟩ := h
      exact .kTuple h1 h2
section
variable {K : PySem.W.Frag} {σ : L2.St} {H H' : Hp} {ta tb te tx : TE} {x y z v : V} {D : Ends} {tz : TS}
theorem ev_isi {T C : String} {b : Bool} (h : Ev te σ H x) (ht : TyN K H x T) (k : kitB T C = some b) : Ev (tCB (rIsi K) (tCons te (tCons (tC (.ty C)) tNil))) σ H (.bl b) := fun H1 e Q q =>
  h H1 e _ fun H2 e2 => ⟨x, .ty C, .type T, .type C, b, rfl, .ty C, (ht.ex (e.trans e2)).x, kit_ty k, q H2 e2⟩
theorem ev_isiT {T C C2 : String} {b : Bool} (h : Ev te σ H x) (ht : TyN K H x T) (k : PySem.W.kitAny K (.type T) [.type C, .type C2] = some b) : Ev (tCB (rIsiT K) (tCons te (tCons (tTup (tCons (tC (.ty C)) (tCons (tC (.ty C2)) tNil))) tNil))) σ H (.bl b) := fun H1 e Q q =>
  h H1 e _ fun H2 e2 => ⟨by show 2 ≤ sizeLine; decide, fun p hp => ⟨x, p, [.ty C, .ty C2], .type T, [.type C, .type C2], b, rfl, upd_same, .cons (.ty C) (.cons (.ty C2) .nil), (ht.ex ((e.trans e2).trans (Ex.new hp))).x, k, q _ (e2.trans (Ex.new hp))⟩⟩
theorem rv_isN2 {b : Bool} (h : decide (x = V.non) = b) : RV (fun x y H Q => y = .non ∧ Q (.bl (decide (x = .non))) H) x .non H (.bl b) := fun H1 _ _ q => ⟨rfl, by rw [h]; exact q H1 (Ex.refl H1)⟩
end
theorem walk_zipT {K : PySem.W.Frag} {a b : Addr} {xs ys : List V} {n : Nat} (hn : n = min xs.length ys.length) : Walk (ItzT K a b) n (fun H => SqT K H a xs ∧ SqT K H b ys) (YPair (fun i => xs[i]?) (fun i => ys[i]?)) := by
  subst hn
  refine ⟨fun i _ hi q => ?_, fun _ q => ⟨xs, ys, q.1, q.2, by omega⟩, fun i H v H' _ q y => ?_⟩
  · have g1 : i < xs.length := by omega
    have g2 : i < ys.length := by omega
    exact ⟨xs, ys, xs[i], ys[i], q.1, q.2, by simp [g1], by simp [g2]⟩
  · obtain ⟨T, x, z, h1, h2, h3, h4, h5⟩ := y
    exact ⟨T, x, z, h1, h2, h3, h4 xs q.1, h5 ys q.2⟩
def Flat : V → Prop
  | .int _ => True
  | .bl _ => True
  | .str _ => True
  | .non => True
  | _ => False
def Alike (K : PySem.W.Frag) (H : Hp) : Nat → V → V → Prop
  | 0, _, _ => False
  | d + 1, x, y => (x = y ∧ Flat x) ∨ ∃ (a b : Addr) (xs ys : List V), x = .ref a ∧ y = .ref b ∧ ((SqL K H a xs ∧ SqL K H b ys) ∨ (SqT K H a xs ∧ SqT K H b ys)) ∧ xs.length = ys.length ∧ xs.length ≤ 40000 ∧
    ∀ (i : Nat) (u v : V), xs[i]? = some u → ys[i]? = some v → Alike K H d u v
theorem Alike.ex {K : PySem.W.Frag} {H H' : Hp} (e : Ex H H') : ∀ {d : Nat} {x y : V}, Alike K H d x y → Alike K H' d x y
  | 0, _, _, h => h
  | d + 1, x, y, h => by
    rcases h with h | ⟨a, b, xs, ys, h1, h2, h3, h4, h5, h6⟩
    · exact .inl h
    · refine .inr ⟨a, b, xs, ys, h1, h2, ?_, h4, h5, fun i u v hu hv => Alike.ex e (h6 i u v hu hv)⟩
      rcases h3 with h3 | h3
      · exact .inl ⟨ex_l e h3.1, ex_l e h3.2⟩
      · exact .inr ⟨ex_t e h3.1, ex_t e h3.2⟩
def spSame (K : PySem.W.Frag) (d : Nat) : Sp := fun vs H Q _ => ∃ x y, vs = [x, y] ∧ Alike K H d x y ∧ RetV (.bl true) H Q
theorem has_none {P : Program} {w : World} {K : PySem.W.Frag} {mg : Str → Option Value} {base : Heap} {f : Addr} {fd : FuncData} {ps : List Str} : FnOk P w K mg base CX0 0 f fd ps (spSame K 0) :=
  ⟨fun _ _ _ _ h => by obtain ⟨_, _, _, h, _⟩ := h; exact h.elim, fun _ _ _ _ _ _ _ _ _ _ _ _ _ h => by obtain ⟨_, _, _, h, _⟩ := h; exact h.elim⟩
section
variable {K : PySem.W.Frag} {σ : L2.St} {H H' : Hp}
theorem el_same {d : Nat} {a b : Addr} {xs ys : List V} (hl : xs.length = ys.length) (hz : xs.length ≤ 40000) (h3 : (SqL K H a xs ∧ SqL K H b ys) ∨ (SqT K H a xs ∧ SqT K H b ys)) (h6 : ∀ (i : Nat) (u v : V), xs[i]? = some u → ys[i]? = some v → Alike K H d u v) :
    EvL (tLc (iZipA K (tCons (tVar 0) (tCons (tVar 1) tNil))) (gTup K 2 (gCons (gName 2) (gCons (gName 3) gNil))) tYes (tCall (spSame K d) [] E0 (tCons (tVar 2) (tCons (tVar 3) tNil))) [2, 3]) [some (.ref a), some (.ref b), none, none] H ((List.replicate xs.length true).map V.bl) := fun H0 e Q q => by
  have turn : ∀ (Dl : Addr) (i : Nat) (x : V) (H1 H2 : Hp), H0 Dl = none → i < xs.length → (Ex H0 H1 ∧ H1 Dl = some (.lst ((List.replicate i true).map V.bl))) → YPair (fun i => xs[i]?) (fun i => ys[i]?) i H1 x H2 →
      gTup K 2 (gCons (gName 2) (gCons (gName 3) gNil)) x (wipe [some (.ref a), some (.ref b), none, none] [2, 3]) H2 fun σ2 H3 => wipe σ2 [2, 3] = wipe [some (.ref a), some (.ref b), none, none] [2, 3] ∧ tYes σ2 H3 fun b H4 =>
      if b = true then tCall (spSame K d) [] E0 (tCons (tVar 2) (tCons (tVar 3) tNil)) σ2 H4 fun y H5 => ∃ acc, H5 Dl = some (.lst acc) ∧ acc.length < sizeLine ∧ (Ex H0 (upd H5 Dl (.lst (acc ++ [y]))) ∧ (upd H5 Dl (.lst (acc ++ [y]))) Dl = some (.lst ((List.replicate (i + 1) true).map V.bl))) else (Ex H0 H4 ∧ H4 Dl = some (.lst ((List.replicate (i + 1) true).map V.bl))) := by
    intro Dl i x H1 H2 hD hi p y
    obtain ⟨T, u, v, rfl, nT, rfl, hu, hv⟩ := y
    refine ⟨T, [u, v], rfl, st_of upd_same, rfl, u, [v], rfl, v, [], rfl, rfl, rfl, ?_⟩
    show tCall (spSame K d) [] E0 (tCons (tVar 2) (tCons (tVar 3) tNil)) _ _ _
    have e2 : Ex H0 (upd H1 T (.tup [u, v])) := p.1.trans (Ex.new nT)
    refine ⟨u, rfl, v, rfl, u, v, rfl, (h6 i u v hu hv).ex (e.trans e2), fun H5 e5 => ⟨_, e5 _ _ ((Ex.new nT) _ _ p.2), ?_, ?_, ?_⟩⟩
    · rw [List.length_map, List.length_replicate]
      exact sz_lt (by omega)
    · exact Ex.mut (e2.trans e5) hD
    · rw [upd_same, List.replicate_succ', List.map_append]
      rfl
  rcases h3 with ⟨ha, hb⟩ | ⟨ha, hb⟩
  · refine ⟨.ref a, rfl, .ref b, rfl, a, b, xs, ys, rfl, .inl ⟨ex_l e ha, ex_l e hb, fun Dl hD => ?_⟩⟩
    refine lc_it (walk_zip (n := xs.length) (xs := xs) (ys := ys) (by omega)) (fun i H1 => Ex H0 H1 ∧ H1 Dl = some (.lst ((List.replicate i true).map V.bl))) ⟨Ex.new hD, upd_same⟩ (fun i H1 _ p => ⟨ex_l (e.trans p.1) ha, ex_l (e.trans p.1) hb⟩) (fun i x H1 H2 hi p y => turn Dl i x H1 H2 hD hi p y) (fun H1 p => q Dl H1 hD p.1 p.2)
  · refine ⟨.ref a, rfl, .ref b, rfl, a, b, xs, ys, rfl, .inr ⟨ex_t e ha, ex_t e hb, fun Dl hD => ?_⟩⟩
    refine lc_it (walk_zipT (n := xs.length) (xs := xs) (ys := ys) (by omega)) (fun i H1 => Ex H0 H1 ∧ H1 Dl = some (.lst ((List.replicate i true).map V.bl))) ⟨Ex.new hD, upd_same⟩ (fun i H1 _ p => ⟨ex_t (e.trans p.1) ha, ex_t (e.trans p.1) hb⟩) (fun i x H1 H2 hi p y => turn Dl i x H1 H2 hD hi p y) (fun H1 p => q Dl H1 hD p.1 p.2)
theorem ev_allT {n : Nat} {te : TE} (h : EvL te σ H ((List.replicate n true).map V.bl)) : Ev (tCB (rAll K) (tCons te tNil)) σ H (.bl true) := fun H1 e Q q =>
  h H1 e _ fun p H2 hp e2 h2 => ⟨p, List.replicate n true, rfl, sq_of h2, by
    have e3 : (List.replicate n true).all id = true := by
      rw [List.all_eq_true]
      intro x hx
      rw [(List.mem_replicate.mp hx).2]
      rfl
    rw [e3]
    exact q H2 e2⟩
theorem ev_lenA {a : Addr} {xs : List V} {te : TE} (h : Ev te σ H (.ref a)) (h3 : SqL K H a xs ∨ SqT K H a xs) : Ev (tCB (rLenS K) (tCons te tNil)) σ H (.int (xs.length : Int)) := fun H1 e Q q =>
  h H1 e _ fun H2 e2 => ⟨a, xs, rfl, by
    rcases h3 with h3 | h3
    · exact .inl (ex_l (e.trans e2) h3)
    · exact .inr (ex_t (e.trans e2) h3), q H2 e2⟩
end
theorem kit_list {K : PySem.W.Frag} : PySem.W.kitAny K (.type "list") [.type "list", .type "tuple"] = some true := kitAny_cons (b := true) (kit_ty (by decide +kernel)) (fun h => by cases h) (fun _ => rfl)
theorem kit_tuple {K : PySem.W.Frag} : PySem.W.kitAny K (.type "tuple") [.type "list", .type "tuple"] = some true := kitAny_cons (b := false) (kit_ty (by decide +kernel)) (fun _ => kitAny_cons (b := true) (kit_ty (by decide +kernel)) (fun h => by cases h) (fun _ => rfl)) (fun h => by cases h)
theorem kit_int {K : PySem.W.Frag} : PySem.W.kitAny K (.type "int") [.type "list", .type "tuple"] = some false := kitAny_cons (b := false) (kit_ty (by decide +kernel)) (fun _ => kitAny_cons (b := false) (kit_ty (by decide +kernel)) (fun _ => kitAny_nil) (fun h => by cases h)) (fun h => by cases h)
theorem kit_bool {K : PySem.W.Frag} : PySem.W.kitAny K (.type "bool") [.type "list", .type "tuple"] = some false := kitAny_cons (b := false) (kit_ty (by decide +kernel)) (fun _ => kitAny_cons (b := false) (kit_ty (by decide +kernel)) (fun _ => kitAny_nil) (fun h => by cases h)) (fun h => by cases h)
theorem kit_str {K : PySem.W.Frag} : PySem.W.kitAny K (.type "str") [.type "list", .type "tuple"] = some false := kitAny_cons (b := false) (kit_ty (by decide +kernel)) (fun _ => kitAny_cons (b := false) (kit_ty (by decide +kernel)) (fun _ => kitAny_nil) (fun h => by cases h)) (fun h => by cases h)
theorem kit_non {K : PySem.W.Frag} : PySem.W.kitAny K (.type "NoneType") [.type "list", .type "tuple"] = some false := kitAny_cons (b := false) (kit_ty (by decide +kernel)) (fun _ => kitAny_cons (b := false) (kit_ty (by decide +kernel)) (fun _ => kitAny_nil) (fun h => by cases h)) (fun h => by cases h)
end HH
set_option maxHeartbeats 4000000
namespace HH
open PySem PySem.Spec PyProof.Rows L2 Evl RZ
def spOf (K : PySem.W.Frag) : Sp := fun vs H Q _ => ∃ (p l : Addr) (xs : List V) (n : Nat), vs = [.ref p, .ref l] ∧ SqL K H l xs ∧ 0 < xs.length ∧ xs.length < 100000 ∧ l ≠ p ∧ Bx H p n ∧ n < Lim ∧ ∀ (r : Nat) (x : V) H', xs[r]? = some x → ExB p H H' → Bx H' p (n + 1) → Q x H'
def spDip (K : PySem.W.Frag) : Sp := fun vs H Q _ => ∃ (a : Addr) (k : Nat) (ns : List Int), vs = [.ref a, .int (k : Int)] ∧ SqL K H a (ns.map V.int) ∧ k ≤ 100 ∧ ∀ p H', H p = none → Ex H H' → Bx H' p 0 → Q (.ref p) H'
def spFolded (K : PySem.W.Frag) : Sp := fun vs H Q _ => ∃ (a : Addr) (m : Nat) (ns : List Int), vs = [.ref a, .int (m : Int)] ∧ 0 < m ∧ m ≤ 10 ∧ SqL K H a (ns.map V.int) ∧ ns.length ≤ 63 ∧ ∀ p H' (ms : List Int), H p = none → Ex H H' → ms.length ≤ m → H' p = some (.lst (ms.map V.int)) → Q (.ref p) H'
def Tame (b : Int × Int) : Prop := -(10 ^ 12) < b.1 ∧ b.1 < 10 ^ 12 ∧ 0 ≤ b.2 ∧ b.2 < 10 ^ 12
def spRow (K : PySem.W.Frag) : Sp := fun vs H Q _ => ∃ (p : Addr) (m : Nat) (n : Nat), vs = [.ref p, .int (m : Int)] ∧ 0 < m ∧ m ≤ 30 ∧ Bx H p n ∧ n + 100 < Lim ∧ ∀ v H' (rs : Row), ExB p H H' → Bx H' p (n + 100) → RowAt K H' v rs → 0 < rs.length → rs.length ≤ m → (∀ b ∈ rs, Tame b) → Q v H'
section
variable {K : PySem.W.Frag} {σ : L2.St} {H H' : Hp} {ta tb te tx : TE} {x y z v : V} {D : Ends} {tz : TS}
theorem el_listN {xs : List V} (ha : EvL ta σ H xs) : EvL (tCB (rListS K) (tCons ta tNil)) σ H xs := fun H1 e Q q =>
  ha H1 e _ fun p H2 hp e2 h2 => ⟨p, xs, rfl, .inl (sq_of h2), fun l hl => q l _ (fresh_back e2 hl) (e2.trans (Ex.new hl)) upd_same⟩
theorem rc_abs {i : Int} : RC (fun xs H Q => ∃ i, xs = [.int i] ∧ Q (.int (if i < 0 then -i else i)) H) [.int i] H (.int (if i < 0 then -i else i)) := fun H1 _ _ q => ⟨i, rfl, q H1 (Ex.refl H1)⟩
theorem rc_intB {b : Bool} : RC (fun xs H Q => (∃ i, xs = [.int i] ∧ Q (.int i) H) ∨ ∃ k, xs = [.bl k] ∧ Q (.int (if k then 1 else 0)) H) [.bl b] H (.int (if b then 1 else 0)) := fun H1 _ _ q => .inr ⟨b, rfl, q H1 (Ex.refl H1)⟩
end
theorem at_ints {zs : List Int} {w : Int} (h0 : 0 ≤ w) (h1 : w < zs.length) : ∃ z, z ∈ zs ∧ atI (zs.map V.int) w = some (.int z) := by
  obtain ⟨k, rfl⟩ := Int.eq_ofNat_of_zero_le h0
  have hk : k < zs.length := by omega
  refine ⟨zs[k], List.getElem_mem hk, atI_nat ?_⟩
  rw [List.getElem?_map, List.getElem?_eq_getElem hk] <;> rfl
theorem b01 (b : Bool) : -(2 ^ 64) < (if b = true then (1 : Int) else 0) ∧ (if b = true then (1 : Int) else 0) < 2 ^ 64 := by
  cases b <;> decide
theorem b01n (b : Bool) : 0 ≤ (if b = true then (1 : Int) else 0) := by
  cases b <;> decide
theorem cut_ints (ns : List Int) (lo hi : Option Int) : ∃ ms : List Int, cutV (ns.map V.int) lo hi = ms.map V.int ∧ ms.length ≤ ns.length - HT.sIx ns.length 0 lo := by
  refine ⟨(ns.drop (HT.sIx ns.length 0 lo)).take (HT.sIx ns.length ns.length hi - HT.sIx ns.length 0 lo), ?_, ?_⟩
  · unfold cutV
    rw [List.length_map, List.map_take, List.map_drop]
  · rw [List.length_take, List.length_drop]
    omega
section
variable {K : PySem.W.Frag} {σ : L2.St} {H H' : Hp} {D : Ends} {tz tu : TS} {g : TG}
theorem q_forE {xs : List V} {tl : TE} (h : EvL tl σ H xs) (Pv : Addr → Nat → L2.St → Hp → Prop) (h0 : ∀ c H1, H c = none → Ex H H1 → H1 c = some (.lst xs) → Pv c 0 σ H1) (hl : ∀ c i σ' H', i ≤ xs.length → Pv c i σ' H' → SqL K H' c xs)
    (hs : ∀ c i x σ' H' T, xs[i]? = some x → Pv c i σ' H' → H' T = none → g (.ref T) σ' (upd H' T (.tup [.int (i : Nat), x])) fun σ2 H2 => tu { D with nx := Pv c (i + 1), ct := Pv c (i + 1), bk := tz D } σ2 H2) (hd : ∀ c σ' H', Pv c xs.length σ' H' → tz D σ' H') : tSeq (tFor (iEnum K (tCons tl tNil)) g tu) tz D σ H :=
  h H (Ex.refl H) _ fun c H1 hc e h1 => ⟨c, xs, rfl, sq_of h1, for_it (walk_enum (xs := xs)) (D := { D with nx := tz D }) (Pv c) (h0 c H1 hc e h1) (hl c) (fun i x σ' H' H2 hi p y => by
    obtain ⟨T, u, z, rfl, nT, rfl, hu, hz⟩ := y
    cases hu
    exact hs c i z σ' H' T hz p nT) (hd c)⟩
end
theorem fmod_nat (i m : Nat) : ((i : Nat) : Int).fmod ((m : Nat) : Int) = ((i % m : Nat) : Int) := by
  rw [Int.fmod_eq_emod_of_nonneg _ (Int.natCast_nonneg m)]
  rfl
theorem ExB.back {b p : Addr} {H H' : Hp} (e : ExB b H H') (h : H' p = none) (n : p ≠ b) : H p = none := by
  cases z : H p with
  | none => rfl
  | some o =>
    rw [e p o n z] at h
    cases h
theorem mul_bd {r i : Int} (h0 : 0 ≤ r) (h1 : r ≤ 3) (g0 : 0 ≤ i) (g1 : i ≤ 40) : 0 ≤ r * i ∧ r * i ≤ 120 :=
  ⟨Int.mul_nonneg h0 g0, Int.le_trans (Int.mul_le_mul h1 g1 g0 (by decide)) (by decide)⟩
end HH
set_option maxHeartbeats 4000000
namespace HH
open PySem PySem.Spec PyProof.Rows L2 Evl RZ
def Nice (k : Nat) (d : PyData) : Prop := d.canLay0 = true ∧ d.depth ≤ k
theorem nice_all {k : Nat} : ∀ {ds : List PyData}, (∀ d ∈ ds, Nice k d) → PyData.canLayAll0 ds = true ∧ PyData.depthAll ds ≤ k
  | [], _ => ⟨by simp [PyData.canLayAll0], by simp [PyData.depthAll]⟩
  | d :: ds, h => by
    have h1 := h d (List.mem_cons_self ..)
    have h2 := nice_all (fun e he => h e (List.mem_cons_of_mem _ he))
    refine ⟨by simp [PyData.canLayAll0, h1.1, h2.1], ?_⟩
    have e : PyData.depthAll (d :: ds) = max d.depth (PyData.depthAll ds) := by simp [PyData.depthAll]
    rw [e]
    have := h1.2
    have := h2.2
    omega
theorem nice_int (k : Nat) (i : Int) : Nice k (.int i) := ⟨by simp [PyData.canLay0], by simp [PyData.depth]⟩
theorem nice_str (k : Nat) (i : Str) (h : PyData.strOk i = true) : Nice k (.str i) := ⟨by simp [PyData.canLay0, h], by simp [PyData.depth]⟩
theorem nice_list {k : Nat} {ds : List PyData} (h : ∀ d ∈ ds, Nice k d) : Nice (k + 1) (.list ds) := ⟨by simp [PyData.canLay0, (nice_all h).1], by
  have := (nice_all h).2
  simp [PyData.depth]
  omega⟩
theorem nice_tuple {k : Nat} {ds : List PyData} (h : ∀ d ∈ ds, Nice k d) : Nice (k + 1) (.tuple ds) := ⟨by simp [PyData.canLay0, (nice_all h).1], by
  have := (nice_all h).2
  simp [PyData.depth]
  omega⟩
theorem Nice.shaped {k : Nat} {d : PyData} (h : Nice k d) (hk : k ≤ 64) : SeqAt.shaped d = true := by
  unfold SeqAt.shaped
  rw [h.1, decide_eq_true (Nat.le_trans h.2 hk)]
  rfl
theorem dp_ints {K : PySem.W.Frag} {H : Hp} : ∀ ns : List Int, DpAll K H (ns.map V.int) (ns.map PyData.int)
  | [] => .nil
  | n :: ns => .cons (.int n) (dp_ints ns)
theorem nice_ints (ns : List Int) : ∀ d ∈ ns.map PyData.int, Nice 0 d := fun d hd => by
  obtain ⟨i, _, rfl⟩ := List.mem_map.mp hd
  exact nice_int 0 i
mutual
theorem dp_ex {K : PySem.W.Frag} {H H' : Hp} (e : Ex H H') : ∀ {v : V} {d : PyData}, Dp K H v d → Dp K H' v d
  | _, _, .non => .non
  | _, _, .bl b => .bl b
  | _, _, .int i => .int i
  | _, _, .str x => .str x
  | _, _, .lst h g => .lst (ex_l e h) (dps_ex e g)
  | _, _, .tup h g => .tup (ex_t e h) (dps_ex e g)
theorem dps_ex {K : PySem.W.Frag} {H H' : Hp} (e : Ex H H') : ∀ {v : List V} {d : List PyData}, DpAll K H v d → DpAll K H' v d
  | _, _, .nil => .nil
  | _, _, .cons h g => .cons (dp_ex e h) (dps_ex e g)
end
theorem dps_len {K : PySem.W.Frag} {H : Hp} : ∀ {v : List V} {d : List PyData}, DpAll K H v d → v.length = d.length
  | _, _, .nil => rfl
  | _, _, .cons h g => by
    rw [List.length_cons, List.length_cons, dps_len g]
section
variable {K : PySem.W.Frag} {σ : L2.St} {H H' : Hp} {te : TE}
theorem et_neNil {k : Nat} {a : Addr} {xs : List V} {ds : List PyData} (h : Ev te σ H (.ref a)) (ha : SqL K H a xs) (hd : DpAll K H xs ds) (hn : ∀ d ∈ ds, Nice k d) (hk : k < 64) : EvT (tTest (tOp (rNeD K) te (tLst tNil))) σ H (!xs.isEmpty) := fun H1 e Q q =>
  h H1 e _ fun H2 e2 => ⟨by show 0 ≤ sizeLine; decide, fun p hp => by
    have e3 := (e.trans e2).trans (Ex.new (o := .lst []) hp)
    refine ⟨.list ds, .list [], .lst (ex_l e3 ha) (dps_ex e3 hd), .lst (sq_of upd_same) .nil, (nice_list hn).shaped (by omega), (nice_list (k := 0) (fun d h => by cases h)).shaped (by omega), _, rfl, ?_⟩
    have e4 : PyData.eqv (.list ds) (.list []) = xs.isEmpty := by
      have hl := dps_len hd
      cases ds with
      | nil =>
        have : xs = [] := List.length_eq_zero_iff.mp hl
        subst this
        simp [PyData.eqv, PyData.eqvAll]
      | cons d ds =>
        cases xs with
        | nil => cases hl
        | cons x xs => simp [PyData.eqv, PyData.eqvAll]
    rw [e4]
    exact q _ (e2.trans (Ex.new hp))⟩
end
theorem sS_at {pre post : Row} {x y : Int × Int} : sS (pre ++ x :: y :: post) pre.length = x.1 ∧ tS (pre ++ x :: y :: post) pre.length = x.2 ∧ sS (pre ++ x :: y :: post) (pre.length + 1) = y.1 ∧ tS (pre ++ x :: y :: post) (pre.length + 1) = y.2 := by
  unfold sS tS
  have h1 : (pre ++ x :: y :: post)[pre.length]? = some x := by
    rw [List.getElem?_append_right (Nat.le_refl _), Nat.sub_self]
    rfl
  have h2 : (pre ++ x :: y :: post)[pre.length + 1]? = some y := by
    rw [List.getElem?_append_right (by omega), show pre.length + 1 - pre.length = 1 by omega]
    rfl
  rw [h1, h2]
  exact ⟨rfl, rfl, rfl, rfl⟩
theorem split_take {pre post : Row} {x y : Int × Int} : (pre ++ x :: y :: post).take pre.length = pre ∧ (pre ++ x :: y :: post).drop (pre.length + 2) = post := by
  constructor
  · rw [List.take_append_of_le_length (Nat.le_refl _), List.take_length]
  · rw [← List.drop_drop, List.drop_append_of_le_length (Nat.le_refl _), List.drop_length]
    rfl
theorem pass_split {pre post : Row} {x y : Int × Int} : passR (pre ++ x :: y :: post) (pre.length + 1) = pre ++ (y.1 - x.2, y.2) :: x :: post := by
  unfold passR
  obtain ⟨h1, h2, h3, h4⟩ := sS_at (pre := pre) (post := post) (x := x) (y := y)
  obtain ⟨g1, g2⟩ := split_take (pre := pre) (post := post) (x := x) (y := y)
  rw [Nat.add_sub_cancel, h1, h2, h3, h4, g1, show pre.length + 1 + 1 = pre.length + 2 from rfl, g2, List.append_assoc]
  rfl
theorem fall_split {pre post : Row} {x y : Int × Int} : fallR (pre ++ x :: y :: post) pre.length = pre ++ y :: (x.1 + y.2, x.2) :: post := by
  unfold fallR
  obtain ⟨h1, h2, h3, h4⟩ := sS_at (pre := pre) (post := post) (x := x) (y := y)
  obtain ⟨g1, g2⟩ := split_take (pre := pre) (post := post) (x := x) (y := y)
  rw [h1, h2, h3, h4, g1, g2, List.append_assoc]
  rfl
theorem lets_split {pre post : Row} {x y : Int × Int} : letsN (pre ++ x :: y :: post) (pre.length + 1) = decide (y.1 - x.2 > x.1) := by
  unfold letsN
  obtain ⟨h1, h2, h3, h4⟩ := sS_at (pre := pre) (post := post) (x := x) (y := y)
  rw [Nat.add_sub_cancel, h1, h2, h3, decide_eq_true (Nat.succ_pos _), Bool.true_and]
theorem falls_split {pre post : Row} {x y : Int × Int} : fallsN (pre ++ x :: y :: post) pre.length = decide (x.1 > y.1) := by
  unfold fallsN
  obtain ⟨h1, h2, h3, h4⟩ := sS_at (pre := pre) (post := post) (x := x) (y := y)
  rw [h1, h3]
def tsum : Row → Int
  | [] => 0
  | b :: r => b.2 + tsum r
end HH
set_option maxHeartbeats 4000000
namespace HH
abbrev Cow := Nat × (Int × Int)
def Chk (id : Nat) : Int → List Cow → Prop
  | _, [] => True
  | c, y :: r => (y.1 < id → y.2.1 < c) ∧ Chk id (if y.1 < id then c + y.2.2 else c) r
def PInv : List Cow → Prop
  | [] => True
  | x :: r => Chk x.1 (x.2.1 + x.2.2) r ∧ PInv r
def FChk (id : Nat) : Int → List Cow → Prop
  | _, [] => True
  | c, y :: r => (y.1 < id → c < y.2.1) ∧ FChk id (if id < y.1 then c + y.2.2 else c) r
def FInv : List Cow → Prop
  | [] => True
  | x :: r => FChk x.1 x.2.1 r ∧ FInv r
def tag : Nat → Row → List Cow
  | _, [] => []
  | k, b :: r => (k, b) :: tag (k + 1) r
theorem tag_snd : ∀ (k : Nat) (rs : Row), (tag k rs).map (·.2) = rs
  | _, [] => rfl
  | k, b :: r => by
    show b :: (tag (k + 1) r).map (·.2) = b :: r
    rw [tag_snd]
theorem tag_fst : ∀ (k : Nat) (rs : Row), (tag k rs).map (·.1) = (List.range rs.length).map (k + ·)
  | _, [] => rfl
  | k, b :: r => by
    show k :: (tag (k + 1) r).map (·.1) = (List.range (r.length + 1)).map (k + ·)
    rw [tag_fst, List.range_succ_eq_map, List.map_cons, List.map_map]
    have e : (List.range r.length).map (fun x => k + 1 + x) = (List.range r.length).map ((fun x => k + x) ∘ Nat.succ) := List.map_congr_left fun i _ => by
      show k + 1 + i = k + (i + 1)
      omega
    rw [e]
    rfl
theorem tag_len (k : Nat) (rs : Row) : (tag k rs).length = rs.length := by
  have := congrArg List.length (tag_snd k rs)
  rw [List.length_map] at this
  exact this
theorem chk_tag : ∀ (id k : Nat) (c : Int) (rs : Row), id ≤ k → Chk id c (tag k rs)
  | _, _, _, [], _ => True.intro
  | id, k, c, b :: r, h => by
    refine ⟨fun h1 => ?_, ?_⟩
    · have h2 : k < id := h1
      omega
    · rw [if_neg (show ¬ k < id by omega)]
      exact chk_tag id (k + 1) c r (by omega)
theorem fchk_tag : ∀ (id k : Nat) (c : Int) (rs : Row), id ≤ k → FChk id c (tag k rs)
  | _, _, _, [], _ => True.intro
  | id, k, c, b :: r, h => by
    refine ⟨fun h1 => ?_, fchk_tag id (k + 1) _ r (by omega)⟩
    have h2 : k < id := h1
    omega
theorem pinv_tag : ∀ (k : Nat) (rs : Row), PInv (tag k rs)
  | _, [] => True.intro
  | k, b :: r => ⟨chk_tag k (k + 1) _ r (by omega), pinv_tag (k + 1) r⟩
theorem finv_tag : ∀ (k : Nat) (rs : Row), FInv (tag k rs)
  | _, [] => True.intro
  | k, b :: r => ⟨fchk_tag k (k + 1) _ r (by omega), finv_tag (k + 1) r⟩
theorem pinv_tail : ∀ {pre post : List Cow}, PInv (pre ++ post) → PInv post
  | [], _, h => h
  | _ :: pre, _, h => pinv_tail (pre := pre) h.2
theorem finv_tail : ∀ {pre post : List Cow}, FInv (pre ++ post) → FInv post
  | [], _, h => h
  | _ :: pre, _, h => finv_tail (pre := pre) h.2
theorem pinv_lt {pre post : List Cow} {a b : Cow} (h : PInv (pre ++ a :: b :: post)) (hp : b.2.1 - a.2.2 > a.2.1) (hne : a.1 ≠ b.1) : a.1 < b.1 := by
  have h1 := (pinv_tail h).1.1
  rcases Nat.lt_or_ge a.1 b.1 with h2 | h2
  · exact h2
  · have := h1 (by omega)
    omega
theorem finv_lt {pre post : List Cow} {a b : Cow} (h : FInv (pre ++ a :: b :: post)) (hp : a.2.1 > b.2.1) (hne : a.1 ≠ b.1) : a.1 < b.1 := by
  have h1 := (finv_tail h).1.1
  rcases Nat.lt_or_ge a.1 b.1 with h2 | h2
  · exact h2
  · have := h1 (by omega)
    omega
theorem chk_pass {id : Nat} {a b : Cow} {post : List Cow} (hab : a.1 < b.1) (ht : 0 ≤ b.2.2) (hp : b.2.1 - a.2.2 > a.2.1) : ∀ {pre : List Cow} {c : Int}, Chk id c (pre ++ a :: b :: post) → Chk id c (pre ++ (b.1, (b.2.1 - a.2.2, b.2.2)) :: a :: post)
  | [], c, h => by
    obtain ⟨h1, h2, h3⟩ := h
    show (b.1 < id → b.2.1 - a.2.2 < c) ∧ (a.1 < id → a.2.1 < if b.1 < id then c + b.2.2 else c) ∧ Chk id _ post
    by_cases hb : b.1 < id
    · have ha : a.1 < id := by omega
      rw [if_pos ha] at h2 h3
      rw [if_pos hb] at h3 ⊢
      have g1 := h1 ha
      have g2 := h2 hb
      refine ⟨fun _ => by omega, fun _ => by omega, ?_⟩
      rw [if_pos ha]
      have e : c + b.2.2 + a.2.2 = c + a.2.2 + b.2.2 := by omega
      show Chk id (c + b.2.2 + a.2.2) post
      rw [e]
      exact h3
    · rw [if_neg hb] at h3 ⊢
      refine ⟨fun z => absurd z hb, h1, ?_⟩
      exact h3
  | x :: pre, c, h => ⟨h.1, chk_pass hab ht hp (pre := pre) h.2⟩
theorem fchk_fall {id : Nat} {a b : Cow} {post : List Cow} (hab : a.1 < b.1) (ht : 0 ≤ b.2.2) (hp : a.2.1 > b.2.1) : ∀ {pre : List Cow} {c : Int}, FChk id c (pre ++ a :: b :: post) → FChk id c (pre ++ b :: (a.1, (a.2.1 + b.2.2, a.2.2)) :: post)
  | [], c, h => by
    obtain ⟨h1, h2, h3⟩ := h
    show (b.1 < id → c < b.2.1) ∧ (a.1 < id → (if id < b.1 then c + b.2.2 else c) < a.2.1 + b.2.2) ∧ FChk id (if id < a.1 then (if id < b.1 then c + b.2.2 else c) + a.2.2 else (if id < b.1 then c + b.2.2 else c)) post
    by_cases ha : id < a.1
    · have hb : id < b.1 := by omega
      rw [if_pos ha] at h2 h3
      rw [if_pos hb] at h3
      rw [if_pos ha, if_pos hb]
      refine ⟨fun z => by omega, fun z => by omega, ?_⟩
      have e : c + b.2.2 + a.2.2 = c + a.2.2 + b.2.2 := by omega
      rw [e]
      exact h3
    · rw [if_neg ha] at h2 h3
      rw [if_neg ha]
      by_cases hb : id < b.1
      · rw [if_pos hb] at h3
        rw [if_pos hb]
        refine ⟨fun z => by omega, fun z => ?_, h3⟩
        have := h1 z
        omega
      · rw [if_neg hb] at h3
        rw [if_neg hb]
        refine ⟨h2, fun z => ?_, h3⟩
        have := h1 z
        omega
  | x :: pre, c, h => ⟨h.1, fchk_fall hab ht hp (pre := pre) h.2⟩
theorem pinv_pass {a b : Cow} {post : List Cow} (hab : a.1 < b.1) (ht : 0 ≤ b.2.2) (hp : b.2.1 - a.2.2 > a.2.1) : ∀ {pre : List Cow}, PInv (pre ++ a :: b :: post) → PInv (pre ++ (b.1, (b.2.1 - a.2.2, b.2.2)) :: a :: post)
  | [], h => by
    obtain ⟨⟨_, h1⟩, h2, h3⟩ := h
    rw [if_neg (show ¬ b.1 < a.1 by omega)] at h1
    refine ⟨⟨fun _ => ?_, ?_⟩, h1, h3⟩
    · show a.2.1 < b.2.1 - a.2.2 + b.2.2
      omega
    · show Chk b.1 (if a.1 < b.1 then b.2.1 - a.2.2 + b.2.2 + a.2.2 else _) post
      rw [if_pos hab]
      have e : b.2.1 - a.2.2 + b.2.2 + a.2.2 = b.2.1 + b.2.2 := by omega
      rw [e]
      exact h2
  | x :: pre, h => ⟨chk_pass hab ht hp h.1, pinv_pass hab ht hp (pre := pre) h.2⟩
theorem finv_fall {a b : Cow} {post : List Cow} (hab : a.1 < b.1) (ht : 0 ≤ b.2.2) (hp : a.2.1 > b.2.1) : ∀ {pre : List Cow}, FInv (pre ++ a :: b :: post) → FInv (pre ++ b :: (a.1, (a.2.1 + b.2.2, a.2.2)) :: post)
  | [], h => by
    obtain ⟨⟨_, h1⟩, h2, h3⟩ := h
    rw [if_pos hab] at h1
    refine ⟨⟨fun _ => ?_, ?_⟩, h1, h3⟩
    · show b.2.1 < a.2.1 + b.2.2
      omega
    · show FChk b.1 (if b.1 < a.1 then b.2.1 + a.2.2 else b.2.1) post
      rw [if_neg (by omega)]
      exact h2
  | x :: pre, h => ⟨fchk_fall hab ht hp h.1, finv_fall hab ht hp (pre := pre) h.2⟩
def cnt (a : Nat) : List Nat → Nat
  | [] => 0
  | y :: r => (if a < y then 1 else 0) + cnt a r
def asc : List Nat → Nat
  | [] => 0
  | a :: r => cnt a r + asc r
theorem cnt_swap {x a b : Nat} {post : List Nat} : ∀ pre : List Nat, cnt x (pre ++ a :: b :: post) = cnt x (pre ++ b :: a :: post)
  | [] => by
    show (if x < a then 1 else 0) + ((if x < b then 1 else 0) + cnt x post) = (if x < b then 1 else 0) + ((if x < a then 1 else 0) + cnt x post)
    omega
  | y :: pre => by
    show (if x < y then 1 else 0) + cnt x (pre ++ a :: b :: post) = (if x < y then 1 else 0) + cnt x (pre ++ b :: a :: post)
    rw [cnt_swap pre]
theorem asc_swap {a b : Nat} {post : List Nat} (h : a < b) : ∀ pre : List Nat, asc (pre ++ a :: b :: post) = asc (pre ++ b :: a :: post) + 1
  | [] => by
    show ((if a < b then 1 else 0) + cnt a post) + (cnt b post + asc post) = ((if b < a then 1 else 0) + cnt b post) + (cnt a post + asc post) + 1
    rw [if_pos h, if_neg (by omega)]
    omega
  | x :: pre => by
    show cnt x (pre ++ a :: b :: post) + asc (pre ++ a :: b :: post) = cnt x (pre ++ b :: a :: post) + asc (pre ++ b :: a :: post) + 1
    rw [cnt_swap pre, asc_swap h pre]
    omega
theorem cnt_le (a : Nat) : ∀ l : List Nat, cnt a l ≤ l.length
  | [] => Nat.le_refl _
  | y :: r => by
    show (if a < y then 1 else 0) + cnt a r ≤ r.length + 1
    have := cnt_le a r
    split <;> omega
theorem asc_le : ∀ l : List Nat, asc l ≤ l.length * l.length
  | [] => Nat.le_refl _
  | a :: r => by
    show cnt a r + asc r ≤ (r.length + 1) * (r.length + 1)
    have h1 := cnt_le a r
    have h2 := asc_le r
    have e : (r.length + 1) * (r.length + 1) = r.length * r.length + 2 * r.length + 1 := by
      rw [Nat.add_mul, Nat.mul_add]
      omega
    omega
inductive PRun (L0 : List Cow) : List Cow → List (Int × Int) → Prop
  | nil : PRun L0 L0 []
  | step {pre post : List Cow} {a b : Cow} {ps : List (Int × Int)} : PRun L0 (pre ++ a :: b :: post) ps → b.2.1 - a.2.2 > a.2.1 → PRun L0 (pre ++ (b.1, (b.2.1 - a.2.2, b.2.2)) :: a :: post) (ps ++ [((a.1 : Int), (b.1 : Int))])
inductive FRun (L0 : List Cow) : List Cow → List (Int × Int) → Prop
  | nil : FRun L0 L0 []
  | step {pre post : List Cow} {a b : Cow} {ps : List (Int × Int)} : FRun L0 (pre ++ a :: b :: post) ps → a.2.1 > b.2.1 → FRun L0 (pre ++ b :: (a.1, (a.2.1 + b.2.2, a.2.2)) :: post) (ps ++ [((a.1 : Int), (b.1 : Int))])
structure Facts (n : Nat) (L : List Cow) (ps : List (Int × Int)) : Prop where
  len : L.length = n
  tl : ∀ x ∈ L, 0 ≤ x.2.2
  nd : (L.map (·.1)).Nodup
  few : ps.length + asc (L.map (·.1)) ≤ n * n
theorem nd_ne {pre post : List Cow} {a b : Cow} (h : ((pre ++ a :: b :: post).map (·.1)).Nodup) : a.1 ≠ b.1 := by
  rw [List.map_append] at h
  have h1 := (List.nodup_append.mp h).2.1
  intro e
  have h2 := (List.nodup_cons.mp h1).1
  apply h2
  show a.1 ∈ b.1 :: post.map (·.1)
  rw [e]
  exact List.mem_cons_self ..
theorem nd_swap {pre post : List Cow} {a b : Cow} {u v : Int × Int} (h : ((pre ++ a :: b :: post).map (·.1)).Nodup) : ((pre ++ (b.1, u) :: (a.1, v) :: post).map (·.1)).Nodup := by
  rw [List.map_append] at h ⊢
  refine (List.Perm.nodup_iff ?_).mp h
  exact List.Perm.append_left _ (List.Perm.swap ..)
theorem asc_step {pre post : List Cow} {a b : Cow} {u v : Int × Int} (h : a.1 < b.1) : asc ((pre ++ a :: b :: post).map (·.1)) = asc ((pre ++ (b.1, u) :: (a.1, v) :: post).map (·.1)) + 1 := by
  rw [List.map_append, List.map_append]
  exact asc_swap h (pre.map (·.1))
theorem facts_tag {rs : Row} (h : ∀ b ∈ rs, 0 ≤ b.2) : Facts rs.length (tag 0 rs) [] := by
  refine ⟨tag_len 0 rs, fun x hx => ?_, ?_, ?_⟩
  · apply h
    rw [← tag_snd 0 rs]
    exact List.mem_map_of_mem (f := (·.2)) hx
  · rw [tag_fst]
    have e : (fun x => 0 + x) = (id : Nat → Nat) := by
      funext x
      exact Nat.zero_add x
    rw [e, List.map_id]
    exact List.nodup_range
  · have := asc_le ((tag 0 rs).map (·.1))
    rw [List.length_map, tag_len] at this
    show 0 + asc _ ≤ _
    omega
theorem facts_pass {n : Nat} {pre post : List Cow} {a b : Cow} {ps : List (Int × Int)} {q : Int × Int} (f : Facts n (pre ++ a :: b :: post) ps) (i : PInv (pre ++ a :: b :: post)) (hp : b.2.1 - a.2.2 > a.2.1) :
    Facts n (pre ++ (b.1, (b.2.1 - a.2.2, b.2.2)) :: a :: post) (ps ++ [q]) ∧ PInv (pre ++ (b.1, (b.2.1 - a.2.2, b.2.2)) :: a :: post) ∧ asc ((pre ++ (b.1, (b.2.1 - a.2.2, b.2.2)) :: a :: post).map (·.1)) < asc ((pre ++ a :: b :: post).map (·.1)) := by
  have hab := pinv_lt i hp (nd_ne f.nd)
  have hs := asc_step (pre := pre) (post := post) (a := a) (b := b) (u := (b.2.1 - a.2.2, b.2.2)) (v := a.2) hab
  have hb := f.tl b (by simp)
  have ha := f.tl a (by simp)
  refine ⟨⟨?_, fun x hx => ?_, nd_swap (v := a.2) f.nd, ?_⟩, pinv_pass hab hb hp i, ?_⟩
  · rw [← f.len, List.length_append, List.length_append]
    rfl
  · rcases List.mem_append.mp hx with h | h
    · exact f.tl x (List.mem_append_left _ h)
    · rcases List.mem_cons.mp h with rfl | h
      · exact hb
      · rcases List.mem_cons.mp h with rfl | h
        · exact ha
        · exact f.tl x (by simp [h])
  · have := f.few
    rw [List.length_append]
    show ps.length + 1 + asc ((pre ++ (b.1, (b.2.1 - a.2.2, b.2.2)) :: (a.1, a.2) :: post).map (·.1)) ≤ n * n
    omega
  · show asc ((pre ++ (b.1, (b.2.1 - a.2.2, b.2.2)) :: (a.1, a.2) :: post).map (·.1)) < _
    omega
theorem facts_fall {n : Nat} {pre post : List Cow} {a b : Cow} {ps : List (Int × Int)} {q : Int × Int} (f : Facts n (pre ++ a :: b :: post) ps) (i : FInv (pre ++ a :: b :: post)) (hp : a.2.1 > b.2.1) :
    Facts n (pre ++ b :: (a.1, (a.2.1 + b.2.2, a.2.2)) :: post) (ps ++ [q]) ∧ FInv (pre ++ b :: (a.1, (a.2.1 + b.2.2, a.2.2)) :: post) ∧ asc ((pre ++ b :: (a.1, (a.2.1 + b.2.2, a.2.2)) :: post).map (·.1)) < asc ((pre ++ a :: b :: post).map (·.1)) := by
  have hab := finv_lt i hp (nd_ne f.nd)
  have hs := asc_step (pre := pre) (post := post) (a := a) (b := b) (u := b.2) (v := (a.2.1 + b.2.2, a.2.2)) hab
  have hb := f.tl b (by simp)
  have ha := f.tl a (by simp)
  refine ⟨⟨?_, fun x hx => ?_, nd_swap (u := b.2) f.nd, ?_⟩, finv_fall hab hb hp i, ?_⟩
  · rw [← f.len, List.length_append, List.length_append]
    rfl
  · rcases List.mem_append.mp hx with h | h
    · exact f.tl x (List.mem_append_left _ h)
    · rcases List.mem_cons.mp h with rfl | h
      · exact hb
      · rcases List.mem_cons.mp h with rfl | h
        · exact ha
        · exact f.tl x (by simp [h])
  · have := f.few
    rw [List.length_append]
    show ps.length + 1 + asc ((pre ++ (b.1, b.2) :: (a.1, (a.2.1 + b.2.2, a.2.2)) :: post).map (·.1)) ≤ n * n
    omega
  · show asc ((pre ++ (b.1, b.2) :: (a.1, (a.2.1 + b.2.2, a.2.2)) :: post).map (·.1)) < _
    omega
end HH
set_option maxHeartbeats 4000000
namespace HH
open PySem PySem.Spec PyProof.Rows L2 Evl RZ
def rowsOf (L : List Cow) : HH.Row := L.map (·.2)
def ordL (L : List Cow) : List V := L.map fun x => V.int (x.1 : Int)
theorem RowAt.exL {K : PySem.W.Frag} {H H' : Hp} {v : V} {rs : HH.Row} {q : Addr} {ys : List V} (h : RowAt K H v rs) (e : ExB q H H') (hy : H q = some (.lst ys)) : RowAt K H' v rs := by
  obtain ⟨a, vs, h1, h2, h3⟩ := h
  exact ⟨a, vs, h1, e.t hy h2, h3.exB e hy⟩
theorem cow_len (L : List Cow) : (rowsOf L).length = L.length := List.length_map ..
theorem cow_split {L : List Cow} {p : Nat} (h : p + 1 < L.length) : ∃ (pre : List Cow) (x y : Cow) (post : List Cow), L = pre ++ x :: y :: post ∧ pre.length = p := by
  refine ⟨L.take p, L[p], L[p + 1], L.drop (p + 2), ?_, by rw [List.length_take]; omega⟩
  rw [← List.drop_eq_getElem_cons h, ← List.drop_eq_getElem_cons (by omega), List.take_append_drop]
theorem rows_mid (pre post : List Cow) (x y : Cow) : rowsOf (pre ++ x :: y :: post) = rowsOf pre ++ x.2 :: y.2 :: rowsOf post := by
  unfold rowsOf
  rw [List.map_append, List.map_cons, List.map_cons]
theorem cow_pass {L : List Cow} {p : Nat} (hp : p < (rowsOf L).length) (hl : letsN (rowsOf L) p = true) : ∃ (pre post : List Cow) (a b : Cow), L = pre ++ a :: b :: post ∧ p = pre.length + 1 ∧ b.2.1 - a.2.2 > a.2.1 ∧ passR (rowsOf L) p = rowsOf (pre ++ (b.1, (b.2.1 - a.2.2, b.2.2)) :: a :: post) := by
  have h0 : 0 < p := of_decide_eq_true (Bool.and_eq_true_iff.mp hl).1
  rw [cow_len] at hp
  obtain ⟨k, rfl⟩ : ∃ k, p = k + 1 := ⟨p - 1, by omega⟩
  obtain ⟨pre, a, b, post, rfl, rfl⟩ := cow_split hp
  have e : pre.length = (rowsOf pre).length := (cow_len pre).symm
  rw [rows_mid, e, lets_split] at hl
  refine ⟨pre, post, a, b, rfl, rfl, of_decide_eq_true hl, ?_⟩
  rw [rows_mid, rows_mid, e, pass_split]
theorem cow_fall {L : List Cow} {p : Nat} (hp : p + 1 < (rowsOf L).length) (hl : fallsN (rowsOf L) p = true) : ∃ (pre post : List Cow) (a b : Cow), L = pre ++ a :: b :: post ∧ p = pre.length ∧ a.2.1 > b.2.1 ∧ fallR (rowsOf L) p = rowsOf (pre ++ b :: (a.1, (a.2.1 + b.2.2, a.2.2)) :: post) := by
  rw [cow_len] at hp
  obtain ⟨pre, a, b, post, rfl, rfl⟩ := cow_split hp
  have e : pre.length = (rowsOf pre).length := (cow_len pre).symm
  rw [rows_mid, e, falls_split] at hl
  refine ⟨pre, post, a, b, rfl, rfl, of_decide_eq_true hl, ?_⟩
  rw [rows_mid, rows_mid, e, fall_split]
theorem ord_tag (rs : HH.Row) : rgV 0 (rs.length : Int) = ordL (tag 0 rs) := by
  unfold rgV ordL
  have h := congrArg (List.map fun k : Nat => V.int (k : Int)) (tag_fst 0 rs)
  rw [List.map_map, List.map_map] at h
  refine Eq.trans ?_ h.symm
  rw [show ((rs.length : Int) - 0).toNat = rs.length by omega]
  refine List.map_congr_left fun i _ => ?_
  show V.int (0 + (i : Int)) = V.int ((0 + i : Nat) : Int)
  rw [Int.zero_add, Nat.zero_add]
section
variable {K : PySem.W.Frag} {σ : L2.St} {H H' : Hp} {te to ta tc : TE} {D : Ends} {tz : TS}
theorem q_sl {l : Addr} {xs ys : List V} {i j : Nat} {a c : Int} (h : EvL te σ H ys) (ho : Ev to σ H (.ref l)) (ha : Ev ta σ H (.int a)) (hc : Ev tc σ H (.int c)) (ea : a = (i : Int)) (ec : c = (j : Int)) (hl : H l = some (.lst xs)) (hij : i ≤ j) (hj : j ≤ xs.length) (hz : xs.length + ys.length ≤ 100000)
    (k : ∀ H1, Ex H H1 → tz D σ (upd H1 l (.lst (xs.take i ++ ys ++ xs.drop j)))) : tSeq (tAsg te (gSl to ta tc)) tz D σ H :=
  h H (Ex.refl H) _ fun b H1 hb e1 h1 => ho H1 e1 _ fun H2 e2 => ha H2 (e1.trans e2) _ fun H3 e3 => hc H3 ((e1.trans e2).trans e3) _ fun H4 e4 => by
    subst ea ec
    have e := (((e1.trans e2).trans e3).trans e4)
    exact ⟨l, b, xs, ys, (i : Int), (j : Int), rfl, rfl, rfl, rfl, e _ _ hl, ((e2.trans e3).trans e4) _ _ h1, ne_of_none hl hb, by omega, by omega, by omega, sz_of hz, k H4 e⟩
end
structure EndAt (K : PySem.W.Frag) (H H' : Hp) (p : Addr) (q : Addr) (v' : V) (ot lp : Addr) (pvs : List V) (L : List Cow) (ps : List (Int × Int)) (n : Nat) : Prop where
  ex : ExB p H H'
  bx : Bx H' p (n + 1000)
  q : H' q = some (.tup [v', .ref ot, .ref lp])
  row : RowAt K H' v' (rowsOf L)
  ord : H' ot = some (.tup (ordL L))
  lst : H' lp = some (.lst pvs)
  prs : Beasts K H' pvs ps
end HH
set_option maxHeartbeats 4000000
namespace HH
open PySem PySem.Spec PyProof.Rows L2 Evl RZ
inductive All2 {α : Type} (R : V → α → Prop) : List V → List α → Prop
  | nil : All2 R [] []
  | cons {v : V} {x : α} {vs : List V} {xs : List α} : R v x → All2 R vs xs → All2 R (v :: vs) (x :: xs)
theorem All2.mono {α : Type} {R S : V → α → Prop} (h : ∀ v x, R v x → S v x) : ∀ {vs : List V} {xs : List α}, All2 R vs xs → All2 S vs xs
  | _, _, .nil => .nil
  | _, _, .cons a b => .cons (h _ _ a) (All2.mono h b)
theorem All2.app {α : Type} {R : V → α → Prop} : ∀ {vs : List V} {xs : List α} {us : List V} {ys : List α}, All2 R vs xs → All2 R us ys → All2 R (vs ++ us) (xs ++ ys)
  | _, _, _, _, .nil, h => h
  | _, _, _, _, .cons a b, h => .cons a (All2.app b h)
theorem All2.len {α : Type} {R : V → α → Prop} : ∀ {vs : List V} {xs : List α}, All2 R vs xs → vs.length = xs.length
  | _, _, .nil => rfl
  | _, _, .cons a b => by rw [List.length_cons, List.length_cons, All2.len b]
theorem All2.get {α : Type} {R : V → α → Prop} : ∀ {vs : List V} {xs : List α} {i : Nat} {v : V}, All2 R vs xs → vs[i]? = some v → ∃ x, xs[i]? = some x ∧ R v x
  | _, _, _, _, .nil, h => by simp at h
  | _, _, 0, _, .cons a b, h => by
    cases h
    exact ⟨_, rfl, a⟩
  | _, _, i + 1, _, .cons a b, h => All2.get (i := i) b h
abbrev Deed := Bool × Nat
def wordOf (b : Bool) : Str := if b then "pass" else "fall"
def DeedAt (K : PySem.W.Frag) (H : Hp) (v : V) (d : Deed) : Prop := ∃ p, v = .ref p ∧ SqT K H p [.str (wordOf d.1), .int (d.2 : Int)]
theorem deeds_ex {K : PySem.W.Frag} {H H' : Hp} {vs : List V} {ds : List Deed} (e : Ex H H') (h : All2 (DeedAt K H) vs ds) : All2 (DeedAt K H') vs ds := h.mono fun v d g => by
  obtain ⟨p, h1, h2⟩ := g
  exact ⟨p, h1, ex_t e h2⟩
theorem deeds_exB {K : PySem.W.Frag} {H H' : Hp} {vs : List V} {ds : List Deed} {q : Addr} {ys : List V} (e : ExB q H H') (hq : H q = some (.lst ys)) (h : All2 (DeedAt K H) vs ds) : All2 (DeedAt K H') vs ds := h.mono fun v d g => by
  obtain ⟨p, h1, h2⟩ := g
  exact ⟨p, h1, e.t hq h2⟩
def deedD (d : Deed) : PyData := .tuple [.str (wordOf d.1), .int (d.2 : Int)]
theorem deeds_dp {K : PySem.W.Frag} {H : Hp} : ∀ {vs : List V} {ds : List Deed}, All2 (DeedAt K H) vs ds → DpAll K H vs (ds.map deedD)
  | _, _, .nil => .nil
  | _, _, .cons a b => by
    obtain ⟨p, rfl, h2⟩ := a
    exact .cons (.tup h2 (.cons (.str _) (.cons (.int _) .nil))) (deeds_dp b)
theorem word_ok (b : Bool) : PyData.strOk (wordOf b) = true := by
  cases b <;> decide +kernel
theorem deeds_nice (ds : List Deed) : ∀ d ∈ ds.map deedD, Nice 1 d := fun d hd => by
  obtain ⟨x, _, rfl⟩ := List.mem_map.mp hd
  refine nice_tuple (k := 0) fun y hy => ?_
  rcases List.mem_cons.mp hy with rfl | hy
  · exact nice_str 0 _ (word_ok _)
  · rcases List.mem_cons.mp hy with rfl | hy
    · exact nice_int 0 _
    · cases hy
section
variable {K : PySem.W.Frag} {σ : L2.St} {H H' : Hp} {t : TT}
end
inductive MRun (L0 : List Cow) : List Cow → List Deed → Prop
  | nil : MRun L0 L0 []
  | pass {pre post : List Cow} {a b : Cow} {ds : List Deed} : MRun L0 (pre ++ a :: b :: post) ds → b.2.1 - a.2.2 > a.2.1 → MRun L0 (pre ++ (b.1, (b.2.1 - a.2.2, b.2.2)) :: a :: post) (ds ++ [(true, pre.length + 1)])
  | fall {pre post : List Cow} {a b : Cow} {ds : List Deed} : MRun L0 (pre ++ a :: b :: post) ds → a.2.1 > b.2.1 → MRun L0 (pre ++ b :: (a.1, (a.2.1 + b.2.2, a.2.2)) :: post) (ds ++ [(false, pre.length)])
structure WanAt (K : PySem.W.Frag) (H H' : Hp) (p : Addr) (q : Addr) (v' : V) (ot lp : Addr) (us : List V) (L : List Cow) (ds : List Deed) (n m : Nat) : Prop where
  ex : ExB p H H'
  bx : Bx H' p (n + m)
  q : H' q = some (.tup [v', .ref ot, .ref lp])
  row : RowAt K H' v' (rowsOf L)
  ord : H' ot = some (.tup (ordL L))
  lst : H' lp = some (.lst us)
  prs : All2 (DeedAt K H') us ds
end HH
set_option maxHeartbeats 4000000
namespace HH
open PySem PySem.Spec PyProof.Rows L2 Evl RZ
section
variable {X : Cx}
end
section
variable {K : PySem.W.Frag} {σ : L2.St} {H H' : Hp} {te : TE} {D : Ends} {tz tu : TS} {g : TG}
theorem et_yes : EvT tYes σ H true := fun H1 _ _ q => q H1 (Ex.refl H1)
theorem given_all (n : Nat) (f : Nat → Bool) : given n (fun _ => true) (fun i => V.bl (f i)) = ((List.range n).map f).map V.bl := by
  unfold given
  rw [List.filter_eq_self.mpr (fun _ _ => rfl), List.map_map]
  rfl
end
def spRight : Sp := fun vs H Q _ => ∃ (p : Addr), vs = [.ref p] ∧ Bx H p 0 ∧ ∀ H', ExB p H H' → Q (.bl true) H'
def spLaw (K : PySem.W.Frag) : Sp := fun vs H Q _ => ∃ (a : Addr) (ns : List Int), vs = [.ref a] ∧ SqL K H a (ns.map V.int) ∧ ns.length ≤ 63 ∧ ∀ H', Q (.bl true) H'
theorem lim_ok {n : Nat} (h : n ≤ 100000000) : n < Lim := by
  have h1 : (2 : Nat) ^ 100 ≤ 2 ^ 4000 := Nat.pow_le_pow_right (by decide) (by decide)
  have h2 : (2 : Nat) ^ 100 = 1267650600228229401496703205376 := by decide
  have h3 : Lim = 2 ^ 4000 := rfl
  rw [h3]
  generalize (2 : Nat) ^ 4000 = L at *
  rw [h2] at h1
  omega
section
variable {K : PySem.W.Frag} {σ : L2.St} {H H' : Hp} {te t1 t2 : TE}
end
theorem q_call {sp : Sp} {dvs : List V} {E : XK} {ta : TA} {i : Nat} {D : Ends} {tz : TS} {σ : L2.St} {H : Hp} (h : ta σ H fun vs H1 => sp (vs ++ dvs) H1 (fun x H2 => tz D (σ.set i (some x)) H2) E) : tSeq (tAsg (tCall sp dvs E ta) (gName i)) tz D σ H := h
end HH
set_option maxHeartbeats 4000000
namespace HH
open PySem PySem.Spec PyProof.Rows L2 Evl RZ
structure FnG (P : Program) (w : World) (K : PySem.W.Frag) (mg : Str → Option Value) (base : Heap) (k : Nat) (f : Addr) (fd : FuncData) (ps : List Str) (sp : Sp) : Prop where
  len : ∀ vs H Q E, sp vs H Q E → vs.length = ps.length
  run : ∀ (A : Around) (outer : List Env) (s : Shared) (H : Hp) (args : Args) (us : List Value) (vs : List V) (Q : VK) (E : XK), A.guards = some [] → Room k A → Env0 P w K mg base A outer s H → BindsTo s fd args (ps.zip us) → Vals vs us → sp vs H Q E →
    codeAny (model P w) A (.call (.ref f) args) (CR CX0 outer P w H s Q E) s
theorem FnG.of {P : Program} {w : World} {K : PySem.W.Frag} {mg : Str → Option Value} {base : Heap} {k : Nat} {f : Addr} {x qual : Str} {params : Arguments} {body : List Stmt} {scope : Scope} {kws : List (Str × V)} {fd : FuncData} {N ps : List Str} {sp : Sp}
    (F : FunD K x qual params body scope [] kws f fd) (S : FnScope N ps scope) (len : ∀ vs H Q E, sp vs H Q E → vs.length = ps.length)
    (hbody : ∀ (cdv : Value) (A : Around) (outer : List Env) (s : Shared) (H : Hp) (vs : List V) (Q : VK) (E : XK), (A.deeper (envOfC qual scope s.heap.objs.size f cdv)).guards = some [] → Room k (A.deeper (envOfC qual scope s.heap.objs.size f cdv)) → sp vs H Q E →
      ∃ t, PSs (cxOf CX0 P w K mg base N qual scope f cdv A outer s H E) body t ∧ t { nx := fun _ H' => Q .non H', rt := Q } (start N vs) H) : FnG P w K mg base (k + 1) f fd ps sp := by
  obtain ⟨oc, od, dV, kV, doc, pm, an, cdv, ct, osl, rfl, lk, hcd, _, _⟩ := F.ex
  refine ⟨len, fun A outer s H args us vs Q E hg hr e0 hb r hsp => ?_⟩
  have inK : K.In s.heap := e0.mod.kin.keeps fun c o z => (e0.bs c o z).1
  have noL : s.heap.NoLimit := e0.mod.nolimit.keeps fun c o z => (e0.bs c o z).1
  have kinds : ∀ y ∈ ps.zip us, scope.names.lookup y.1 = some .local ∨ (scope.names.lookup y.1 = some .cell ∧ ((cellsFrom (s.heap.objs.size + 1) scope.names []).lookup y.1).isSome = true) := fun ⟨nm, v⟩ hy =>
    (S.par nm (List.of_mem_zip hy).1).elim .inl fun z => .inr ⟨z, PySem.W.cellsFrom_some _ _ _ (.inl z)⟩
  refine codeAny_call_function hr.depth (inK _ _ lk) rfl S.co S.gen rfl (PySem.W.codeRec_of inK hcd) (hb _ _ _ _ (wpAny_newFunctionEnv_cells S.kind kinds fun env he s1 x => ?_))
  subst he
  refine ⟨noL.keeps x.toInCall.keep, codeAny_func ?_⟩
  obtain ⟨t, ht, hq⟩ := hbody cdv A outer s H vs Q E hg (hr.deeper _) hsp
  have I0 := inv_start (CX := CX0) (E := E) S hr.hd e0 (len _ _ _ _ hsp) r x
  refine wpAny_mono (ht.run [] s1 (start N vs) H _ I0 hq) (fun fl s' hs => ?_) fun e s' hs => hs
  cases fl with
  | ret u =>
    obtain ⟨v, σ', H', J, rv, q⟩ := hs
    exact ⟨v, H', J.os, J.bare, J.base, J.hok, rv, q⟩
  | next =>
    obtain ⟨σ', H', J, q⟩ := hs
    exact ⟨.non, H', J.os, J.bare, J.base, J.hok, rfl, q⟩
  | brk => exact hs.elim fun _ z => z.elim fun _ z => z.2.elim
  | cont => exact hs.elim fun _ z => z.elim fun _ z => z.2.elim
structure HasG (P : Program) (w : World) (K : PySem.W.Frag) (mg : Str → Option Value) (base : Heap) (k : Nat) (x : Str) (ps : List Str) (sp : Sp) (f : Addr) (fd : FuncData) : Prop where
  G : FnG P w K mg base k f fd ps sp
  g : mg x = some (.ref f)
  kp : PySem.W.keepIn K (.ref f) = true
  b : Binds K fd ps []
section
variable {X : Cx}
end
end HH
set_option maxHeartbeats 4000000
namespace HH
open PySem PySem.Spec PyProof.Rows L2 Evl RZ
end HH
set_option maxHeartbeats 4000000
namespace HH
open PySem PySem.Spec PyProof.Rows L2 Evl RZ
section
variable {X : Cx}
def rGetN : V → V → Hp → VK → Prop := fun x y H Q => ∃ (l : Addr) (xs : List V) (j : Nat) (v : V), x = .ref l ∧ y = .int (j : Int) ∧ H l = some (.lst xs) ∧ xs[j]? = some v ∧ Q v H
theorem get_listN : PGet X rGetN := by
  intro pins s σ H o i ov iv Q I0 ro ri h
  obtain ⟨l, xs, j, v, rfl, rfl, hl, hv, q⟩ := h
  cases ro
  obtain ⟨t, rfl⟩ := ri
  obtain ⟨its, r, pl, hz⟩ := I0.list (SqL.of hl)
  obtain ⟨w, ew, rw'⟩ := r.get hv
  have hj : j < xs.length := (List.getElem?_eq_some_iff.mp hv).1
  have hn := line63
  exact wpAny_getItem_list pl.isList (Int.natCast_nonneg j) (by omega) (by simpa using ew) ⟨v, H, I0, rw', q⟩
end
def Step (L M : List Cow) : Prop := ∃ (pre post : List Cow) (a b : Cow), L = pre ++ a :: b :: post ∧ b.2.1 - a.2.2 > a.2.1 ∧ M = pre ++ (b.1, (b.2.1 - a.2.2, b.2.2)) :: a :: post
inductive Steps : List Cow → List Cow → Prop
  | refl (L : List Cow) : Steps L L
  | head {L M N : List Cow} : Step L M → Steps M N → Steps L N
theorem Steps.trans {L M N : List Cow} (h : Steps L M) (g : Steps M N) : Steps L N := by
  induction h with
  | refl => exact g
  | head s _ ih => exact .head s (ih g)
theorem Steps.one {L M : List Cow} (h : Step L M) : Steps L M := .head h (.refl M)
def Nf (L : List Cow) : Prop := ∀ M, ¬ Step L M
theorem Step.under {L M : List Cow} (pre post : List Cow) (h : Step L M) : Step (pre ++ L ++ post) (pre ++ M ++ post) := by
  obtain ⟨p, q, a, b, rfl, hp, rfl⟩ := h
  exact ⟨pre ++ p, q ++ post, a, b, by simp, hp, by simp⟩
theorem Steps.under {L M : List Cow} (pre post : List Cow) (h : Steps L M) : Steps (pre ++ L ++ post) (pre ++ M ++ post) := by
  induction h with
  | refl => exact .refl _
  | head s _ ih => exact .head (s.under pre post) ih
theorem three {a b c : Cow} (ta : 0 ≤ a.2.2) (tb : 0 ≤ b.2.2) (h1 : b.2.1 - a.2.2 > a.2.1) (h2 : c.2.1 - b.2.2 > b.2.1) :
    Steps [(b.1, (b.2.1 - a.2.2, b.2.2)), a, c] [(c.1, (c.2.1 - a.2.2 - b.2.2, c.2.2)), (b.1, (b.2.1 - a.2.2, b.2.2)), a] ∧ Steps [a, (c.1, (c.2.1 - b.2.2, c.2.2)), b] [(c.1, (c.2.1 - a.2.2 - b.2.2, c.2.2)), (b.1, (b.2.1 - a.2.2, b.2.2)), a] := by
  constructor
  · refine .head (M := [(b.1, (b.2.1 - a.2.2, b.2.2)), (c.1, (c.2.1 - a.2.2, c.2.2)), a]) ⟨[(b.1, (b.2.1 - a.2.2, b.2.2))], [], a, c, rfl, by omega, rfl⟩ (.one ⟨[], [a], (b.1, (b.2.1 - a.2.2, b.2.2)), (c.1, (c.2.1 - a.2.2, c.2.2)), rfl, by dsimp only; omega, rfl⟩)
  · have e : c.2.1 - a.2.2 - b.2.2 = c.2.1 - b.2.2 - a.2.2 := by omega
    rw [e]
    exact .head (M := [(c.1, (c.2.1 - b.2.2 - a.2.2, c.2.2)), a, b]) ⟨[], [b], a, (c.1, (c.2.1 - b.2.2, c.2.2)), rfl, by dsimp only; omega, rfl⟩ (.one ⟨[(c.1, (c.2.1 - b.2.2 - a.2.2, c.2.2))], [], a, b, rfl, h1, rfl⟩)
theorem splits {α : Type} : ∀ {p p' : List α} {a b a' b' : α} {q q' : List α}, p ++ a :: b :: q = p' ++ a' :: b' :: q' →
    (p = p' ∧ a = a' ∧ b = b' ∧ q = q') ∨ (∃ c, p' = p ++ [a] ∧ a' = b ∧ b' = c ∧ q = c :: q') ∨ (∃ c, p = p' ++ [a'] ∧ a = b' ∧ b = c ∧ q' = c :: q) ∨ (∃ m, p' = p ++ a :: b :: m ∧ q = m ++ a' :: b' :: q') ∨ (∃ m, p = p' ++ a' :: b' :: m ∧ q' = m ++ a :: b :: q)
  | [], [], _, _, _, _, _, _, h => by
    simp only [List.nil_append, List.cons.injEq] at h
    exact .inl ⟨rfl, h.1, h.2.1, h.2.2⟩
  | [], [x], a, b, a', b', q, q', h => by
    simp only [List.nil_append, List.cons_append, List.cons.injEq] at h
    exact .inr (.inl ⟨b', by simp [h.1], h.2.1.symm, rfl, h.2.2⟩)
  | [], x :: y :: m, a, b, a', b', q, q', h => by
    simp only [List.nil_append, List.cons_append, List.cons.injEq] at h
    exact .inr (.inr (.inr (.inl ⟨m, by simp [h.1, h.2.1], h.2.2⟩)))
  | [x], [], a, b, a', b', q, q', h => by
    simp only [List.nil_append, List.cons_append, List.cons.injEq] at h
    exact .inr (.inr (.inl ⟨b, by simp [h.1], h.2.1, rfl, h.2.2.symm⟩))
  | x :: y :: m, [], a, b, a', b', q, q', h => by
    simp only [List.nil_append, List.cons_append, List.cons.injEq] at h
    exact .inr (.inr (.inr (.inr ⟨m, by simp [h.1, h.2.1], h.2.2.symm⟩)))
  | x :: p, y :: p', a, b, a', b', q, q', h => by
    simp only [List.cons_append, List.cons.injEq] at h
    obtain ⟨rfl, h⟩ := h
    rcases splits h with ⟨rfl, k⟩ | ⟨c, rfl, k⟩ | ⟨c, rfl, k⟩ | ⟨m, rfl, k⟩ | ⟨m, rfl, k⟩
    · exact .inl ⟨rfl, k⟩
    · exact .inr (.inl ⟨c, rfl, k⟩)
    · exact .inr (.inr (.inl ⟨c, rfl, k⟩))
    · exact .inr (.inr (.inr (.inl ⟨m, rfl, k⟩)))
    · exact .inr (.inr (.inr (.inr ⟨m, rfl, k⟩)))
theorem near {L M N : List Cow} (ht : ∀ x ∈ L, 0 ≤ x.2.2) (h : Step L M) (g : Step L N) : ∃ J, Steps M J ∧ Steps N J := by
  obtain ⟨p, q, a, b, rfl, h1, rfl⟩ := h
  obtain ⟨p', q', a', b', e, h2, rfl⟩ := g
  rcases splits e with ⟨rfl, rfl, rfl, rfl⟩ | ⟨c, rfl, rfl, rfl, rfl⟩ | ⟨c, rfl, rfl, rfl, rfl⟩ | ⟨m, rfl, rfl⟩ | ⟨m, rfl, rfl⟩
  · exact ⟨_, .refl _, .refl _⟩
  · obtain ⟨s1, s2⟩ := three (a := a) (b := a') (c := b') (ht a (by simp)) (ht a' (by simp)) h1 h2
    refine ⟨p ++ [(b'.1, (b'.2.1 - a.2.2 - a'.2.2, b'.2.2)), (a'.1, (a'.2.1 - a.2.2, a'.2.2)), a] ++ q', ?_, ?_⟩
    · have := s1.under p q'
      simpa using this
    · have := s2.under p q'
      simpa using this
  · obtain ⟨s1, s2⟩ := three (a := a') (b := a) (c := b) (ht a' (by simp)) (ht a (by simp)) h2 h1
    refine ⟨p' ++ [(b.1, (b.2.1 - a'.2.2 - a.2.2, b.2.2)), (a.1, (a.2.1 - a'.2.2, a.2.2)), a'] ++ q, ?_, ?_⟩
    · have := s2.under p' q
      simpa using this
    · have := s1.under p' q
      simpa using this
  · refine ⟨p ++ (b.1, (b.2.1 - a.2.2, b.2.2)) :: a :: (m ++ (b'.1, (b'.2.1 - a'.2.2, b'.2.2)) :: a' :: q'), .one ⟨p ++ (b.1, (b.2.1 - a.2.2, b.2.2)) :: a :: m, q', a', b', by simp, h2, by simp⟩, .one ⟨p, m ++ (b'.1, (b'.2.1 - a'.2.2, b'.2.2)) :: a' :: q', a, b, by simp, h1, by simp⟩⟩
  · refine ⟨p' ++ (b'.1, (b'.2.1 - a'.2.2, b'.2.2)) :: a' :: (m ++ (b.1, (b.2.1 - a.2.2, b.2.2)) :: a :: q), .one ⟨p', m ++ (b.1, (b.2.1 - a.2.2, b.2.2)) :: a :: q, a', b', by simp, h2, by simp⟩, .one ⟨p' ++ (b'.1, (b'.2.1 - a'.2.2, b'.2.2)) :: a' :: m, q, a, b, by simp, h1, by simp⟩⟩
structure Good (L : List Cow) : Prop where
  tl : ∀ x ∈ L, 0 ≤ x.2.2
  nd : (L.map (·.1)).Nodup
  iv : PInv L
theorem Good.step {L M : List Cow} (g : Good L) (h : Step L M) : Good M ∧ asc (M.map (·.1)) < asc (L.map (·.1)) := by
  obtain ⟨p, q, a, b, rfl, h1, rfl⟩ := h
  obtain ⟨f1, f2, f3⟩ := facts_pass (n := (p ++ a :: b :: q).length) (ps := []) (q := (0, 0)) ⟨rfl, g.tl, g.nd, by
    have := asc_le ((p ++ a :: b :: q).map (·.1))
    rw [List.length_map] at this
    show 0 + _ ≤ _
    omega⟩ g.iv h1
  exact ⟨⟨f1.tl, f1.nd, f2⟩, f3⟩
theorem Good.steps {L M : List Cow} (g : Good L) (h : Steps L M) : Good M := by
  induction h with
  | refl => exact g
  | head s _ ih => exact ih (g.step s).1
theorem some_nf : ∀ (n : Nat) {L : List Cow}, Good L → asc (L.map (·.1)) ≤ n → ∃ N, Steps L N ∧ Nf N
  | n, L, g, h => by
    by_cases z : Nf L
    · exact ⟨L, .refl L, z⟩
    · have z' : ∃ M, Step L M := Classical.byContradiction fun e => z fun M s => e ⟨M, s⟩
      obtain ⟨M, s⟩ := z'
      obtain ⟨g2, lt⟩ := g.step s
      cases n with
      | zero => omega
      | succ n =>
        obtain ⟨N, s2, nf⟩ := some_nf n g2 (by omega)
        exact ⟨N, .head s s2, nf⟩
theorem one_nf : ∀ (n : Nat) {L N N' : List Cow}, Good L → asc (L.map (·.1)) ≤ n → Steps L N → Nf N → Steps L N' → Nf N' → N = N'
  | n, L, N, N', g, h, s, nf, s', nf' => by
    cases s with
    | refl =>
      cases s' with
      | refl => rfl
      | head t _ => exact (nf _ t).elim
    | @head _ M _ t u =>
      cases s' with
      | refl => exact (nf' _ t).elim
      | @head _ M' _ t' u' =>
        obtain ⟨J, j1, j2⟩ := near g.tl t t'
        obtain ⟨g2, l2⟩ := g.step t
        obtain ⟨g3, l3⟩ := g.step t'
        cases n with
        | zero => omega
        | succ n =>
          obtain ⟨O, so, nfo⟩ := some_nf _ (g2.steps j1) (Nat.le_refl _)
          have e1 := one_nf n g2 (by omega) u nf (j1.trans so) nfo
          have e2 := one_nf n g3 (by omega) u' nf' (j2.trans so) nfo
          rw [e1, e2]
theorem good_tag {rs : HH.Row} (h : ∀ b ∈ rs, 0 ≤ b.2) : Good (tag 0 rs) := ⟨(facts_tag h).tl, (facts_tag h).nd, pinv_tag 0 rs⟩
theorem Steps.snoc {L M N : List Cow} (h : Steps L M) (s : Step M N) : Steps L N := h.trans (.one s)
theorem PRun.steps {L0 L : List Cow} {ps : List (Int × Int)} (h : PRun L0 L ps) : Steps L0 L := by
  induction h with
  | nil => exact .refl _
  | step _ hp ih => exact ih.snoc ⟨_, _, _, _, rfl, hp, rfl⟩
end HH
set_option maxHeartbeats 4000000
namespace HH
open PySem PySem.Spec PyProof.Rows L2 Evl RZ
def NfR : List Cow → Prop
  | [] => True
  | [_] => True
  | a :: b :: r => ¬ (b.2.1 - a.2.2 > a.2.1) ∧ NfR (b :: r)
theorem nfr_tail {a : Cow} {r : List Cow} (h : NfR (a :: r)) : NfR r := by
  cases r with
  | nil => exact True.intro
  | cons b r => exact h.2
theorem nfr_nf : ∀ {L : List Cow}, NfR L → Nf L := by
  intro L h M s
  obtain ⟨p, q, a, b, rfl, hp, rfl⟩ := s
  induction p with
  | nil => exact h.1 hp
  | cons x p ih => exact ih (nfr_tail h)
theorem nfr_in {w : Cow} : ∀ {A B : List Cow}, NfR (A ++ B) → (∀ x, A.getLast? = some x → ¬ (w.2.1 - x.2.2 > x.2.1)) → (∀ b r, B = b :: r → ¬ (b.2.1 - w.2.2 > w.2.1)) → NfR (A ++ w :: B)
  | [], [], _, _, _ => True.intro
  | [], b :: r, h, _, g => ⟨g b r rfl, h⟩
  | [x], B, h, f, g => ⟨f x rfl, by
    have := nfr_in (w := w) (A := []) (B := B) (nfr_tail h) (fun _ z => by cases z) g
    exact this⟩
  | x :: y :: A, B, h, f, g => ⟨h.1, nfr_in (A := y :: A) (B := B) h.2 (fun z hz => f z (by rw [List.getLast?_cons_cons]; exact hz)) g⟩
def idsV (N : List Cow) : List V := N.map fun x => V.int (x.1 : Int)
structure Kept (S T : List Int) (N : List Cow) : Prop where
  s : ∀ x ∈ N, S[x.1]? = some x.2.1
  t : ∀ x ∈ N, T[x.1]? = some x.2.2
def ExB2 (a b : Addr) (H H' : Hp) : Prop := ∀ c o, c ≠ a → c ≠ b → H c = some o → H' c = some o
def spPassAll : Sp := fun vs H Q _ => ∃ (l sa ta : Addr) (N : List Cow) (S T : List Int) (who : Nat) (s0 t0 : Int), vs = [.ref l, .ref sa, .ref ta, .int (who : Int)] ∧ H l = some (.lst (idsV N)) ∧ H sa = some (.lst (S.map V.int)) ∧ H ta = some (.lst (T.map V.int)) ∧ l ≠ sa ∧ l ≠ ta ∧ sa ≠ ta ∧ Kept S T N ∧ S[who]? = some s0 ∧ T[who]? = some t0 ∧ (∀ x ∈ N, x.1 ≠ who) ∧ N.length ≤ 1000 ∧ 0 ≤ t0 ∧ NfR N ∧
  ∀ (A B : List Cow) (s : Int) H', N = A ++ B → Steps (N ++ [(who, (s0, t0))]) (A ++ (who, (s, t0)) :: B) → NfR (A ++ (who, (s, t0)) :: B) → H' l = some (.lst (idsV (A ++ (who, (s, t0)) :: B))) → H' sa = some (.lst ((S.set who s).map V.int)) → ExB2 l sa H H' → Q .non H'
structure LastAt (K : PySem.W.Frag) (H : Hp) (q : Addr) (L : List Cow) : Prop where
  ex : ∃ (v : V) (ot : Addr), H q = some (.tup [v, .ref ot]) ∧ RowAt K H v (rowsOf L) ∧ H ot = some (.tup (ordL L))
theorem LastAt.mono {K : PySem.W.Frag} {H H' : Hp} {q : Addr} {L : List Cow} (h : LastAt K H q L) (e : Ex H H') : LastAt K H' q L := by
  obtain ⟨v, ot, h1, h2, h3⟩ := h.ex
  exact ⟨v, ot, e _ _ h1, h2.ex e, e _ _ h3⟩
def spRowOrder (K : PySem.W.Frag) : Sp := fun vs H Q _ => ∃ (l sa ta : Addr) (N : List Cow) (S T : List Int), vs = [.ref l, .ref sa, .ref ta] ∧ H l = some (.lst (idsV N)) ∧ H sa = some (.lst (S.map V.int)) ∧ H ta = some (.lst (T.map V.int)) ∧ Kept S T N ∧ N.length ≤ 1000 ∧ ∀ q H', Ex H H' → LastAt K H' q N → Q (.ref q) H'
def spLast (K : PySem.W.Frag) : Sp := fun vs H Q _ => ∃ (v : V) (rs : HH.Row), vs = [v] ∧ RowAt K H v rs ∧ rs.length ≤ 1000 ∧ (∀ b ∈ rs, 0 ≤ b.2) ∧ ∀ q H' (L : List Cow), Ex H H' → LastAt K H' q L → Steps (tag 0 rs) L → NfR L → Q (.ref q) H'
section
variable {K : PySem.W.Frag} {σ : L2.St} {H H' : Hp} {te : TE} {v : V}
theorem getI {S : List Int} {j : Nat} {x : Int} (h : S[j]? = some x) : (S.map V.int)[j]? = some (.int x) := by
  rw [List.getElem?_map, h]
  rfl
theorem el_unzip {i j c : Nat} {vs : List Nat} {rs : HH.Row} (fst : Bool) (hr : RowAt K H v rs) (hl : rs.length ≤ 1000) (h : Ev te σ H v) (hw : ∀ x y, wipe (((wipe σ vs).set i (some x)).set j (some y)) vs = wipe σ vs) (hc : ∀ x y : V, (((wipe σ vs).set i (some x)).set j (some y))[c]? = some (some (if fst then x else y))) :
    EvL (tLc (iTup K te) (gTup K 2 (gCons (gName i) (gCons (gName j) gNil))) tYes (tVar c) vs) σ H (rs.map fun b => V.int (if fst then b.1 else b.2)) := fun H0 e Q q => by
  obtain ⟨a, us, rfl, ht, hb⟩ := hr
  refine h H0 e _ fun H1 e1 => ⟨a, rfl, ⟨us, ex_t (e.trans e1) ht⟩, fun Dl hD => ?_⟩
  refine lc_it (walk_tup (xs := us)) (fun k H2 => Ex H1 H2 ∧ H2 Dl = some (.lst ((rs.take k).map fun b => V.int (if fst then b.1 else b.2)))) ⟨Ex.new hD, upd_same⟩ (fun k H2 _ p => ex_t ((e.trans e1).trans p.1) ht) (fun k x H2 H3 hk p y => ?_) (fun H2 p => ?_)
  · obtain ⟨rfl, hx⟩ := y
    obtain ⟨p1, p2⟩ := p
    have hk' : k < rs.length := by rw [← hb.1]; exact hk
    obtain ⟨u, hu, bp, rfl, hbt⟩ := hb.2 k _ (List.getElem?_eq_getElem hk')
    rw [hx] at hu
    cases hu
    refine ⟨bp, _, rfl, ex_t ((e.trans e1).trans p1) hbt, rfl, _, _, rfl, _, _, rfl, rfl, hw _ _, ?_⟩
    refine ⟨_, hc _ _, _, p2, ?_, Ex.mut p1 hD, ?_⟩
    · rw [List.length_map, List.length_take]
      exact sz_lt (by omega)
    · rw [upd_same, List.take_add_one, List.getElem?_eq_getElem hk', List.map_append]
      cases fst <;> rfl
  · have e3 : rs.take us.length = rs := List.take_of_length_le (by rw [hb.1]; exact Nat.le_refl _)
    rw [e3] at p
    exact q Dl H2 (fresh_back e1 hD) (e1.trans p.1) p.2
end
theorem rows_get (rs : HH.Row) (k : Nat) (b : Int × Int) (h : rs[k]? = some b) : (rs.map (·.1))[k]? = some b.1 ∧ (rs.map (·.2))[k]? = some b.2 := by
  rw [List.getElem?_map, List.getElem?_map, h]
  exact ⟨rfl, rfl⟩
theorem tag_split : ∀ (k i : Nat) (rs : HH.Row) (b : Int × Int), rs[i]? = some b → tag (k + i) (rs.drop i) = (k + i, b) :: tag (k + i + 1) (rs.drop (i + 1))
  | k, 0, b' :: r, b, h => by
    cases h
    rfl
  | k, i + 1, c :: r, b, h => by
    have := tag_split (k + 1) i r b h
    show tag (k + (i + 1)) (r.drop i) = _
    rw [show k + (i + 1) = k + 1 + i by omega, this]
    rfl
  | _, 0, [], _, h => by cases h
  | _, _ + 1, [], _, h => by cases h
theorem set_self {α : Type} {S : List α} {k : Nat} {x : α} (h : S[k]? = some x) : S.set k x = S := by
  refine List.ext_getElem? fun i => ?_
  rw [List.getElem?_set]
  by_cases e : k = i
  · subst e
    rw [if_pos rfl, h, if_pos (List.getElem?_eq_some_iff.mp h).1]
  · rw [if_neg e]
theorem set_at {α : Type} {S : List α} {k : Nat} {x y : α} (h : S[k]? = some x) : (S.set k y)[k]? = some y := by
  rw [List.getElem?_set, if_pos rfl, if_pos (List.getElem?_eq_some_iff.mp h).1]
theorem set_off {α : Type} {S : List α} {k i : Nat} {y : α} (h : k ≠ i) : (S.set k y)[i]? = S[i]? := by
  rw [List.getElem?_set, if_neg h]
theorem idsV_at (A B : List Cow) (x : Cow) : (idsV (A ++ x :: B))[A.length]? = some (.int (x.1 : Int)) := by
  unfold idsV
  rw [List.map_append, List.getElem?_append_right (by rw [List.length_map]; exact Nat.le_refl _), List.length_map, Nat.sub_self]
  rfl
theorem idsV_len (A : List Cow) : (idsV A).length = A.length := List.length_map ..
theorem idsV_ins (A B : List Cow) (w : Cow) : (idsV (A ++ B)).take A.length ++ [.int (w.1 : Int)] ++ (idsV (A ++ B)).drop A.length = idsV (A ++ w :: B) := by
  unfold idsV
  rw [List.map_append, List.take_append_of_le_length (by rw [List.length_map]; exact Nat.le_refl _), List.drop_append_of_le_length (by rw [List.length_map]; exact Nat.le_refl _), List.take_of_length_le (by rw [List.length_map]; exact Nat.le_refl _), List.drop_of_length_le (by rw [List.length_map]; exact Nat.le_refl _), List.map_append, List.append_assoc]
  rfl
end HH
set_option maxHeartbeats 4000000
namespace HH
open PySem PySem.Spec PyProof.Rows L2 Evl RZ
section
variable {K : PySem.W.Frag} {σ : L2.St} {p : Addr} {ta tb te : TE} {D : Ends} {tz : TS}
end
end HH
set_option maxHeartbeats 4000000
namespace HH
open PySem PySem.Spec PyProof.Rows L2 Evl RZ
def beastD (b : Int × Int) : PyData := .tuple [.int b.1, .int b.2]
def rowD (rs : HH.Row) : PyData := .tuple (rs.map beastD)
theorem Beasts.uncons {K : PySem.W.Frag} {H : Hp} {v : V} {vs : List V} {b : Int × Int} {rs : HH.Row} (h : Beasts K H (v :: vs) (b :: rs)) : BeastAt K H v b ∧ Beasts K H vs rs := by
  refine ⟨?_, Nat.succ.inj h.1, fun i c hi => ?_⟩
  · obtain ⟨u, hu, g⟩ := h.2 0 b rfl
    cases hu
    exact g
  · obtain ⟨u, hu, g⟩ := h.2 (i + 1) c hi
    exact ⟨u, hu, g⟩
theorem beasts_dp {K : PySem.W.Frag} {H : Hp} : ∀ {vs : List V} {rs : HH.Row}, Beasts K H vs rs → DpAll K H vs (rs.map beastD)
  | [], [], _ => .nil
  | [], _ :: _, h => by cases h.1
  | _ :: _, [], h => by cases h.1
  | v :: vs, b :: rs, h => by
    obtain ⟨⟨p, rfl, hp⟩, h2⟩ := h.uncons
    exact .cons (.tup hp (.cons (.int _) (.cons (.int _) .nil))) (beasts_dp h2)
theorem RowAt.dp {K : PySem.W.Frag} {H : Hp} {v : V} {rs : HH.Row} (h : RowAt K H v rs) : ∃ a, v = .ref a ∧ Dp K H (.ref a) (rowD rs) := by
  obtain ⟨a, vs, rfl, h1, h2⟩ := h
  exact ⟨a, rfl, .tup h1 (beasts_dp h2)⟩
theorem nice_beast (b : Int × Int) : Nice 1 (beastD b) := nice_tuple (k := 0) fun d hd => by
  rcases List.mem_cons.mp hd with rfl | hd
  · exact nice_int 0 _
  · rcases List.mem_cons.mp hd with rfl | hd
    · exact nice_int 0 _
    · cases hd
theorem nice_row (rs : HH.Row) : Nice 2 (rowD rs) := nice_tuple fun d hd => by
  obtain ⟨b, _, rfl⟩ := List.mem_map.mp hd
  exact nice_beast b
theorem nice_mono {k j : Nat} {d : PyData} (h : Nice k d) (e : k ≤ j) : Nice j d := ⟨h.1, Nat.le_trans h.2 e⟩
def Low (b : Int × Int) : Prop := b.1.natAbs < 10 ^ 18 ∧ b.2.natAbs < 10 ^ 18
theorem Tame.low {b : Int × Int} (h : Tame b) : Low b := by
  unfold Tame at h
  have e : (10 : Int) ^ 12 = 1000000000000 := by decide
  have e2 : (10 : Nat) ^ 18 = 1000000000000000000 := by decide
  rw [e] at h
  unfold Low
  rw [e2]
  omega
section
variable {K : PySem.W.Frag} {σ : L2.St} {H H' : Hp} {te : TE} {v : V}
end
theorem Alike.up {K : PySem.W.Frag} {H : Hp} : ∀ {d : Nat} {x y : V}, Alike K H d x y → Alike K H (d + 1) x y
  | 0, _, _, h => h.elim
  | d + 1, x, y, h => by
    rcases h with h | ⟨a, b, xs, ys, h1, h2, h3, h4, h5, h6⟩
    · exact .inl h
    · exact .inr ⟨a, b, xs, ys, h1, h2, h3, h4, h5, fun i u v hu hv => (h6 i u v hu hv).up⟩
def lastD (L : List Cow) : PyData := .tuple [rowD (rowsOf L), .tuple ((L.map fun x => (x.1 : Int)).map PyData.int)]
theorem LastAt.dp {K : PySem.W.Frag} {H : Hp} {p : Addr} {L : List Cow} (h : LastAt K H p L) : Dp K H (.ref p) (lastD L) := by
  obtain ⟨v, ot, h1, h2, h3⟩ := h.ex
  obtain ⟨a, rfl, hd⟩ := h2.dp
  have e : ordL L = (L.map fun x => (x.1 : Int)).map V.int := by
    unfold ordL
    rw [List.map_map]
    rfl
  rw [e] at h3
  exact .tup (st_of h1) (.cons hd (.cons (.tup (st_of h3) (dp_ints _)) .nil))
end HH
set_option maxHeartbeats 4000000
namespace HH
open PySem PySem.Spec PyProof.Rows L2 Evl RZ
def FStep (L M : List Cow) : Prop := ∃ (pre post : List Cow) (a b : Cow), L = pre ++ a :: b :: post ∧ a.2.1 > b.2.1 ∧ M = pre ++ b :: (a.1, (a.2.1 + b.2.2, a.2.2)) :: post
inductive FSteps : List Cow → List Cow → Prop
  | refl (L : List Cow) : FSteps L L
  | head {L M N : List Cow} : FStep L M → FSteps M N → FSteps L N
theorem FSteps.trans {L M N : List Cow} (h : FSteps L M) (g : FSteps M N) : FSteps L N := by
  induction h with
  | refl => exact g
  | head s _ ih => exact .head s (ih g)
theorem FSteps.one {L M : List Cow} (h : FStep L M) : FSteps L M := .head h (.refl M)
def Ff (L : List Cow) : Prop := ∀ M, ¬ FStep L M
theorem FStep.under {L M : List Cow} (pre post : List Cow) (h : FStep L M) : FStep (pre ++ L ++ post) (pre ++ M ++ post) := by
  obtain ⟨p, q, a, b, rfl, hp, rfl⟩ := h
  exact ⟨pre ++ p, q ++ post, a, b, by simp, hp, by simp⟩
theorem FSteps.under {L M : List Cow} (pre post : List Cow) (h : FSteps L M) : FSteps (pre ++ L ++ post) (pre ++ M ++ post) := by
  induction h with
  | refl => exact .refl _
  | head s _ ih => exact .head (s.under pre post) ih
theorem threeF {a b c : Cow} (tb : 0 ≤ b.2.2) (tc : 0 ≤ c.2.2) (h1 : a.2.1 > b.2.1) (h2 : b.2.1 > c.2.1) :
    FSteps [b, (a.1, (a.2.1 + b.2.2, a.2.2)), c] [c, (b.1, (b.2.1 + c.2.2, b.2.2)), (a.1, (a.2.1 + b.2.2 + c.2.2, a.2.2))] ∧ FSteps [a, c, (b.1, (b.2.1 + c.2.2, b.2.2))] [c, (b.1, (b.2.1 + c.2.2, b.2.2)), (a.1, (a.2.1 + b.2.2 + c.2.2, a.2.2))] := by
  constructor
  · exact .head (M := [b, c, (a.1, (a.2.1 + b.2.2 + c.2.2, a.2.2))]) ⟨[b], [], (a.1, (a.2.1 + b.2.2, a.2.2)), c, rfl, by dsimp only; omega, rfl⟩ (.one ⟨[], [(a.1, (a.2.1 + b.2.2 + c.2.2, a.2.2))], b, c, rfl, h2, rfl⟩)
  · have e : a.2.1 + b.2.2 + c.2.2 = a.2.1 + c.2.2 + b.2.2 := by omega
    rw [e]
    exact .head (M := [c, (a.1, (a.2.1 + c.2.2, a.2.2)), (b.1, (b.2.1 + c.2.2, b.2.2))]) ⟨[], [(b.1, (b.2.1 + c.2.2, b.2.2))], a, c, rfl, by omega, rfl⟩ (.one ⟨[c], [], (a.1, (a.2.1 + c.2.2, a.2.2)), (b.1, (b.2.1 + c.2.2, b.2.2)), rfl, by dsimp only; omega, rfl⟩)
theorem nearF {L M N : List Cow} (ht : ∀ x ∈ L, 0 ≤ x.2.2) (h : FStep L M) (g : FStep L N) : ∃ J, FSteps M J ∧ FSteps N J := by
  obtain ⟨p, q, a, b, rfl, h1, rfl⟩ := h
  obtain ⟨p', q', a', b', e, h2, rfl⟩ := g
  rcases splits e with ⟨rfl, rfl, rfl, rfl⟩ | ⟨c, rfl, rfl, rfl, rfl⟩ | ⟨c, rfl, rfl, rfl, rfl⟩ | ⟨m, rfl, rfl⟩ | ⟨m, rfl, rfl⟩
  · exact ⟨_, .refl _, .refl _⟩
  · obtain ⟨s1, s2⟩ := threeF (a := a) (b := a') (c := b') (ht a' (by simp)) (ht b' (by simp)) h1 h2
    refine ⟨p ++ [b', (a'.1, (a'.2.1 + b'.2.2, a'.2.2)), (a.1, (a.2.1 + a'.2.2 + b'.2.2, a.2.2))] ++ q', ?_, ?_⟩
    · have := s1.under p q'
      simpa using this
    · have := s2.under p q'
      simpa using this
  · obtain ⟨s1, s2⟩ := threeF (a := a') (b := a) (c := b) (ht a (by simp)) (ht b (by simp)) h2 h1
    refine ⟨p' ++ [b, (a.1, (a.2.1 + b.2.2, a.2.2)), (a'.1, (a'.2.1 + a.2.2 + b.2.2, a'.2.2))] ++ q, ?_, ?_⟩
    · have := s2.under p' q
      simpa using this
    · have := s1.under p' q
      simpa using this
  · refine ⟨p ++ b :: (a.1, (a.2.1 + b.2.2, a.2.2)) :: (m ++ b' :: (a'.1, (a'.2.1 + b'.2.2, a'.2.2)) :: q'), .one ⟨p ++ b :: (a.1, (a.2.1 + b.2.2, a.2.2)) :: m, q', a', b', by simp, h2, by simp⟩, .one ⟨p, m ++ b' :: (a'.1, (a'.2.1 + b'.2.2, a'.2.2)) :: q', a, b, by simp, h1, by simp⟩⟩
  · refine ⟨p' ++ b' :: (a'.1, (a'.2.1 + b'.2.2, a'.2.2)) :: (m ++ b :: (a.1, (a.2.1 + b.2.2, a.2.2)) :: q), .one ⟨p', m ++ b :: (a.1, (a.2.1 + b.2.2, a.2.2)) :: q, a', b', by simp, h2, by simp⟩, .one ⟨p' ++ b' :: (a'.1, (a'.2.1 + b'.2.2, a'.2.2)) :: m, q, a, b, by simp, h1, by simp⟩⟩
structure FGood (L : List Cow) : Prop where
  tl : ∀ x ∈ L, 0 ≤ x.2.2
  nd : (L.map (·.1)).Nodup
  iv : FInv L
theorem FGood.step {L M : List Cow} (g : FGood L) (h : FStep L M) : FGood M ∧ asc (M.map (·.1)) < asc (L.map (·.1)) := by
  obtain ⟨p, q, a, b, rfl, h1, rfl⟩ := h
  obtain ⟨f1, f2, f3⟩ := facts_fall (n := (p ++ a :: b :: q).length) (ps := []) (q := (0, 0)) ⟨rfl, g.tl, g.nd, by
    have := asc_le ((p ++ a :: b :: q).map (·.1))
    rw [List.length_map] at this
    show 0 + _ ≤ _
    omega⟩ g.iv h1
  exact ⟨⟨f1.tl, f1.nd, f2⟩, f3⟩
theorem FGood.steps {L M : List Cow} (g : FGood L) (h : FSteps L M) : FGood M := by
  induction h with
  | refl => exact g
  | head s _ ih => exact ih (g.step s).1
theorem some_ff : ∀ (n : Nat) {L : List Cow}, FGood L → asc (L.map (·.1)) ≤ n → ∃ N, FSteps L N ∧ Ff N
  | n, L, g, h => by
    by_cases z : Ff L
    · exact ⟨L, .refl L, z⟩
    · have z' : ∃ M, FStep L M := Classical.byContradiction fun e => z fun M s => e ⟨M, s⟩
      obtain ⟨M, s⟩ := z'
      obtain ⟨g2, lt⟩ := g.step s
      cases n with
      | zero => omega
      | succ n =>
        obtain ⟨N, s2, nf⟩ := some_ff n g2 (by omega)
        exact ⟨N, .head s s2, nf⟩
theorem one_ff : ∀ (n : Nat) {L N N' : List Cow}, FGood L → asc (L.map (·.1)) ≤ n → FSteps L N → Ff N → FSteps L N' → Ff N' → N = N'
  | n, L, N, N', g, h, s, nf, s', nf' => by
    cases s with
    | refl =>
      cases s' with
      | refl => rfl
      | head t _ => exact (nf _ t).elim
    | @head _ M _ t u =>
      cases s' with
      | refl => exact (nf' _ t).elim
      | @head _ M' _ t' u' =>
        obtain ⟨J, j1, j2⟩ := nearF g.tl t t'
        obtain ⟨g2, l2⟩ := g.step t
        obtain ⟨g3, l3⟩ := g.step t'
        cases n with
        | zero => omega
        | succ n =>
          obtain ⟨O, so, nfo⟩ := some_ff _ (g2.steps j1) (Nat.le_refl _)
          have e1 := one_ff n g2 (by omega) u nf (j1.trans so) nfo
          have e2 := one_ff n g3 (by omega) u' nf' (j2.trans so) nfo
          rw [e1, e2]
theorem fgood_tag {rs : HH.Row} (h : ∀ b ∈ rs, 0 ≤ b.2) : FGood (tag 0 rs) := ⟨(facts_tag h).tl, (facts_tag h).nd, finv_tag 0 rs⟩
theorem FSteps.snoc {L M N : List Cow} (h : FSteps L M) (s : FStep M N) : FSteps L N := h.trans (.one s)
theorem FRun.steps {L0 L : List Cow} {ps : List (Int × Int)} (h : FRun L0 L ps) : FSteps L0 L := by
  induction h with
  | nil => exact .refl _
  | step _ hp ih => exact ih.snoc ⟨_, _, _, _, rfl, hp, rfl⟩
def FfR : List Cow → Prop
  | [] => True
  | [_] => True
  | a :: b :: r => ¬ (a.2.1 > b.2.1) ∧ FfR (b :: r)
theorem ffr_tail {a : Cow} {r : List Cow} (h : FfR (a :: r)) : FfR r := by
  cases r with
  | nil => exact True.intro
  | cons b r => exact h.2
theorem ffr_ff : ∀ {L : List Cow}, FfR L → Ff L := by
  intro L h M s
  obtain ⟨p, q, a, b, rfl, hp, rfl⟩ := s
  induction p with
  | nil => exact h.1 hp
  | cons x p ih => exact ih (ffr_tail h)
theorem ffr_in {w : Cow} : ∀ {A B : List Cow}, FfR (A ++ B) → (∀ x, A.getLast? = some x → ¬ (x.2.1 > w.2.1)) → (∀ b r, B = b :: r → ¬ (w.2.1 > b.2.1)) → FfR (A ++ w :: B)
  | [], [], _, _, _ => True.intro
  | [], b :: r, h, _, g => ⟨g b r rfl, h⟩
  | [x], B, h, f, g => ⟨f x rfl, by
    have := ffr_in (w := w) (A := []) (B := B) (ffr_tail h) (fun _ z => by cases z) g
    exact this⟩
  | x :: y :: A, B, h, f, g => ⟨h.1, ffr_in (A := y :: A) (B := B) h.2 (fun z hz => f z (by rw [List.getLast?_cons_cons]; exact hz)) g⟩
def spFallAll : Sp := fun vs H Q _ => ∃ (l sa ta : Addr) (N : List Cow) (S T : List Int) (who : Nat) (s0 t0 : Int), vs = [.ref l, .ref sa, .ref ta, .int (who : Int)] ∧ H l = some (.lst (idsV N)) ∧ H sa = some (.lst (S.map V.int)) ∧ H ta = some (.lst (T.map V.int)) ∧ l ≠ sa ∧ l ≠ ta ∧ sa ≠ ta ∧ Kept S T N ∧ S[who]? = some s0 ∧ T[who]? = some t0 ∧ (∀ x ∈ N, x.1 ≠ who ∧ 0 ≤ x.2.2) ∧ N.length ≤ 1000 ∧ FfR N ∧
  ∀ (A B : List Cow) (s : Int) H', N = A ++ B → FSteps ((who, (s0, t0)) :: N) (A ++ (who, (s, t0)) :: B) → FfR (A ++ (who, (s, t0)) :: B) → H' l = some (.lst (idsV (A ++ (who, (s, t0)) :: B))) → H' sa = some (.lst ((S.set who s).map V.int)) → ExB2 l sa H H' → Q .non H'
def spFirst (K : PySem.W.Frag) : Sp := fun vs H Q _ => ∃ (v : V) (rs : HH.Row), vs = [v] ∧ RowAt K H v rs ∧ rs.length ≤ 1000 ∧ (∀ b ∈ rs, 0 ≤ b.2) ∧ ∀ q H' (L : List Cow), Ex H H' → LastAt K H' q L → FSteps (tag 0 rs) L → FfR L → Q (.ref q) H'
theorem tag_snoc : ∀ (j : Nat) (rs : HH.Row) (b : Int × Int), tag j (rs ++ [b]) = tag j rs ++ [(j + rs.length, b)]
  | j, [], b => rfl
  | j, c :: r, b => by
    show (j, c) :: tag (j + 1) (r ++ [b]) = (j, c) :: (tag (j + 1) r ++ [(j + (r.length + 1), b)])
    rw [tag_snoc, show j + 1 + r.length = j + (r.length + 1) by omega]
theorem tag_take {rs : HH.Row} {k : Nat} {b : Int × Int} (h : rs[k]? = some b) : tag 0 (rs.take (k + 1)) = tag 0 (rs.take k) ++ [(k, b)] := by
  have hk := (List.getElem?_eq_some_iff.mp h).1
  rw [List.take_add_one, h]
  show tag 0 (rs.take k ++ [b]) = _
  rw [tag_snoc, List.length_take, Nat.zero_add, Nat.min_eq_left (by omega)]
section
variable {K : PySem.W.Frag} {σ : L2.St} {H : Hp} {D : Ends} {tz tu : TS}
theorem q_forRev {te : TE} {j n : Nat} (h : Ev te σ H (.int (n : Int))) (hn : n ≤ 100000) (Pv : Nat → L2.St → Hp → Prop) (h0 : ∀ H1, Ex H H1 → Pv 0 σ H1)
    (hs : ∀ i σ' H', i < n → Pv i σ' H' → tu { D with nx := Pv (i + 1), ct := Pv (i + 1), bk := tz D } (σ'.set j (some (.int ((n - 1 - i : Nat) : Int)))) H') (hd : ∀ σ' H', Pv n σ' H' → tz D σ' H') : tSeq (tFor (iRevR (tRg1 te)) (gName j) tu) tz D σ H :=
  h H (Ex.refl H) _ fun H1 e => ⟨(n : Int), rfl, by omega, by omega, by omega, by omega, by
    rw [show ((n : Int) - 0).toNat = n by omega]
    refine for_rangeC (D := { D with nx := tz D }) Pv (h0 H1 e) (fun i σ' H' hi p => ?_) hd
    rw [show (0 : Int) + ((n : Nat) : Int) - 1 + ((i : Nat) : Int) * (-1) = ((n - 1 - i : Nat) : Int) by omega]
    exact hs i σ' H' hi p⟩
end
theorem el_listRg {σ : L2.St} {H : Hp} {te : TE} {n : Nat} (h : Ev te σ H (.int (n : Int))) (hn : n ≤ 100000) : EvL (tLstRg (tRg1 te)) σ H (rgV 0 (n : Int)) := fun H1 e Q q =>
  h H1 e _ fun H2 e2 => ⟨(n : Int), rfl, RgOk.of_le (by decide) (by omega) (by decide) (by omega), fun p hp => q p _ (fresh_back e2 hp) (e2.trans (Ex.new hp)) upd_same⟩
end HH
set_option maxHeartbeats 4000000
namespace PySem
open Sem (wp)
open AutoSeq1 (wpAny_loadPart')
theorem meets_enum_newT (t : Addr) (items : Array Value) (n : Nat) (dct : Option Addr) (sl : Array (Option Value)) :
    Meets (Builtin.«enumerate.__new__» ⟨[.type "enumerate", .ref t], []⟩) (fun _ R s => s.heap.get? t = some { cls := .type "tuple", dict := dct, data := .seq items n, slots := sl } ∧
      R (.ok (.ret (.ref (s.heap.push { cls := .type "tuple_iterator", data := .fields #[.ref t, .int 0 0] }).objs.size)))
        { s with heap := (s.heap.push { cls := .type "tuple_iterator", data := .fields #[.ref t, .int 0 0] }).push { cls := .type "enumerate", data := .fields #[.none, .bool false, .ref s.heap.objs.size, rawInt 0, .none, .none] } }) :=
  .of_wp fun prog w A R s h => by
    obtain ⟨hp, g, d, tk, os⟩ := s; obtain ⟨hl, h⟩ := h
    have hsub := sub_enumerate
    have hT : Heap.IsTuple (Shared.heap ⟨hp, g, d, tk, os⟩) t items := ⟨_, hl, rfl, n, rfl⟩
    wp_walk using wpAny_loadPart' hl
    refine wpAny_stack_any fun st => wpAny_pure ?_
    split
    · rename_i c _ _ _ _ _
      cases (c == Value.type "enumerate")
      · wp_walk using wpAny_loadPart' hl, wpAny_pyIter_tuple hT
        exact ⟨_, rfl, h⟩
      · wp_walk using wpAny_loadPart' hl, wpAny_pyIter_tuple hT
        exact ⟨_, rfl, h⟩
    · wp_walk using wpAny_loadPart' hl, wpAny_pyIter_tuple hT
      exact ⟨_, rfl, h⟩
section
variable {prog : Program} {w : World} {A : Around} {E : Value → Shared → Prop} {s : Shared}
theorem call_enum_tuple {t : Addr} {items : Array Value} {Q : Value → Shared → Prop} (hL : s.heap.IsTuple t items)
    (h : ∀ h', IsEnum h' (s.heap.objs.size + 1) s.heap.objs.size 0 .none → h'.IsTupleIter s.heap.objs.size t 0 → h'.objs.size = s.heap.objs.size + 2 →
      (∀ b o, s.heap.get? b = some o → h'.get? b = some o) → Q (.ref (s.heap.objs.size + 1)) { s with heap := h' }) :
    wpAny (model prog w) A (call (.type "enumerate") [.ref t]) Q E s := by
  obtain ⟨⟨c, dct, dt, sl⟩, hl, hc, n, hd⟩ := hL
  replace hc : c = .type "tuple" := hc
  replace hd : dt = .seq items n := hd
  subst hc hd
  refine callType_new F.called_enumerate (by decide) (F.typeCall_enumerate_1 _) (F.newCall_enumerate_1 _) (fun obj => F.args_object_init_2 obj _) F.entry_enumerate_new
    (meets_enum_newT t items n dct sl) ⟨hl, ?_⟩
  have hz : (s.heap.push { cls := .type "tuple_iterator", data := .fields #[.ref t, .int 0 0] }).objs.size = s.heap.objs.size + 1 := Heap.size_push ..
  show _ ∧ _
  rw [hz]
  have he : IsEnum ((s.heap.push { cls := .type "tuple_iterator", data := .fields #[.ref t, .int 0 0] }).push
      { cls := .type "enumerate", data := .fields #[.none, .bool false, .ref s.heap.objs.size, rawInt 0, .none, .none] }) (s.heap.objs.size + 1) s.heap.objs.size 0 .none := by
    have := Heap.get?_push_size (s.heap.push { cls := .type "tuple_iterator", data := .fields #[.ref t, .int 0 0] })
      (o := { cls := .type "enumerate", data := .fields #[.none, .bool false, .ref s.heap.objs.size, rawInt 0, .none, .none] }) rfl
    rw [hz] at this; exact this
  refine ⟨⟨_, he, rfl⟩, h _ he ⟨_, Heap.get?_push_of_some _ (Heap.get?_push_size _ rfl), rfl, rfl⟩ (by rw [Heap.size_push, hz]) fun b o x => Heap.get?_push_of_some _ (Heap.get?_push_of_some _ x)⟩
end
end PySem
namespace HH
open PySem PySem.Spec PyProof.Rows L2 Evl RZ
def IteT (K : PySem.W.Frag) (a : Addr) : It :=
  ⟨fun i H => ∃ (xs : List V) (x : V), SqT K H a xs ∧ xs[i]? = some x, fun i H v H' => ∃ T x, v = .ref T ∧ H T = none ∧ H' = upd H T (.tup [.int (i : Nat), x]) ∧ ∀ xs, SqT K H a xs → xs[i]? = some x, fun i H => ∃ xs : List V, SqT K H a xs ∧ xs.length = i⟩
theorem turn_enumT {P : Program} {w : World} {K : PySem.W.Frag} {elts : List Expr} {kk : Nat} {tpos : Pos} (a e it : Addr) :
    Turn P w K (.Tuple elts kk tpos) (IteT K a) [e, it] e (fun i h => (∃ old, IsEnum h e it ((i : Nat) : Int) old) ∧ h.IsTupleIter it a i ∧ e ≠ it) where
  mem := by simp
  obj := fun i h st b hb => by
    obtain ⟨⟨old, he⟩, ⟨o, ho, hc, hd⟩, _⟩ := st
    have e' : b = e ∨ b = it := by simpa using hb
    rcases e' with z | z
    · rw [z]; exact ⟨_, he, fun v q => nomatch q⟩
    · rw [z]; exact ⟨o, ho, fun v q => by rw [hd] at q; cases q⟩
  keep := fun i h h' st k => let ⟨⟨old, he⟩, hi, hne⟩ := st; ⟨⟨old, k e (by simp) _ he⟩, hi.at fun o q => k it (by simp) o q, hne⟩
  item := by
    intro X hP hw hK hc i pins s σ H E I hf st hg
    subst hP hw hK
    obtain ⟨⟨old, he⟩, hit, hne⟩ := st
    obtain ⟨xs, x, hq, hx⟩ := hg
    obtain ⟨its, rv, p, hz⟩ := I.tuple hq
    obtain ⟨u, hu, ru⟩ := rv.get hx
    have hel : e < s.heap.objs.size := Heap.lt_size he
    have hil : it < s.heap.objs.size := by obtain ⟨_, q, _⟩ := hit; exact Heap.lt_size q
    have pT : s.heap.IsTuple a its.toArray := p
    have hHa : ∀ b ∈ [e, it], a ≠ b := fun b hb z => by
      obtain ⟨o, ho, hoc, _⟩ := (show s.heap.IsTuple a its.toArray from p)
      obtain ⟨o2, ho2, hc2, _⟩ := hit
      have e' : b = e ∨ b = it := by simpa using hb
      rcases e' with z' | z'
      · rw [z, z', he] at ho
        rw [← Option.some.inj ho] at hoc
        revert hoc
        simp
      · rw [z, z', ho2] at ho
        rw [← Option.some.inj ho, hc2] at hoc
        revert hoc
        simp
    have hae : a ≠ e := hHa e (by simp)
    have hai : a ≠ it := hHa it (by simp)
    have hlt : i < its.toArray.size := by
      have := (List.getElem?_eq_some_iff.mp hu).1
      simpa using this
    refine wpAny_pyNext_enum_itemD (Draws.tuple (A := X.A.in1) (I.ok.hd hc) it a hai its.toArray) he ⟨hit, pT⟩ hlt hne (by simp; exact ⟨hne, Ne.symm hae⟩) fun y h' tk hy ho hst hT hsz hk => ?_
    have hyu : y = u := by
      have : its.toArray[i]? = some u := by simpa using hu
      rw [hy] at this
      exact Option.some.inj this
    subst hyu
    obtain ⟨hit', _⟩ := hst
    refine ⟨_, rfl, wpAny_letOwnedTupleGo_enum (s := { s with heap := h', toks := tk + 1 }) ho fun h'' he' sb => ?_⟩
    have hT2 : h''.get? s.heap.objs.size = some { cls := .type "tuple", data := .seq #[.int i tk, y] } := (sb.2 _ (Nat.ne_of_gt hel)).trans hT
    have new : ObjOk X.prog X.w (upd H s.heap.objs.size (.tup [.int (i : Nat), x])) h'' s.heap.objs.size (.tup [.int (i : Nat), x]) :=
      ⟨by show 2 ≤ sizeLine; decide, [.int i tk, y], .cons ⟨_, rfl⟩ (.cons ru .nil), ⟨_, hT2, rfl, _, rfl⟩⟩
    have I1 : Inv X pins σ (upd H s.heap.objs.size (.tup [.int (i : Nat), x])) { s with heap := h'', toks := tk + 1 } :=
      I.turnedNew (ch := [e, it]) (fun b ob hb q => (sb.2 b (fun z => hb (by simp [z]))).trans (hk b ob (fun z => hb (by simp [z])) (fun z => hb (by simp [z])) q)) hf (Nat.le_refl _) new
    refine ⟨.ref s.heap.objs.size, _, I1, rfl, ⟨_, x, rfl, I.hok.fresh (Nat.le_refl _), rfl, fun ys hy => by rw [I.tuple_inj hy hq]; exact hx⟩, ⟨⟨y, ?_⟩, hit'.at fun o q => (sb.2 it (Ne.symm hne)).trans q, hne⟩, fun b hb => ?_⟩
    · have e1 : ((i + 1 : Nat) : Int) = (i : Int) + 1 := by omega
      rw [e1]; exact he'
    · have hb' : b < s.heap.objs.size := by
        have e' : b = e ∨ b = it := by simpa using hb
        rcases e' with z | z
        · rw [z]; exact hel
        · rw [z]; exact hil
      rw [upd_ne (Nat.ne_of_lt hb')]
      exact (hf b hb).1
  done := by
    intro X hP hw hK hc i pins s σ H E I hf st hg
    subst hP hw hK
    obtain ⟨⟨old, he⟩, hit, hne⟩ := st
    obtain ⟨xs, hq, hx⟩ := hg
    obtain ⟨its, rv, p, hz⟩ := I.tuple hq
    have hHa : ∀ b ∈ [e, it], a ≠ b := fun b hb z => by
      obtain ⟨o, ho, hoc, _⟩ := (show s.heap.IsTuple a its.toArray from p)
      obtain ⟨o2, ho2, hc2, _⟩ := hit
      have e' : b = e ∨ b = it := by simpa using hb
      rcases e' with z' | z'
      · rw [z, z', he] at ho
        rw [← Option.some.inj ho] at hoc
        revert hoc
        simp
      · rw [z, z', ho2] at ho
        rw [← Option.some.inj ho, hc2] at hoc
        revert hoc
        simp
    have hai : a ≠ it := hHa it (by simp)
    have pT : s.heap.IsTuple a its.toArray := p
    obtain ⟨f0, f1, f2, f3, f4, f5⟩ := hf it (by simp)
    have hl := rv.length
    have hn : its.toArray.size = i := by simp; omega
    exact wpAny_pyNext_enum_endD (Draws.tuple (A := X.A.in1) (I.ok.hd hc) it a hai its.toArray) he (by rw [hn]; exact ⟨hit, pT⟩) fun h' eb => ⟨rfl, I.turned (t' := s.toks) (fun b o hb q => eb b o hb q) f0 f1 f3 f4 f5⟩
  self := fun A i s Q E st h => let ⟨⟨_, he⟩, _⟩ := st; wpAny_pyIter_enum he h
def iEnumT (K : PySem.W.Frag) (ta : TA) : TI := fun σ H R => ta σ H fun vs H1 => ∃ a xs, vs = [.ref a] ∧ SqT K H1 a xs ∧ R (IteT K a) H1
theorem pi_enumT {X : Cx} {e : Expr} {ta : TA} {p pos tpos : Pos} {elts : List Expr} {kk : Nat} (hg : Gl X "enumerate") (hm : X.mg "enumerate" = none) (ha : PA X [e] ta) (hs : starEach [e] X.env = [(false, eval e X.env)] := by rfl) :
    PI X (.Tuple elts kk tpos) (.Call (.Name "enumerate" p) [e] [] pos) (iEnumT X.K ta) := by
  refine ⟨fun pins s σ H R I h => ?_⟩
  refine Call_ (ld_blt I hg hm boot_enumerate (PyProof.Rows.callWith_type1 (thn (ha.run pos pins s σ H _ I h) fun us s1 ⟨vs, H1, I1, r1, q1⟩ => ?_) hs rfl))
  obtain ⟨a, xs, ex, hq, q⟩ := q1
  subst ex
  cases r1 with
  | cons r rr =>
    cases rr
    cases r
    obtain ⟨its, rv, p', hz⟩ := I1.tuple hq
    refine call_enum_tuple (show s1.heap.IsTuple a its.toArray from p') fun h' he hit hsz hk => wpAny_pyIter_enum he ?_
    have I2 : Inv X pins σ H1 { s1 with heap := h' } := I1.kept (t' := s1.toks) hk
    refine ⟨s1.heap.objs.size + 1, [s1.heap.objs.size + 1, s1.heap.objs.size], _, _, H1, rfl, I2, turn_enumT a (s1.heap.objs.size + 1) s1.heap.objs.size, ⟨⟨.none, he⟩, hit, Nat.succ_ne_self _⟩, fun b hb => ?_, q⟩
    have e' : b = s1.heap.objs.size + 1 ∨ b = s1.heap.objs.size := by simpa using hb
    have hle : s1.heap.objs.size ≤ b := by
      rcases e' with z | z
      · rw [z]; exact Nat.le_add_right _ _
      · rw [z]; exact Nat.le_refl _
    exact I1.fpOk hle (I1.hok.fresh hle)
theorem walk_enumT {K : PySem.W.Frag} {a : Addr} {xs : List V} : Walk (IteT K a) xs.length (fun H => SqT K H a xs) (YPair (fun i => some (.int (i : Nat))) (fun i => xs[i]?)) := by
  refine ⟨fun i _ hi q => ⟨xs, xs[i], q, by simp [hi]⟩, fun _ q => ⟨xs, q, rfl⟩, fun i H v H' _ q y => ?_⟩
  obtain ⟨T, x, h1, h2, h3, h4⟩ := y
  exact ⟨T, .int (i : Nat), x, h1, h2, h3, rfl, h4 xs q⟩
end HH
set_option maxHeartbeats 4000000
namespace HH
open PySem PySem.Spec PyProof.Rows L2 Evl RZ
def bef : List Nat → Nat → Nat → Bool
  | [], _, _ => false
  | x :: r, j, i => (decide (x = j) && decide (i ∈ r)) || bef r j i
theorem bef_cons {x : Nat} {r : List Nat} {j i : Nat} : bef (x :: r) j i = true ↔ (x = j ∧ i ∈ r) ∨ bef r j i = true := by
  simp [bef]
theorem bef_mem : ∀ {l : List Nat} {j i : Nat}, bef l j i = true → j ∈ l ∧ i ∈ l
  | [], _, _, h => by cases h
  | x :: r, j, i, h => by
    rcases bef_cons.mp h with ⟨rfl, h1⟩ | h1
    · exact ⟨List.mem_cons_self .., List.mem_cons_of_mem _ h1⟩
    · exact ⟨List.mem_cons_of_mem _ (bef_mem h1).1, List.mem_cons_of_mem _ (bef_mem h1).2⟩
theorem bef_swap {a b i j : Nat} {B : List Nat} (hab : a < b) (hij : i < j) : ∀ A : List Nat, bef (A ++ b :: a :: B) j i = true ↔ bef (A ++ a :: b :: B) j i = true ∨ (i = a ∧ j = b)
  | [] => by
    rw [List.nil_append, List.nil_append, bef_cons, bef_cons, bef_cons, bef_cons, List.mem_cons, List.mem_cons]
    constructor
    · rintro (⟨h1, h2 | h2⟩ | ⟨h1, h2⟩ | h)
      · exact .inr ⟨h2, h1.symm⟩
      · exact .inl (.inr (.inl ⟨h1, h2⟩))
      · exact .inl (.inl ⟨h1, .inr h2⟩)
      · exact .inl (.inr (.inr h))
    · rintro ((⟨h1, h2 | h2⟩ | ⟨h1, h2⟩ | h) | ⟨h1, h2⟩)
      · omega
      · exact .inr (.inl ⟨h1, h2⟩)
      · exact .inl ⟨h1, .inr h2⟩
      · exact .inr (.inr h)
      · exact .inl ⟨h2.symm, .inl h1⟩
  | x :: A => by
    rw [List.cons_append, List.cons_append, bef_cons, bef_cons, bef_swap hab hij A]
    have e : i ∈ A ++ b :: a :: B ↔ i ∈ A ++ a :: b :: B := by
      rw [List.mem_append, List.mem_append, List.mem_cons, List.mem_cons, List.mem_cons, List.mem_cons]
      constructor
      · rintro (h | h | h | h)
        · exact .inl h
        · exact .inr (.inr (.inl h))
        · exact .inr (.inl h)
        · exact .inr (.inr (.inr h))
      · rintro (h | h | h | h)
        · exact .inl h
        · exact .inr (.inr (.inl h))
        · exact .inr (.inl h)
        · exact .inr (.inr (.inr h))
    rw [e]
    constructor
    · rintro (h | h | h)
      · exact .inl (.inl h)
      · exact .inl (.inr h)
      · exact .inr h
    · rintro ((h | h) | h)
      · exact .inl h
      · exact .inr (.inl h)
      · exact .inr (.inr h)
theorem bef_lt : ∀ {l : List Nat} {p q j i : Nat}, l[p]? = some j → l[q]? = some i → p < q → bef l j i = true
  | [], p, q, j, i, h, _, _ => by cases h
  | x :: r, 0, 0, j, i, _, _, h => absurd h (Nat.lt_irrefl 0)
  | x :: r, 0, q + 1, j, i, h1, h2, _ => by
    have e : x = j := Option.some.inj h1
    exact bef_cons.mpr (.inl ⟨e, List.mem_of_getElem? (i := q) h2⟩)
  | x :: r, p + 1, 0, j, i, _, _, h => absurd h (Nat.not_lt_zero _)
  | x :: r, p + 1, q + 1, j, i, h1, h2, h => bef_cons.mpr (.inr (bef_lt (l := r) (p := p) (q := q) h1 h2 (by omega)))
theorem bef_get : ∀ {l : List Nat} {j i : Nat}, bef l j i = true → ∃ p q : Nat, p < q ∧ l[p]? = some j ∧ l[q]? = some i
  | [], _, _, h => by cases h
  | x :: r, j, i, h => by
    rcases bef_cons.mp h with ⟨rfl, h1⟩ | h1
    · obtain ⟨q, hq⟩ := List.getElem?_of_mem h1
      exact ⟨0, q + 1, by omega, rfl, hq⟩
    · obtain ⟨p, q, h2, h3, h4⟩ := bef_get h1
      exact ⟨p + 1, q + 1, by omega, h3, h4⟩
theorem nd_at {l : List Nat} (nd : l.Nodup) {p q j : Nat} (h1 : l[p]? = some j) (h2 : l[q]? = some j) : p = q := by
  have hp := (List.getElem?_eq_some_iff.mp h1).1
  exact (List.getElem?_inj hp nd).mp (h1.trans h2.symm)
theorem bef_iff {l : List Nat} (nd : l.Nodup) {p q j i : Nat} (h1 : l[p]? = some j) (h2 : l[q]? = some i) : bef l j i = decide (p < q) := by
  by_cases h : p < q
  · rw [decide_eq_true h]
    exact bef_lt h1 h2 h
  · rw [decide_eq_false h]
    cases hb : bef l j i with
    | false => rfl
    | true =>
      obtain ⟨p', q', h3, h4, h5⟩ := bef_get hb
      have := nd_at nd h1 h4
      have := nd_at nd h2 h5
      omega
def inP (l : List Nat) (i : Nat) (k : Nat) : Bool := bef l (i + 1 + k) i
def tabR (l : List Nat) (n i m : Nat) : List (Int × Int) := ((List.range m).filter (inP l i)).map fun k => ((i : Int), ((i + 1 + k : Nat) : Int))
def tab (l : List Nat) (n m : Nat) : List (Int × Int) := (List.range m).flatMap fun i => tabR l n i (n - (i + 1))
theorem tabR_succ (l : List Nat) (n i m : Nat) : tabR l n i (m + 1) = tabR l n i m ++ (if inP l i m = true then [((i : Int), ((i + 1 + m : Nat) : Int))] else []) := by
  unfold tabR
  rw [List.range_succ, List.filter_append, List.map_append]
  by_cases h : inP l i m = true
  · rw [if_pos h, List.filter_cons_of_pos h]
    rfl
  · rw [if_neg h, List.filter_cons_of_neg h]
    rfl
theorem tab_succ (l : List Nat) (n m : Nat) : tab l n (m + 1) = tab l n m ++ tabR l n m (n - (m + 1)) := by
  unfold tab
  rw [List.range_succ, List.flatMap_append]
  simp
theorem mem_tab {l : List Nat} {n : Nat} {p : Int × Int} : p ∈ tab l n n ↔ ∃ i j : Nat, i < j ∧ j < n ∧ p = ((i : Int), (j : Int)) ∧ bef l j i = true := by
  unfold tab tabR
  rw [List.mem_flatMap]
  constructor
  · rintro ⟨i, hi, h⟩
    obtain ⟨k, hk, rfl⟩ := List.mem_map.mp h
    obtain ⟨h1, h2⟩ := List.mem_filter.mp hk
    have h3 := List.mem_range.mp h1
    exact ⟨i, i + 1 + k, by omega, by omega, rfl, h2⟩
  · rintro ⟨i, j, h1, h2, rfl, h3⟩
    refine ⟨i, List.mem_range.mpr (by omega), List.mem_map.mpr ⟨j - (i + 1), List.mem_filter.mpr ⟨List.mem_range.mpr (by omega), ?_⟩, ?_⟩⟩
    · unfold inP
      rw [show i + 1 + (j - (i + 1)) = j by omega]
      exact h3
    · rw [show i + 1 + (j - (i + 1)) = j by omega]
def lexL (p q : Int × Int) : Prop := p.1 < q.1 ∨ (p.1 = q.1 ∧ p.2 < q.2)
theorem pw_tabR (l : List Nat) (n i m : Nat) : (tabR l n i m).Pairwise lexL := by
  unfold tabR
  rw [List.pairwise_map]
  refine List.Pairwise.filter _ ?_
  refine List.pairwise_lt_range.imp fun {a b} h => .inr ⟨rfl, ?_⟩
  show ((i + 1 + a : Nat) : Int) < ((i + 1 + b : Nat) : Int)
  omega
theorem pw_tab (l : List Nat) (n : Nat) : ∀ m, (tab l n m).Pairwise lexL
  | 0 => .nil
  | m + 1 => by
    rw [tab_succ]
    refine List.pairwise_append.mpr ⟨pw_tab l n m, pw_tabR l n m _, fun p hp q hq => ?_⟩
    obtain ⟨i, hi, h⟩ := List.mem_flatMap.mp hp
    obtain ⟨k, _, rfl⟩ := List.mem_map.mp h
    obtain ⟨k', _, rfl⟩ := List.mem_map.mp hq
    have := List.mem_range.mp hi
    exact .inl (by show (i : Int) < (m : Int); omega)
theorem lex_irr (p : Int × Int) : ¬ lexL p p := fun h => by
  rcases h with h | h
  · omega
  · omega
theorem nd_tab (l : List Nat) (n m : Nat) : (tab l n m).Nodup := (pw_tab l n m).imp fun {a b} h (e : a = b) => lex_irr b (by rw [e] at h; exact h)
structure Told (n : Nat) (l : List Nat) (ps : List (Int × Int)) : Prop where
  mem : ∀ p, p ∈ ps ↔ ∃ i j : Nat, i < j ∧ p = ((i : Int), (j : Int)) ∧ bef l j i = true
  nd : ps.Nodup
theorem told_swap {n a b : Nat} {A B : List Nat} {ps : List (Int × Int)} (t : Told n (A ++ a :: b :: B) ps) (hab : a < b) (nd : (A ++ a :: b :: B).Nodup) : Told n (A ++ b :: a :: B) (ps ++ [((a : Int), (b : Int))]) := by
  refine ⟨fun p => ?_, ?_⟩
  · rw [List.mem_append, List.mem_singleton, t.mem]
    constructor
    · rintro (⟨i, j, h1, h2, h3⟩ | rfl)
      · exact ⟨i, j, h1, h2, (bef_swap hab h1 A).mpr (.inl h3)⟩
      · exact ⟨a, b, hab, rfl, (bef_swap hab hab A).mpr (.inr ⟨rfl, rfl⟩)⟩
    · rintro ⟨i, j, h1, h2, h3⟩
      rcases (bef_swap hab h1 A).mp h3 with h4 | ⟨rfl, rfl⟩
      · exact .inl ⟨i, j, h1, h2, h4⟩
      · exact .inr h2
  · refine List.nodup_append.mpr ⟨t.nd, by simp, fun x hx y hy e => ?_⟩
    rw [List.mem_singleton] at hy
    subst e hy
    obtain ⟨i, j, h1, h2, h3⟩ := (t.mem _).mp hx
    have e1 : a = i := by
      have := congrArg Prod.fst h2
      have : (a : Int) = (i : Int) := this
      omega
    have e2 : b = j := by
      have := congrArg Prod.snd h2
      have : (b : Int) = (j : Int) := this
      omega
    subst e1 e2
    have g1 : (A ++ a :: b :: B)[A.length]? = some a := by simp
    have g2 : (A ++ a :: b :: B)[A.length + 1]? = some b := by
      rw [List.getElem?_append_right (by omega), show A.length + 1 - A.length = 1 by omega]
      rfl
    rw [bef_iff nd g2 g1] at h3
    have := of_decide_eq_true h3
    omega
theorem bef_range' : ∀ (k n : Nat) {j i : Nat}, bef (List.range' k n) j i = true → j < i
  | k, 0, _, _, h => by cases h
  | k, n + 1, j, i, h => by
    rw [List.range'_succ] at h
    rcases bef_cons.mp h with ⟨rfl, h1⟩ | h1
    · have := (List.mem_range'_1.mp h1).1
      omega
    · exact bef_range' _ n h1
theorem told_nil (n : Nat) : Told n (List.range n) [] := by
  refine ⟨fun p => ⟨(fun h => by cases h), ?_⟩, .nil⟩
  rintro ⟨i, j, h1, _, h2⟩
  rw [List.range_eq_range'] at h2
  have := bef_range' 0 n h2
  omega
theorem told_tab {n : Nat} {l : List Nat} {ps : List (Int × Int)} (t : Told n l ps) (hl : ∀ x ∈ l, x < n) : ps.Perm (tab l n n) := by
  refine (List.perm_ext_iff_of_nodup t.nd (nd_tab l n n)).mpr fun p => ?_
  rw [t.mem, mem_tab]
  constructor
  · rintro ⟨i, j, h1, h2, h3⟩
    exact ⟨i, j, h1, hl _ (bef_mem h3).1, h2, h3⟩
  · rintro ⟨i, j, h1, h2, h3, h4⟩
    exact ⟨i, j, h1, h3, h4⟩
end HH
set_option maxHeartbeats 4000000
namespace HH
open PySem PySem.Spec PyProof.Rows L2 Evl RZ
theorem in_it {J : It} {n : Nat} {G : Hp → Prop} {Y : Nat → Hp → V → Hp → Prop} (w : Walk J n G Y) {Step : V → Hp → (Hp → Prop) → Prop} {H1 : Hp} {Qd : Hp → Prop} (Pv : Nat → Hp → Prop) (h0 : Pv 0 H1) (hG : ∀ i H, i ≤ n → Pv i H → G H)
    (hs : ∀ i x H H', i < n → Pv i H → Y i H x H' → Step x H' (Pv (i + 1))) (hd : ∀ H, Pv n H → Qd H) :
    ∃ W : Nat → Nat → Hp → Prop, (∃ m, W 0 m H1) ∧ ∀ i m H, W i m H →
      (J.stop i H ∧ Qd H) ∨ (J.go i H ∧ ∃ Nx : Hp → Prop, (∀ H', Nx H' → ∃ m', m' < m ∧ W (i + 1) m' H') ∧ ∀ x H', J.yld i H x H' → Step x H' Nx) := by
  refine ⟨fun i m H => m = n - i ∧ i ≤ n ∧ Pv i H, ⟨n, by simp, Nat.zero_le _, h0⟩, ?_⟩
  rintro i m H ⟨rfl, hi, p⟩
  have q := hG i H hi p
  by_cases hlt : i < n
  · refine .inr ⟨w.goes i H hlt q, Pv (i + 1), fun H' p' => ⟨n - (i + 1), by omega, rfl, hlt, p'⟩, fun x H' y => hs i x H H' hlt p (w.yields i H x H' hlt q y)⟩
  · have e : i = n := by omega
    subst e
    exact .inl ⟨w.stops H q, hd H p⟩
theorem PRun.told {rs : HH.Row} {L : List Cow} {ps : List (Int × Int)} (r : PRun (tag 0 rs) L ps) (ht : ∀ b ∈ rs, 0 ≤ b.2) : Told rs.length (L.map (·.1)) ps ∧ Facts rs.length L ps ∧ PInv L := by
  induction r with
  | nil =>
    refine ⟨?_, facts_tag ht, pinv_tag 0 rs⟩
    have e : (tag 0 rs).map (·.1) = List.range rs.length := by
      rw [tag_fst]
      have e : (fun x => 0 + x) = (id : Nat → Nat) := by
        funext x
        exact Nat.zero_add x
      rw [e, List.map_id]
    rw [e]
    exact told_nil _
  | step r hp ih =>
    rename_i pre post a b ps
    obtain ⟨t, f, i⟩ := ih
    have hab := pinv_lt i hp (nd_ne f.nd)
    obtain ⟨f1, f2, f3⟩ := facts_pass (q := ((a.1 : Int), (b.1 : Int))) f i hp
    refine ⟨?_, f1, f2⟩
    have e1 : (pre ++ a :: b :: post).map (·.1) = pre.map (·.1) ++ a.1 :: b.1 :: post.map (·.1) := by simp
    have e2 : (pre ++ (b.1, (b.2.1 - a.2.2, b.2.2)) :: a :: post).map (·.1) = pre.map (·.1) ++ b.1 :: a.1 :: post.map (·.1) := by simp
    have nd := f.nd
    rw [e1] at t nd
    rw [e2]
    exact told_swap t hab nd
theorem FRun.told {rs : HH.Row} {L : List Cow} {ps : List (Int × Int)} (r : FRun (tag 0 rs) L ps) (ht : ∀ b ∈ rs, 0 ≤ b.2) : Told rs.length (L.map (·.1)) ps ∧ Facts rs.length L ps ∧ FInv L := by
  induction r with
  | nil =>
    refine ⟨?_, facts_tag ht, finv_tag 0 rs⟩
    have e : (tag 0 rs).map (·.1) = List.range rs.length := by
      rw [tag_fst]
      have e : (fun x => 0 + x) = (id : Nat → Nat) := by
        funext x
        exact Nat.zero_add x
      rw [e, List.map_id]
    rw [e]
    exact told_nil _
  | step r hp ih =>
    rename_i pre post a b ps
    obtain ⟨t, f, i⟩ := ih
    have hab := finv_lt i hp (nd_ne f.nd)
    obtain ⟨f1, f2, f3⟩ := facts_fall (q := ((a.1 : Int), (b.1 : Int))) f i hp
    refine ⟨?_, f1, f2⟩
    have e1 : (pre ++ a :: b :: post).map (·.1) = pre.map (·.1) ++ a.1 :: b.1 :: post.map (·.1) := by simp
    have e2 : (pre ++ b :: (a.1, (a.2.1 + b.2.2, a.2.2)) :: post).map (·.1) = pre.map (·.1) ++ b.1 :: a.1 :: post.map (·.1) := by simp
    have nd := f.nd
    rw [e1] at t nd
    rw [e2]
    exact told_swap t hab nd
theorem Step.ids {L M : List Cow} (h : Step L M) : (M.map (·.1)).Perm (L.map (·.1)) := by
  obtain ⟨pre, post, a, b, rfl, _, rfl⟩ := h
  rw [List.map_append, List.map_append]
  exact List.Perm.append_left _ (List.Perm.swap ..)
theorem FStep.ids {L M : List Cow} (h : FStep L M) : (M.map (·.1)).Perm (L.map (·.1)) := by
  obtain ⟨pre, post, a, b, rfl, _, rfl⟩ := h
  rw [List.map_append, List.map_append]
  exact List.Perm.append_left _ (List.Perm.swap ..)
theorem Steps.ids {L M : List Cow} (h : Steps L M) : (M.map (·.1)).Perm (L.map (·.1)) := by
  induction h with
  | refl => exact .refl _
  | head s _ ih => exact ih.trans s.ids
theorem FSteps.ids {L M : List Cow} (h : FSteps L M) : (M.map (·.1)).Perm (L.map (·.1)) := by
  induction h with
  | refl => exact .refl _
  | head s _ ih => exact ih.trans s.ids
theorem tag_ids (rs : HH.Row) : (tag 0 rs).map (·.1) = List.range rs.length := by
  rw [tag_fst]
  have e : (fun x => 0 + x) = (id : Nat → Nat) := by
    funext x
    exact Nat.zero_add x
  rw [e, List.map_id]
def natsV (l : List Nat) : List V := l.map fun (x : Nat) => V.int (x : Int)
theorem ordL_nats (L : List Cow) : ordL L = natsV (L.map (·.1)) := by
  unfold ordL natsV
  rw [List.map_map]
  rfl
structure PlacesD (l : List Nat) (k : Nat) (kvs : List (Key × V)) : Prop where
  at' : ∀ i x : Nat, i < k → l[i]? = some x → valV kvs (.inl (x : Int)) = some (.int (i : Int))
  few : kvs.length ≤ k
theorem PlacesD.put {l : List Nat} (nd : l.Nodup) {k x : Nat} {kvs : List (Key × V)} (h : PlacesD l k kvs) (hx : l[k]? = some x) : PlacesD l (k + 1) (putK kvs (.inl (x : Int)) (.int (k : Int))) := by
  refine ⟨fun i y hi hy => ?_, ?_⟩
  · rw [valV_put]
    by_cases e : y = x
    · subst e
      have := nd_at nd hy hx
      subst this
      rw [if_pos rfl]
    · rw [if_neg (fun z => e (by
        have z' : (y : Int) = (x : Int) := Sum.inl.inj z
        omega))]
      refine h.at' i y ?_ hy
      rcases Nat.lt_or_ge i k with h1 | h1
      · exact h1
      · have h2 : i = k := by omega
        subst h2
        rw [hx] at hy
        exact absurd (Option.some.inj hy).symm e
  · have := length_putK kvs (.inl (x : Int)) (.int (k : Int))
    have := h.few
    omega
theorem room_u1 {k : Nat} {A : Around} (r : Room k A) : A.units + 1 < cLine := by
  have := r.un
  omega
theorem ev_lenT {K : PySem.W.Frag} {ta : TE} {σ : L2.St} {H : Hp} {a : Addr} {xs : List V} (h : Ev ta σ H (.ref a)) (hr : SqT K H a xs) : Ev (tCB (rLenS K) (tCons ta tNil)) σ H (.int (xs.length : Int)) := fun H1 e Q q => h H1 e _ fun H2 e2 => ⟨a, xs, rfl, Or.inr (ex_t (e.trans e2) hr), q H2 e2⟩
theorem ev_dget {td ty : TE} {σ : L2.St} {H : Hp} {a : Addr} {kvs : List (Key × V)} {k : Key} {v : V} (hd : Ev td σ H (.ref a)) (hy : Ev ty σ H (kV k)) (h : H a = some (.dK kvs)) (hv : valV kvs k = some v) : Ev (tDGet td ty) σ H v := fun H1 e Q q =>
  hd H1 e _ fun H2 e2 => hy H2 (e.trans e2) _ fun H3 e3 => ⟨a, v, rfl, by rw [← hv]; exact DGet.k (((e.trans e2).trans e3) _ _ h), q H3 (e2.trans e3)⟩
theorem tabR_len (l : List Nat) (n i m : Nat) : (tabR l n i m).length ≤ m := by
  unfold tabR
  rw [List.length_map]
  have := List.length_filter_le (inP l i) (List.range m)
  rw [List.length_range] at this
  exact this
theorem tab_len (l : List Nat) (n : Nat) : ∀ m, (tab l n m).length ≤ m * n
  | 0 => by
    show ([] : List (Int × Int)).length ≤ 0 * n
    simp
  | m + 1 => by
    rw [tab_succ, List.length_append, Nat.succ_mul]
    have := tab_len l n m
    have := tabR_len l n m (n - (m + 1))
    omega
theorem i_rng2 {ta : TA} {σ : L2.St} {H : Hp} {R : It → Hp → Prop} {i j : Int} (h : EvA ta σ H [.int i, .int j]) (b : -(2 ^ 62) ≤ i ∧ i < 2 ^ 62 ∧ -(2 ^ 62) ≤ j ∧ j < 2 ^ 62) (k : ∀ H1, Ex H H1 → R (Itr i (j - i).toNat) H1) : iRng2 ta σ H R := h H (Ex.refl H) _ fun H1 e => ⟨i, j, rfl, b, k H1 e⟩
theorem t_ev {t : TT} {σ : L2.St} {H : Hp} {b : Bool} {Q : Bool → Hp → Prop} (h : EvT t σ H b) (k : ∀ H1, Ex H H1 → Q b H1) : t σ H Q := h H (Ex.refl H) _ k
theorem t_yes {σ : L2.St} {H : Hp} {Q R : Hp → Prop} (h : Q H) : tYes σ H (fun b H1 => if b = true then Q H1 else R H1) := by
  show if true = true then Q H else R H
  rw [if_pos rfl]
  exact h
def toLast (L M : List Cow) : Prop := Steps L M ∧ NfR M
def toFirst (L M : List Cow) : Prop := FSteps L M ∧ FfR M
end HH
set_option maxHeartbeats 4000000
namespace HH
open PySem PySem.Spec PyProof.Rows L2 Evl RZ
theorem step_back {L M : List Cow} (h : Step L M) : FStep M L := by
  obtain ⟨pre, post, a, b, rfl, hp, rfl⟩ := h
  refine ⟨pre, post, _, a, rfl, hp, ?_⟩
  obtain ⟨bi, bs, bt⟩ := b
  show pre ++ a :: (bi, (bs, bt)) :: post = pre ++ a :: (bi, (bs - a.2.2 + a.2.2, bt)) :: post
  rw [Int.sub_add_cancel]
theorem fstep_back {L M : List Cow} (h : FStep L M) : Step M L := by
  obtain ⟨pre, post, a, b, rfl, hp, rfl⟩ := h
  refine ⟨pre, post, b, _, rfl, ?_, ?_⟩
  · show a.2.1 + b.2.2 - b.2.2 > b.2.1
    omega
  · obtain ⟨ai, as, at'⟩ := a
    show pre ++ (ai, (as, at')) :: b :: post = pre ++ (ai, (as + b.2.2 - b.2.2, at')) :: b :: post
    rw [Int.add_sub_cancel]
theorem FSteps.back {L M : List Cow} (h : FSteps L M) : Steps M L := by
  induction h with
  | refl => exact .refl _
  | head s _ ih => exact ih.snoc (fstep_back s)
theorem Steps.back {L M : List Cow} (h : Steps L M) : FSteps M L := by
  induction h with
  | refl => exact .refl _
  | head s _ ih => exact ih.snoc (step_back s)
def rl (f : Nat → Nat) (x : Cow) : Cow := (f x.1, x.2)
def rlL (f : Nat → Nat) (L : List Cow) : List Cow := L.map (rl f)
theorem rl_rows (f : Nat → Nat) (L : List Cow) : rowsOf (rlL f L) = rowsOf L := by
  unfold rowsOf rlL
  rw [List.map_map]
  rfl
theorem rl_ids (f : Nat → Nat) (L : List Cow) : (rlL f L).map (·.1) = (L.map (·.1)).map f := by
  unfold rlL
  rw [List.map_map, List.map_map]
  rfl
theorem Step.map {L M : List Cow} (f : Nat → Nat) (h : Step L M) : Step (rlL f L) (rlL f M) := by
  obtain ⟨pre, post, a, b, rfl, hp, rfl⟩ := h
  exact ⟨rlL f pre, rlL f post, rl f a, rl f b, by simp [rlL], hp, by simp [rlL, rl]⟩
theorem Step.unmap {f : Nat → Nat} {L0 M : List Cow} (h : Step (rlL f L0) M) : ∃ M0, Step L0 M0 ∧ M = rlL f M0 := by
  obtain ⟨pre, post, a, b, h1, hp, rfl⟩ := h
  obtain ⟨p0, r0, rfl, rfl, h2⟩ := List.map_eq_append_iff.mp h1
  obtain ⟨a0, r1, rfl, rfl, h3⟩ := List.map_eq_cons_iff.mp h2
  obtain ⟨b0, r2, rfl, rfl, rfl⟩ := List.map_eq_cons_iff.mp h3
  exact ⟨_, ⟨p0, r2, a0, b0, rfl, hp, rfl⟩, by simp [rlL, rl]⟩
theorem FStep.map {L M : List Cow} (f : Nat → Nat) (h : FStep L M) : FStep (rlL f L) (rlL f M) := step_back ((fstep_back h).map f)
theorem Steps.map {L M : List Cow} (f : Nat → Nat) (h : Steps L M) : Steps (rlL f L) (rlL f M) := by
  induction h with
  | refl => exact .refl _
  | head s _ ih => exact .head (s.map f) ih
theorem FSteps.map {L M : List Cow} (f : Nat → Nat) (h : FSteps L M) : FSteps (rlL f L) (rlL f M) := by
  induction h with
  | refl => exact .refl _
  | head s _ ih => exact .head (s.map f) ih
theorem FStep.unmap {f : Nat → Nat} {L0 M : List Cow} (h : FStep (rlL f L0) M) : ∃ M0, FStep L0 M0 ∧ M = rlL f M0 := by
  obtain ⟨pre, post, a, b, h1, hp, rfl⟩ := h
  obtain ⟨p0, r0, rfl, rfl, h2⟩ := List.map_eq_append_iff.mp h1
  obtain ⟨a0, r1, rfl, rfl, h3⟩ := List.map_eq_cons_iff.mp h2
  obtain ⟨b0, r2, rfl, rfl, rfl⟩ := List.map_eq_cons_iff.mp h3
  exact ⟨_, ⟨p0, r2, a0, b0, rfl, hp, rfl⟩, by simp [rlL, rl]⟩
theorem Steps.unmap {f : Nat → Nat} {L M : List Cow} (h : Steps L M) : ∀ {L0 : List Cow}, L = rlL f L0 → ∃ M0, Steps L0 M0 ∧ M = rlL f M0 := by
  induction h with
  | refl => exact fun e => ⟨_, .refl _, e⟩
  | head s _ ih =>
    intro L0 e
    subst e
    obtain ⟨M1, s1, e1⟩ := s.unmap
    obtain ⟨M0, s0, e0⟩ := ih e1
    exact ⟨M0, .head s1 s0, e0⟩
theorem FSteps.unmap {f : Nat → Nat} {L M : List Cow} (h : FSteps L M) : ∀ {L0 : List Cow}, L = rlL f L0 → ∃ M0, FSteps L0 M0 ∧ M = rlL f M0 := by
  induction h with
  | refl => exact fun e => ⟨_, .refl _, e⟩
  | head s _ ih =>
    intro L0 e
    subst e
    obtain ⟨M1, s1, e1⟩ := s.unmap
    obtain ⟨M0, s0, e0⟩ := ih e1
    exact ⟨M0, .head s1 s0, e0⟩
theorem nf_un {f : Nat → Nat} {L : List Cow} (h : Nf (rlL f L)) : Nf L := fun M s => h _ (s.map f)
theorem ff_un {f : Nat → Nat} {L : List Cow} (h : Ff (rlL f L)) : Ff L := fun M s => h _ (s.map f)
theorem nf_map {f : Nat → Nat} {L : List Cow} (h : Nf L) : Nf (rlL f L) := fun M s => by
  obtain ⟨M0, s0, _⟩ := s.unmap
  exact h _ s0
theorem ff_map {f : Nat → Nat} {L : List Cow} (h : Ff L) : Ff (rlL f L) := fun M s => by
  obtain ⟨M0, s0, _⟩ := s.unmap
  exact h _ s0
def ixN (l : List Nat) (i : Nat) : Nat := (l[i]?).getD 0
theorem tag_at : ∀ (k i : Nat) (rs : HH.Row), (tag k rs)[i]? = (rs[i]?).map fun b => (k + i, b)
  | _, _, [] => rfl
  | k, 0, b :: r => rfl
  | k, i + 1, b :: r => by
    show (tag (k + 1) r)[i]? = (r[i]?).map _
    rw [tag_at (k + 1) i r]
    rw [show k + 1 + i = k + (i + 1) by omega]
theorem rl_tag (L : List Cow) : rlL (ixN (L.map (·.1))) (tag 0 (rowsOf L)) = L := by
  refine List.ext_getElem? fun i => ?_
  unfold rlL
  rw [List.getElem?_map, tag_at]
  unfold rowsOf
  rw [List.getElem?_map]
  cases h : L[i]? with
  | none => rfl
  | some x =>
    show some (rl (ixN (L.map (·.1))) (0 + i, x.2)) = some x
    unfold rl ixN
    rw [Nat.zero_add, List.getElem?_map, h]
    rfl
theorem tolls_rows {L : List Cow} (h : ∀ x ∈ L, 0 ≤ x.2.2) : ∀ b ∈ rowsOf L, 0 ≤ b.2 := fun b hb => by
  obtain ⟨x, hx, rfl⟩ := List.mem_map.mp hb
  exact h x hx
theorem nf_any {L N N' : List Cow} (ht : ∀ x ∈ L, 0 ≤ x.2.2) (s : Steps L N) (n : Nf N) (s' : Steps L N') (n' : Nf N') : N = N' := by
  obtain ⟨M, t, rfl⟩ := s.unmap (rl_tag L).symm
  obtain ⟨M', t', rfl⟩ := s'.unmap (rl_tag L).symm
  rw [one_nf _ (good_tag (tolls_rows ht)) (Nat.le_refl _) t (nf_un n) t' (nf_un n')]
theorem ff_any {L N N' : List Cow} (ht : ∀ x ∈ L, 0 ≤ x.2.2) (s : FSteps L N) (n : Ff N) (s' : FSteps L N') (n' : Ff N') : N = N' := by
  obtain ⟨M, t, rfl⟩ := s.unmap (rl_tag L).symm
  obtain ⟨M', t', rfl⟩ := s'.unmap (rl_tag L).symm
  rw [one_ff _ (fgood_tag (tolls_rows ht)) (Nat.le_refl _) t (ff_un n) t' (ff_un n')]
theorem nf_is {L : List Cow} (ht : ∀ x ∈ L, 0 ≤ x.2.2) : ∃ N, Steps L N ∧ Nf N := by
  obtain ⟨N, s, n⟩ := some_nf _ (good_tag (tolls_rows ht)) (Nat.le_refl _)
  have s' := s.map (ixN (L.map (·.1)))
  rw [rl_tag] at s'
  exact ⟨_, s', nf_map n⟩
theorem ff_is {L : List Cow} (ht : ∀ x ∈ L, 0 ≤ x.2.2) : ∃ N, FSteps L N ∧ Ff N := by
  obtain ⟨N, s, n⟩ := some_ff _ (fgood_tag (tolls_rows ht)) (Nat.le_refl _)
  have s' := s.map (ixN (L.map (·.1)))
  rw [rl_tag] at s'
  exact ⟨_, s', ff_map n⟩
theorem step_tl {L M : List Cow} (h : Step L M) (ht : ∀ x ∈ L, 0 ≤ x.2.2) : ∀ x ∈ M, 0 ≤ x.2.2 := by
  obtain ⟨pre, post, a, b, rfl, hp, rfl⟩ := h
  intro x hx
  simp only [List.mem_append, List.mem_cons] at hx
  rcases hx with h | h | h | h
  · exact ht x (by simp [h])
  · subst h
    exact ht b (by simp)
  · exact ht x (by simp [h])
  · exact ht x (by simp [h])
theorem fstep_tl {L M : List Cow} (h : FStep L M) (ht : ∀ x ∈ L, 0 ≤ x.2.2) : ∀ x ∈ M, 0 ≤ x.2.2 := by
  obtain ⟨pre, post, a, b, rfl, hp, rfl⟩ := h
  intro x hx
  simp only [List.mem_append, List.mem_cons] at hx
  rcases hx with h | h | h | h
  · exact ht x (by simp [h])
  · exact ht x (by simp [h])
  · subst h
    exact ht a (by simp)
  · exact ht x (by simp [h])
theorem Steps.tl {L M : List Cow} (h : Steps L M) (ht : ∀ x ∈ L, 0 ≤ x.2.2) : ∀ x ∈ M, 0 ≤ x.2.2 := by
  induction h with
  | refl => exact ht
  | head s _ ih => exact ih (step_tl s ht)
theorem FSteps.tl {L M : List Cow} (h : FSteps L M) (ht : ∀ x ∈ L, 0 ≤ x.2.2) : ∀ x ∈ M, 0 ≤ x.2.2 := by
  induction h with
  | refl => exact ht
  | head s _ ih => exact ih (fstep_tl s ht)
theorem ends_fstep {L M E : List Cow} (ht : ∀ x ∈ L, 0 ≤ x.2.2) (s : FStep L M) (h : FSteps L E) (n : Ff E) : FSteps M E := by
  obtain ⟨N, s1, n1⟩ := ff_is (fstep_tl s ht)
  rw [ff_any ht h n (.head s s1) n1]
  exact s1
theorem ends_step {L M E : List Cow} (ht : ∀ x ∈ L, 0 ≤ x.2.2) (s : Step L M) (h : Steps L E) (n : Nf E) : Steps M E := by
  obtain ⟨N, s1, n1⟩ := nf_is (step_tl s ht)
  rw [nf_any ht h n (.head s s1) n1]
  exact s1
theorem MRun.both {L0 L E B : List Cow} {ds : List Deed} (r : MRun L0 L ds) (ht : ∀ x ∈ L0, 0 ≤ x.2.2) (hE : Steps L0 E) (nE : Nf E) (hB : FSteps L0 B) (nB : Ff B) : (∀ x ∈ L, 0 ≤ x.2.2) ∧ Steps L E ∧ FSteps L B := by
  induction r with
  | nil => exact ⟨ht, hE, hB⟩
  | pass r hp ih =>
    rename_i pre post a b ds
    have s : Step (pre ++ a :: b :: post) (pre ++ (b.1, (b.2.1 - a.2.2, b.2.2)) :: a :: post) := ⟨_, _, _, _, rfl, hp, rfl⟩
    exact ⟨step_tl s ih.1, ends_step ih.1 s ih.2.1 nE, .head (step_back s) ih.2.2⟩
  | fall r hp ih =>
    rename_i pre post a b ds
    have s : FStep (pre ++ a :: b :: post) (pre ++ b :: (a.1, (a.2.1 + b.2.2, a.2.2)) :: post) := ⟨_, _, _, _, rfl, hp, rfl⟩
    exact ⟨fstep_tl s ih.1, .head (fstep_back s) ih.2.1, ends_fstep ih.1 s ih.2.2 nB⟩
end HH
set_option maxHeartbeats 4000000
namespace HH
open PySem PySem.Spec PyProof.Rows L2 Evl RZ
theorem bef_stays {L M : List Cow} (g : Good L) (h : Steps L M) : ∀ {p q : Nat}, p < q → bef (L.map (·.1)) q p = true → bef (M.map (·.1)) q p = true := by
  induction h with
  | refl => exact fun _ h => h
  | head s _ ih =>
    intro p q hpq hb
    refine ih (g.step s).1 hpq ?_
    obtain ⟨pre, post, a, b, rfl, hp, rfl⟩ := s
    have hab := pinv_lt g.iv hp (nd_ne g.nd)
    have e1 : (pre ++ a :: b :: post).map (·.1) = pre.map (·.1) ++ a.1 :: b.1 :: post.map (·.1) := by simp
    have e2 : (pre ++ (b.1, (b.2.1 - a.2.2, b.2.2)) :: a :: post).map (·.1) = pre.map (·.1) ++ b.1 :: a.1 :: post.map (·.1) := by simp
    rw [e1] at hb
    rw [e2]
    exact (bef_swap hab hpq _).mpr (.inl hb)
theorem bef_map {f : Nat → Nat} {j i : Nat} : ∀ {l : List Nat}, (∀ x ∈ l, f x = f j → x = j) → (∀ x ∈ l, f x = f i → x = i) → (bef (l.map f) (f j) (f i) = true ↔ bef l j i = true)
  | [], _, _ => Iff.rfl
  | x :: r, h1, h2 => by
    rw [List.map_cons, bef_cons, bef_cons, bef_map (l := r) (fun x hx => h1 x (List.mem_cons_of_mem _ hx)) (fun x hx => h2 x (List.mem_cons_of_mem _ hx))]
    have e1 : f x = f j ↔ x = j := ⟨h1 x (List.mem_cons_self ..), fun e => by rw [e]⟩
    have e2 : f i ∈ r.map f ↔ i ∈ r := by
      constructor
      · intro h
        obtain ⟨y, hy, e⟩ := List.mem_map.mp h
        rw [← h2 y (List.mem_cons_of_mem _ hy) e]
        exact hy
      · exact fun h => List.mem_map_of_mem h
    rw [e1, e2]
theorem bef_asym {l : List Nat} (nd : l.Nodup) {j i : Nat} (h : bef l j i = true) : bef l i j = false := by
  obtain ⟨p, q, h1, h2, h3⟩ := bef_get h
  rw [bef_iff nd h3 h2, decide_eq_false]
  omega
theorem bef_tot {l : List Nat} {j i : Nat} (hj : j ∈ l) (hi : i ∈ l) (hne : j ≠ i) (h : bef l j i = false) : bef l i j = true := by
  obtain ⟨p, hp⟩ := List.getElem?_of_mem hj
  obtain ⟨q, hq⟩ := List.getElem?_of_mem hi
  rcases Nat.lt_trichotomy p q with h1 | h1 | h1
  · rw [bef_lt hp hq h1] at h
    cases h
  · subst h1
    rw [hp] at hq
    exact absurd (Option.some.inj hq) hne
  · exact bef_lt hq hp h1
theorem bef_range {n j i : Nat} (hj : j < i) (hi : i < n) : bef (List.range n) j i = true := by
  refine bef_lt (p := j) (q := i) ?_ ?_ hj
  · rw [List.getElem?_range (by omega)]
  · rw [List.getElem?_range hi]
theorem ixN_at {l : List Nat} {p : Nat} (h : p < l.length) : l[p]? = some (ixN l p) := by
  unfold ixN
  rw [List.getElem?_eq_getElem h]
  rfl
theorem ixN_inj {l : List Nat} (nd : l.Nodup) {p q : Nat} (hp : p < l.length) (hq : q < l.length) (h : ixN l p = ixN l q) : p = q := by
  have h1 := ixN_at hp
  rw [h] at h1
  exact nd_at nd h1 (ixN_at hq)
structure Thru (n : Nat) (l1 l2 y : List Nat) : Prop where
  p1 : l1.Perm (List.range n)
  p2 : l2.Perm (List.range n)
  py : y.Perm (List.range n)
  e : l2 = y.map (ixN l1)
  no : ∀ {a b : Nat}, a < b → bef l1 b a = true → bef l2 b a = true → False
theorem pair_inj {a b c d : Nat} (h : (((a : Int), (b : Int)) : Int × Int) = ((c : Int), (d : Int))) : a = c ∧ b = d := by
  have h1 : (a : Int) = (c : Int) := congrArg Prod.fst h
  have h2 : (b : Int) = (d : Int) := congrArg Prod.snd h
  omega
end HH
set_option maxHeartbeats 4000000
namespace SrtO
open PySem PySem.Spec PyProof.Rows L2
section
variable {prog : Program} {w : World} {A : Around} {E : Value → Shared → Prop} {s : Shared}
end
end SrtO
namespace HH
open PySem PySem.Spec PyProof.Rows L2 Evl RZ
section
variable {X : Cx}
end
end HH
set_option maxHeartbeats 4000000
namespace HH
open PySem PySem.Spec PyProof.Rows L2 Evl RZ
theorem natsV_at {l : List Nat} {k x : Nat} (h : l[k]? = some x) : (natsV l)[k]? = some (V.int (x : Int)) := by
  unfold natsV
  rw [List.getElem?_map, h]
  rfl
theorem natsV_len (l : List Nat) : (natsV l).length = l.length := List.length_map ..
def natsD (l : List Nat) : PyData := .tuple ((l.map fun (x : Nat) => (x : Int)).map PyData.int)
theorem natsV_ints (l : List Nat) : natsV l = (l.map fun (x : Nat) => (x : Int)).map V.int := by
  unfold natsV
  rw [List.map_map]
  rfl
section
variable {K : PySem.W.Frag} {σ : L2.St} {H H' : Hp} {ta tb te : TE} {x y v : V}
theorem dp_nats {a : Addr} {l : List Nat} (h : SqT K H a (natsV l)) : Dp K H (.ref a) (natsD l) := by
  rw [natsV_ints] at h
  exact .tup h (dp_ints _)
theorem nice_nats (l : List Nat) : Nice 1 (natsD l) := nice_tuple (nice_ints _)
theorem rv_neD {k : Nat} {d : PyData} (hx : Dp K H x d) (hy : Dp K H y d) (n : Nice k d) (hk : k < 64) : RV (rNeD K) x y H (.bl false) := fun H1 e Q q => by
  refine ⟨d, d, dp_ex e hx, dp_ex e hy, n.shaped (by omega), n.shaped (by omega), ?_⟩
  rw [SeqAt.eqv_refl _ n.1]
  exact q H1 (Ex.refl H1)
end
end HH
set_option maxHeartbeats 4000000
namespace HH
open PySem PySem.Spec PyProof.Rows L2 Evl RZ
theorem FSteps.len {L M : List Cow} (h : FSteps L M) : M.length = L.length := by
  have := h.ids.length_eq
  rw [List.length_map, List.length_map] at this
  exact this
theorem Steps.len {L M : List Cow} (h : Steps L M) : M.length = L.length := by
  have := h.ids.length_eq
  rw [List.length_map, List.length_map] at this
  exact this
theorem FSteps.idsT {rs : HH.Row} {M : List Cow} (h : FSteps (tag 0 rs) M) : (M.map (·.1)).Perm (List.range rs.length) := by
  rw [← tag_ids]
  exact h.ids
theorem Steps.idsT {rs : HH.Row} {M : List Cow} (h : Steps (tag 0 rs) M) : (M.map (·.1)).Perm (List.range rs.length) := by
  rw [← tag_ids]
  exact h.ids
section
variable {K : PySem.W.Frag} {σ : L2.St} {H H' : Hp} {ta tb te : TE} {x y v : V} {t : TT} {tu tz : TS} {D : Ends}
end
end HH
namespace HH
open PySem PySem.Spec PyProof.Rows L2 Evl RZ
section
variable {X : Cx} {K : PySem.W.Frag}
end
end HH
namespace HH
open PySem PySem.Spec PyProof.Rows L2 Evl RZ
section
variable {K : PySem.W.Frag} {σ : L2.St} {H H' : Hp} {ta tb te : TE} {x y v : V} {Q : VK}
end
end HH
namespace HH
open PySem PySem.Spec PyProof.Rows L2 Evl RZ
section
variable {K : PySem.W.Frag} {σ : L2.St} {H H' : Hp} {ta tb te : TE} {x y v : V} {Q : VK}
end
end HH
set_option maxHeartbeats 4000000
namespace HH
open PySem PySem.Spec PyProof.Rows L2 Evl RZ
section
variable {K : PySem.W.Frag} {σ : L2.St} {H H' : Hp} {ta tb te : TE} {x y v : V} {Q : VK}
end
end HH
namespace HH
open PySem PySem.Spec PyProof.Rows L2 Evl RZ
end HH
namespace HH
open PySem PySem.Spec PyProof.Rows L2 Evl RZ
end HH
set_option maxHeartbeats 4000000
namespace HH
open PySem PySem.Spec PyProof.Rows L2 Evl RZ
def spPlaces (K : PySem.W.Frag) : Sp := fun vs H Q _ => ∃ (o : Addr) (l : List Nat), vs = [.ref o] ∧ SqT K H o (natsV l) ∧ l.Nodup ∧ l.length ≤ 30 ∧ ∀ (q : Addr) (kvs : List (Key × V)) (H' : Hp), H q = none → Ex H H' → H' q = some (.dK kvs) → PlacesD l l.length kvs → Q (.ref q) H'
theorem s_at {ts : TS} {D : Ends} {σ : L2.St} {H : Hp} (σ' : L2.St) (e : σ = σ') (k : ts D σ' H) : ts D σ H := by
  rw [e]
  exact k
end HH
set_option maxHeartbeats 4000000
namespace HH
open PySem PySem.Spec PyProof.Rows L2 Evl RZ
def barN (rs : HH.Row) (i : Nat) : Nat → Int
  | 0 => sS rs i + tS rs i
  | m + 1 => if sS rs (i + 1 + m) ≤ barN rs i m then barN rs i m + tS rs (i + 1 + m) else barN rs i m
theorem barN_yes {rs : HH.Row} {i m : Nat} (h : sS rs (i + 1 + m) ≤ barN rs i m) : barN rs i (m + 1) = barN rs i m + tS rs (i + 1 + m) := if_pos h
theorem barN_no {rs : HH.Row} {i m : Nat} (h : ¬ sS rs (i + 1 + m) ≤ barN rs i m) : barN rs i (m + 1) = barN rs i m := if_neg h
def tsumC : List Cow → Int
  | [] => 0
  | x :: r => x.2.2 + tsumC r
theorem tsumC_app : ∀ A B : List Cow, tsumC (A ++ B) = tsumC A + tsumC B
  | [], B => by
    show tsumC B = 0 + tsumC B
    omega
  | x :: A, B => by
    show x.2.2 + tsumC (A ++ B) = x.2.2 + tsumC A + tsumC B
    rw [tsumC_app A B]
    omega
def BarI (rs : HH.Row) (m : Nat) : List Cow → Prop
  | [] => True
  | x :: r => x.2.1 + x.2.2 + tsumC r = barN rs x.1 (m - x.1 - 1) ∧ BarI rs m r
def PB (s : Int) : List Cow → Prop
  | [] => True
  | x :: r => x.2.1 + x.2.2 + tsumC r < s ∧ PB s r
theorem ins_end (w : Cow) : ∀ (k : Nat) (A B : List Cow), A.length = k → PB w.2.1 B → ∃ A' B', A ++ B = A' ++ B' ∧ PB w.2.1 B' ∧ Steps (A ++ (w.1, (w.2.1 - tsumC B, w.2.2)) :: B) (A' ++ (w.1, (w.2.1 - tsumC B', w.2.2)) :: B') ∧ ∀ x, A'.getLast? = some x → ¬ (w.2.1 - tsumC B' - x.2.2 > x.2.1)
  | 0, A, B, h, hp => by
    have e : A = [] := List.length_eq_zero_iff.mp h
    subst e
    exact ⟨[], B, rfl, hp, .refl _, fun x hx => by cases hx⟩
  | k + 1, A, B, h, hp => by
    have hne : A ≠ [] := fun e => by
      rw [e] at h
      cases h
    have eA := List.dropLast_concat_getLast hne
    generalize A.getLast hne = a at eA
    by_cases z : w.2.1 - tsumC B - a.2.2 > a.2.1
    · have hl : A.dropLast.length = k := by rw [List.length_dropLast, h]; rfl
      obtain ⟨A', B', e1, p1, s1, l1⟩ := ins_end w k A.dropLast (a :: B) hl ⟨by omega, hp⟩
      refine ⟨A', B', ?_, p1, .head ?_ s1, l1⟩
      · rw [← e1]
        conv => lhs; rw [← eA]
        simp
      · refine ⟨A.dropLast, B, a, (w.1, (w.2.1 - tsumC B, w.2.2)), ?_, z, ?_⟩
        · conv => lhs; rw [← eA]
          simp
        · have e2 : w.2.1 - tsumC (a :: B) = w.2.1 - tsumC B - a.2.2 := by
            show w.2.1 - (a.2.2 + tsumC B) = _
            omega
          rw [e2]
    · refine ⟨A, B, rfl, hp, .refl _, fun x hx => ?_⟩
      have e3 : A.getLast? = some a := by
        rw [← eA]
        simp
      rw [e3] at hx
      cases hx
      exact z
theorem bar_idx {x m : Nat} (h : x < m) : m + 1 - x - 1 = (m - x - 1) + 1 ∧ x + 1 + (m - x - 1) = m := by omega
theorem barI_B {rs : HH.Row} {m : Nat} {s : Int} (hs : s = sS rs m) : ∀ {B : List Cow}, PB s B → BarI rs m B → (∀ x ∈ B, x.1 < m) → BarI rs (m + 1) B ∧ ∀ x ∈ B, barN rs x.1 (m - x.1 - 1) < s
  | [], _, _, _ => ⟨True.intro, fun x hx => by cases hx⟩
  | x :: r, h, b, l => by
    obtain ⟨i1, i2⟩ := bar_idx (l x (List.mem_cons_self ..))
    obtain ⟨g1, g2⟩ := barI_B hs h.2 b.2 fun y hy => l y (List.mem_cons_of_mem _ hy)
    have h1 := h.1
    have hb := b.1
    refine ⟨⟨?_, g1⟩, fun y hy => ?_⟩
    · rw [i1, barN_no (by rw [i2, ← hs, ← hb]; omega)]
      exact hb
    · rcases List.mem_cons.mp hy with rfl | hy
      · rw [← hb]
        exact h1
      · exact g2 y hy
theorem barI_A {rs : HH.Row} {m : Nat} {w : Cow} {B : List Cow} (hw : w.1 = m) (hs : w.2.1 = sS rs m) (ht : w.2.2 = tS rs m) (hB : BarI rs (m + 1) B) : ∀ {A : List Cow}, NfR (A ++ B) → BarI rs m (A ++ B) → (∀ x ∈ A, x.1 < m) → (∀ x, A.getLast? = some x → ¬ (w.2.1 - tsumC B - x.2.2 > x.2.1)) →
    BarI rs (m + 1) (A ++ (w.1, (w.2.1 - tsumC B, w.2.2)) :: B) ∧ (∀ x r, A = x :: r → w.2.1 ≤ x.2.1 + x.2.2 + tsumC (r ++ B)) ∧ ∀ x ∈ A, w.2.1 ≤ barN rs x.1 (m - x.1 - 1)
  | [], _, _, _, _ => by
    refine ⟨⟨?_, hB⟩, fun x r e => (by cases e), fun x hx => by cases hx⟩
    show w.2.1 - tsumC B + w.2.2 + tsumC B = barN rs w.1 (m + 1 - w.1 - 1)
    rw [hw, show m + 1 - m - 1 = 0 by omega]
    show _ = sS rs m + tS rs m
    omega
  | [x], n, b, l, la => by
    obtain ⟨i1, i2⟩ := bar_idx (l x (List.mem_cons_self ..))
    have z := la x rfl
    have hb : x.2.1 + x.2.2 + tsumC ([] ++ B) = barN rs x.1 (m - x.1 - 1) := b.1
    have hc : w.2.1 ≤ x.2.1 + x.2.2 + tsumC ([] ++ B) := by
      show w.2.1 ≤ x.2.1 + x.2.2 + tsumC B
      omega
    refine ⟨⟨?_, ?_⟩, fun y r e => ?_, fun y hy => ?_⟩
    · show x.2.1 + x.2.2 + (w.2.2 + tsumC B) = barN rs x.1 (m + 1 - x.1 - 1)
      rw [i1, barN_yes (by rw [i2, ← hs, ← hb]; exact hc), i2, ← hb, ← ht]
      show _ = x.2.1 + x.2.2 + tsumC B + w.2.2
      omega
    · show BarI rs (m + 1) ((w.1, (w.2.1 - tsumC B, w.2.2)) :: B)
      refine ⟨?_, hB⟩
      show w.2.1 - tsumC B + w.2.2 + tsumC B = barN rs w.1 (m + 1 - w.1 - 1)
      rw [hw, show m + 1 - m - 1 = 0 by omega]
      show _ = sS rs m + tS rs m
      omega
    · cases e
      exact hc
    · rcases List.mem_cons.mp hy with rfl | hy
      · rw [← hb]
        exact hc
      · cases hy
  | x :: y :: A, n, b, l, la => by
    obtain ⟨i1, i2⟩ := bar_idx (l x (List.mem_cons_self ..))
    obtain ⟨g1, g2, g3⟩ := barI_A hw hs ht hB (A := y :: A) n.2 b.2 (fun z hz => l z (List.mem_cons_of_mem _ hz)) (fun z hz => la z (by rw [List.getLast?_cons_cons]; exact hz))
    have hb : x.2.1 + x.2.2 + tsumC (y :: A ++ B) = barN rs x.1 (m - x.1 - 1) := b.1
    have nn := n.1
    have hy := g2 y A rfl
    have hc : w.2.1 ≤ x.2.1 + x.2.2 + tsumC (y :: A ++ B) := by
      show w.2.1 ≤ x.2.1 + x.2.2 + (y.2.2 + tsumC (A ++ B))
      omega
    refine ⟨⟨?_, g1⟩, fun z r e => ?_, fun z hz => ?_⟩
    · show x.2.1 + x.2.2 + tsumC (y :: A ++ (w.1, (w.2.1 - tsumC B, w.2.2)) :: B) = barN rs x.1 (m + 1 - x.1 - 1)
      rw [i1, barN_yes (by rw [i2, ← hs, ← hb]; exact hc), i2, ← hb, ← ht, tsumC_app, tsumC_app]
      show x.2.1 + x.2.2 + (tsumC (y :: A) + (w.2.2 + tsumC B)) = _
      omega
    · cases e
      exact hc
    · rcases List.mem_cons.mp hz with rfl | hz
      · rw [← hb]
        exact hc
      · exact g3 z hz
theorem bef_ins {m j i : Nat} {Y : List Nat} (hj : j ≠ m) (hi : i ≠ m) : ∀ X : List Nat, (bef (X ++ m :: Y) j i = true ↔ bef (X ++ Y) j i = true)
  | [] => by
    show bef (m :: Y) j i = true ↔ bef Y j i = true
    rw [bef_cons]
    constructor
    · rintro (⟨h, _⟩ | h)
      · exact absurd h.symm hj
      · exact h
    · exact .inr
  | x :: X => by
    show bef (x :: (X ++ m :: Y)) j i = true ↔ bef (x :: (X ++ Y)) j i = true
    rw [bef_cons, bef_cons, bef_ins hj hi X]
    have e : i ∈ X ++ m :: Y ↔ i ∈ X ++ Y := by
      simp [hi]
    rw [e]
theorem bef_new {m i : Nat} {Y : List Nat} (hY : m ∉ Y) : ∀ X : List Nat, m ∉ X → (bef (X ++ m :: Y) m i = true ↔ i ∈ Y)
  | [], _ => by
    show bef (m :: Y) m i = true ↔ i ∈ Y
    rw [bef_cons]
    constructor
    · rintro (⟨_, h⟩ | h)
      · exact h
      · exact absurd (bef_mem h).1 hY
    · exact fun h => .inl ⟨rfl, h⟩
  | x :: X, h => by
    show bef (x :: (X ++ m :: Y)) m i = true ↔ i ∈ Y
    rw [bef_cons, bef_new hY X (fun z => h (List.mem_cons_of_mem _ z))]
    constructor
    · rintro (⟨e, _⟩ | h1)
      · exact absurd (List.mem_cons.mpr (.inl e.symm)) h
      · exact h1
    · exact .inr
theorem tag_app : ∀ (k : Nat) (a b : HH.Row), tag k (a ++ b) = tag k a ++ tag (k + a.length) b
  | k, [], b => rfl
  | k, x :: a, b => by
    show (k, x) :: tag (k + 1) (a ++ b) = (k, x) :: (tag (k + 1) a ++ tag (k + (a.length + 1)) b)
    rw [tag_app (k + 1) a b, show k + 1 + a.length = k + (a.length + 1) by omega]
structure EndP (rs : HH.Row) (m : Nat) (N : List Cow) : Prop where
  st : Steps (tag 0 (rs.take m)) N
  nf : NfR N
  ba : BarI rs m N
  ids : (N.map (·.1)).Perm (List.range m)
  by' : ∀ i j : Nat, i < j → j < m → (bef (N.map (·.1)) j i = true ↔ barN rs i (j - i - 1) < sS rs j)
theorem endP {rs : HH.Row} (ht : ∀ b ∈ rs, 0 ≤ b.2) : ∀ m, m ≤ rs.length → ∃ N, EndP rs m N
  | 0, _ => ⟨[], .refl _, True.intro, True.intro, .refl _, fun i j _ h => absurd h (Nat.not_lt_zero _)⟩
  | m + 1, h => by
    obtain ⟨N, e⟩ := endP ht m (by omega)
    have hm : m < rs.length := by omega
    have hg := row_get hm
    have hmem : ∀ x ∈ N, x.1 < m := fun x hx => List.mem_range.mp (e.ids.mem_iff.mp (List.mem_map_of_mem (f := (·.1)) hx))
    obtain ⟨A, B, e1, pb, st, la⟩ := ins_end (m, (sS rs m, tS rs m)) N.length N [] rfl True.intro
    rw [List.append_nil] at e1
    subst e1
    have t0 : 0 ≤ tS rs m := by
      have := ht (sS rs m, tS rs m) (List.mem_of_getElem? hg)
      exact this
    have hA : ∀ x ∈ A, x.1 < m := fun x hx => hmem x (List.mem_append_left _ hx)
    have hB : ∀ x ∈ B, x.1 < m := fun x hx => hmem x (List.mem_append_right _ hx)
    have baB : BarI rs m B := by
      have := e.ba
      clear e st la pb hmem hA
      induction A with
      | nil => exact this
      | cons x A ih => exact ih this.2
    obtain ⟨b1, b2⟩ := barI_B (s := sS rs m) rfl pb baB hB
    obtain ⟨a1, _, a3⟩ := barI_A (w := (m, (sS rs m, tS rs m))) rfl rfl rfl b1 e.nf e.ba hA la
    refine ⟨A ++ (m, (sS rs m - tsumC B, tS rs m)) :: B, ?_, ?_, a1, ?_, ?_⟩
    · have e2 : rs.take (m + 1) = rs.take m ++ [(sS rs m, tS rs m)] := by
        rw [List.take_add_one, hg]
        rfl
      have e3 : tag 0 (rs.take (m + 1)) = tag 0 (rs.take m) ++ [(m, (sS rs m, tS rs m))] := by
        rw [e2, tag_app, List.length_take, Nat.min_eq_left (by omega), Nat.zero_add]
        rfl
      rw [e3]
      have s1 := e.st.under [] [(m, (sS rs m, tS rs m))]
      refine Steps.trans (by simpa using s1) ?_
      have e4 : sS rs m - tsumC [] = sS rs m := Int.sub_zero _
      have st' := st
      dsimp only at st'
      rw [e4] at st'
      simpa using st'
    · refine nfr_in e.nf la fun b r eb => ?_
      subst eb
      have := pb.1
      show ¬ (b.2.1 - tS rs m > sS rs m - (b.2.2 + tsumC r))
      dsimp only at this
      omega
    · rw [List.map_append, List.map_cons, List.range_succ]
      have ids := e.ids
      rw [List.map_append] at ids
      refine List.perm_middle.trans ?_
      refine (List.Perm.cons m ids).trans ?_
      exact List.perm_append_comm (l₁ := [m]) (l₂ := List.range m)
    · intro i j hij hj
      have eids : (A ++ (m, (sS rs m - tsumC B, tS rs m)) :: B).map (·.1) = A.map (·.1) ++ m :: B.map (·.1) := by
        rw [List.map_append, List.map_cons]
      rw [eids]
      have eids0 : (A ++ B).map (·.1) = A.map (·.1) ++ B.map (·.1) := List.map_append
      have noA : m ∉ A.map (·.1) := fun z => by
        obtain ⟨x, hx, ex⟩ := List.mem_map.mp z
        have := hA x hx
        omega
      have noB : m ∉ B.map (·.1) := fun z => by
        obtain ⟨x, hx, ex⟩ := List.mem_map.mp z
        have := hB x hx
        omega
      by_cases hjm : j = m
      · subst hjm
        rw [bef_new noB _ noA]
        constructor
        · intro z
          obtain ⟨x, hx, rfl⟩ := List.mem_map.mp z
          exact b2 x hx
        · intro z
          have hi : i ∈ (A ++ B).map (·.1) := e.ids.mem_iff.mpr (List.mem_range.mpr hij)
          rw [eids0] at hi
          rcases List.mem_append.mp hi with hi | hi
          · obtain ⟨x, hx, rfl⟩ := List.mem_map.mp hi
            have := a3 x hx
            dsimp only at this
            omega
          · exact hi
      · rw [bef_ins hjm (by omega), ← eids0]
        exact e.by' i j hij (by omega)
theorem never_iff {rs : HH.Row} {L : List Cow} (ht : ∀ b ∈ rs, 0 ≤ b.2) (h : Steps (tag 0 rs) L) (nf : Nf L) {i j : Nat} (hij : i < j) (hj : j < rs.length) : bef (L.map (·.1)) j i = true ↔ barN rs i (j - i - 1) < sS rs j := by
  obtain ⟨N, e⟩ := endP ht rs.length (Nat.le_refl _)
  have st := e.st
  rw [List.take_length] at st
  rw [nf_any (good_tag ht).tl h nf st (nfr_nf e.nf)]
  exact e.by' i j hij hj
def nevP (rs : HH.Row) (i m : Nat) : Bool := decide (sS rs (i + 1 + m) ≤ barN rs i m)
def nevL (rs : HH.Row) (i n : Nat) : List Nat := ((List.range n).filter (nevP rs i)).map (i + 1 + ·)
end HH
set_option maxHeartbeats 4000000
namespace HH
open PySem PySem.Spec PyProof.Rows L2 Evl RZ
section
variable {K : PySem.W.Frag} {σ : L2.St} {H H' : Hp} {ta tb te : TE} {x y v : V}
end
def LowN (n : Nat) (b : Int × Int) : Prop := b.1.natAbs ≤ 10 ^ 12 * (n + 1) ∧ 0 ≤ b.2 ∧ b.2 < 10 ^ 12
theorem MRun.low {L0 L : List Cow} {ds : List Deed} (r : MRun L0 L ds) (h : ∀ x ∈ L0, LowN 0 x.2) : ∀ x ∈ L, LowN ds.length x.2 := by
  have e : (10 : Int) ^ 12 = 1000000000000 := by decide
  have e2 : (10 : Nat) ^ 12 = 1000000000000 := by decide
  induction r with
  | nil => exact h
  | pass r hp ih =>
    rename_i pre post a b ds
    intro x hx
    rw [List.length_append]
    show LowN (ds.length + 1) x.2
    have up : ∀ y, LowN ds.length y → LowN (ds.length + 1) y := fun y hy => by
      unfold LowN at hy ⊢
      rw [e2] at hy ⊢
      omega
    simp only [List.mem_append, List.mem_cons] at hx
    rcases hx with hx | hx | hx | hx
    · exact up _ (ih x (by simp [hx]))
    · subst hx
      have ha := ih a (by simp)
      have hb := ih b (by simp)
      unfold LowN at ha hb ⊢
      rw [e, e2] at ha hb ⊢
      dsimp only
      omega
    · exact up _ (ih x (by simp [hx]))
    · exact up _ (ih x (by simp [hx]))
  | fall r hp ih =>
    rename_i pre post a b ds
    intro x hx
    rw [List.length_append]
    show LowN (ds.length + 1) x.2
    have up : ∀ y, LowN ds.length y → LowN (ds.length + 1) y := fun y hy => by
      unfold LowN at hy ⊢
      rw [e2] at hy ⊢
      omega
    simp only [List.mem_append, List.mem_cons] at hx
    rcases hx with hx | hx | hx | hx
    · exact up _ (ih x (by simp [hx]))
    · exact up _ (ih x (by simp [hx]))
    · subst hx
      have ha := ih a (by simp)
      have hb := ih b (by simp)
      unfold LowN at ha hb ⊢
      rw [e, e2] at ha hb ⊢
      dsimp only
      omega
    · exact up _ (ih x (by simp [hx]))
theorem LowN.low {n : Nat} {b : Int × Int} (h : LowN n b) (hn : n ≤ 1000) : Low b := by
  unfold LowN at h
  unfold Low
  have e : (10 : Int) ^ 12 = 1000000000000 := by decide
  have e2 : (10 : Nat) ^ 12 = 1000000000000 := by decide
  have e3 : (10 : Nat) ^ 18 = 1000000000000000000 := by decide
  rw [e, e2] at h
  rw [e3]
  omega
end HH
set_option maxHeartbeats 4000000
namespace HH
open PySem PySem.Spec PyProof.Rows L2 Evl RZ
section
variable {K : PySem.W.Frag} {σ : L2.St} {H H' : Hp} {ta tb te : TE} {x y v : V}
end
end HH
set_option maxHeartbeats 4000000
namespace HH
open PySem PySem.Spec PyProof.Rows L2 Evl RZ
section
variable {X : Cx}
theorem flat_ints (ns : List Int) : (ns.map V.int).all flatV = true := List.all_eq_true.mpr fun v hv => by
  obtain ⟨n, _, rfl⟩ := List.mem_map.mp hv
  rfl
def rTIdx (K : PySem.W.Frag) : V → List V → Hp → VK → Prop := fun x as H Q => ∃ (a : Addr) (ns : List Int) (n : Int) (k : Nat), x = .ref a ∧ as = [.int n] ∧ SqT K H a (ns.map V.int) ∧ ns[k]? = some n ∧ (∀ m, m < k → ns[m]? ≠ some n) ∧ Q (.int (k : Int)) H
theorem mt_tup_indexI : MtR X "tuple.index" (rTIdx X.K) := by
  intro pins st σ H x as v args Q inv relx rela hq
  obtain ⟨a, ns, n, k, rfl, rfl, tup, here, first', q⟩ := hq
  cases relx
  obtain ⟨arg, rfl, tok, rfl⟩ := vals1 rela
  obtain ⟨vals, rv, place, _⟩ := inv.tuple tup
  obtain ⟨⟨oc, od, odt, osl⟩, got, isT, sq, isS⟩ := place
  dsimp only at isT isS
  subst isT isS
  have size : vals.toArray.size = ns.length := by
    have := rv.length
    rw [List.length_map] at this
    rw [List.size_toArray]
    omega
  have kin : k < vals.toArray.size := by
    have := (List.getElem?_eq_some_iff.mp here).1
    omega
  have item : ∀ (m : Nat) (lt : m < vals.toArray.size), ∃ (y : Int) (ty : Tok), ns[m]? = some y ∧ vals.toArray[m] = Value.int y ty := fun m lt => by
    have lt' : m < ns.length := by omega
    obtain ⟨w, hw, ty, ew⟩ := rv.get (i := m) (x := V.int ns[m]) (by rw [List.getElem?_map, List.getElem?_eq_getElem lt']; rfl)
    refine ⟨ns[m], ty, List.getElem?_eq_getElem lt', ?_⟩
    obtain ⟨_, e⟩ := List.getElem?_eq_some_iff.mp hw
    subst ew
    rw [List.getElem_toArray]
    exact e
  have same : ∀ (y : Int) (ty : Tok), eqU (.int n) (Value.int y ty) = decide (y = n) := fun y ty => by
    show (y == n) = decide (y = n)
    exact Bool.beq_eq_decide_eq y n
  refine call_meets PySem.F.slot_tuple_index ⟨_, got, rfl⟩ PySem.F.entry_tuple_index (PySem.F.args_tuple_index_2 _ _) (TI.tuple_indexAt a vals.toArray sq od osl (.int n tok) (eqU (.int n)) k kin ?_ ?_) ⟨got, fun y hy => mem_eqAt (x := V.int n) ⟨tok, rfl⟩ rfl rv (flat_ints ns) y (by simpa using hy), ⟨V.int (k : Nat), H, inv.tok _, ⟨_, rfl⟩, q⟩⟩
  · obtain ⟨y, ty, h1, h2⟩ := item k kin
    rw [h2, same, decide_eq_true]
    exact Option.some.inj (h1.symm.trans here)
  · intro m lt hmk
    obtain ⟨y, ty, h1, h2⟩ := item m lt
    rw [h2, same, decide_eq_false]
    intro e
    subst e
    exact first' m hmk h1
end
def stopAt (l : List Nat) (j : Nat) : V := if j = 0 then .non else .int (ixN l (j - 1) : Int)
structure InsR (w : Cow) (N A B : List Cow) : Prop where
  e : N = A ++ B
  st : Steps (N ++ [w]) (A ++ (w.1, (w.2.1 - tsumC B, w.2.2)) :: B)
  pb : PB w.2.1 B
theorem InsR.start (w : Cow) (N : List Cow) : InsR w N N [] := by
  refine ⟨(List.append_nil N).symm, ?_, True.intro⟩
  have e : (w.1, (w.2.1 - tsumC [], w.2.2)) = w := by
    show (w.1, (w.2.1 - 0, w.2.2)) = w
    rw [Int.sub_zero]
  rw [e]
  exact .refl _
theorem InsR.next {w a : Cow} {N A B : List Cow} (h : InsR w N (A ++ [a]) B) (hp : w.2.1 - tsumC B - a.2.2 > a.2.1) : InsR w N A (a :: B) := by
  refine ⟨by rw [h.e, List.append_assoc]; rfl, h.st.snoc ⟨A, B, a, (w.1, (w.2.1 - tsumC B, w.2.2)), by rw [List.append_assoc]; rfl, hp, ?_⟩, ⟨by omega, h.pb⟩⟩
  have e2 : w.2.1 - tsumC (a :: B) = w.2.1 - tsumC B - a.2.2 := by
    show w.2.1 - (a.2.2 + tsumC B) = _
    omega
  rw [e2]
theorem InsR.stop {w : Cow} {N A B : List Cow} (h : InsR w N A B) (n : NfR N) (t : 0 ≤ w.2.2) (la : ∀ x, A.getLast? = some x → ¬ (w.2.1 - tsumC B - x.2.2 > x.2.1)) : NfR (A ++ (w.1, (w.2.1 - tsumC B, w.2.2)) :: B) := by
  have hn := n
  rw [h.e] at hn
  refine nfr_in hn la fun b r eb => ?_
  have hb := h.pb
  subst eb
  have := hb.1
  show ¬ (b.2.1 - w.2.2 > w.2.1 - (b.2.2 + tsumC r))
  omega
end HH
set_option maxHeartbeats 4000000
namespace HH
open PySem PySem.Spec PyProof.Rows L2 Evl RZ
def MixSt (z TI TO i1 i2 a b : Addr) (i : Nat) (h : Heap) : Prop := IsZip h z TI TO .none ∧ IsTupOf2 h TI (.ref i1) (.ref i2) ∧ (∃ x y, IsTupOf2 h TO x y) ∧ h.IsListIter i1 a i ∧ h.IsTupleIter i2 b i
theorem five {c z TI TO i1 i2 : Addr} (h : c ∈ [z, TI, TO, i1, i2]) : c = z ∨ c = TI ∨ c = TO ∨ c = i1 ∨ c = i2 := by simpa using h
theorem MixSt.objs {z TI TO i1 i2 a b : Addr} {i : Nat} {h : Heap} (m : MixSt z TI TO i1 i2 a b i h) : ∀ c ∈ [z, TI, TO, i1, i2], ∃ ob, h.get? c = some ob ∧ ∀ v, ob.data ≠ .cell v := fun c hc => by
  obtain ⟨m1, m2, ⟨_, _, m3⟩, ⟨p1, g1, _, d1⟩, ⟨p2, g2, _, d2⟩⟩ := m
  rcases five hc with rfl | rfl | rfl | rfl | rfl
  · exact ⟨_, m1, fun v q => by cases q⟩
  · exact ⟨_, m2, fun v q => by cases q⟩
  · exact ⟨_, m3, fun v q => by cases q⟩
  · exact ⟨p1, g1, fun v q => by rw [d1] at q; cases q⟩
  · exact ⟨p2, g2, fun v q => by rw [d2] at q; cases q⟩
end HH
set_option maxHeartbeats 4000000
namespace HH
open PySem PySem.Spec PyProof.Rows L2 Evl RZ
def tp (rs : HH.Row) (k : Nat) : Int := tsum (rs.take k)
section
variable {K : PySem.W.Frag} {σ : L2.St} {H H' : Hp} {ta tb te : TE} {x y v : V} {t : TT}
theorem alike_two {d : Nat} {a b : Addr} {x1 x2 y1 y2 : V} (h : SqL K H a [x1, x2]) (g : SqL K H b [y1, y2]) (h1 : Alike K H d x1 y1) (h2 : Alike K H d x2 y2) : Alike K H (d + 1) (.ref a) (.ref b) := .inr ⟨a, b, _, _, rfl, rfl, .inl ⟨h, g⟩, rfl, by show 2 ≤ 40000; decide, fun i u w hu hw => by
  match i, hu, hw with
  | 0, hu, hw =>
    cases hu
    cases hw
    exact h1
  | 1, hu, hw =>
    cases hu
    cases hw
    exact h2
  | i + 2, hu, _ => cases hu⟩
end
section
variable {X : Cx}
end
end HH
set_option maxHeartbeats 4000000
namespace HH
open PySem PySem.Spec PyProof.Rows L2 Evl RZ
structure ListsF (H0 H : Hp) (us : List V) (ll : List (List Nat)) : Prop where
  len : us.length = ll.length
  at' : ∀ (i : Nat) (l : List Nat), ll[i]? = some l → ∃ p, us[i]? = some (.ref p) ∧ H0 p = none ∧ H p = some (.lst (natsV l))
theorem ListsF.nil {H0 H : Hp} : ListsF H0 H [] [] := ⟨rfl, fun i l h => by cases h⟩
theorem ListsF.ex {H0 H H' : Hp} {us : List V} {ll : List (List Nat)} (h : ListsF H0 H us ll) (e : Ex H H') : ListsF H0 H' us ll := ⟨h.len, fun i l hl => by
  obtain ⟨p, h1, h2, h3⟩ := h.at' i l hl
  exact ⟨p, h1, h2, e _ _ h3⟩⟩
theorem ListsF.low {H00 H0 H : Hp} {us : List V} {ll : List (List Nat)} (h : ListsF H0 H us ll) (e : Ex H00 H0) : ListsF H00 H us ll := ⟨h.len, fun i l hl => by
  obtain ⟨p, h1, h2, h3⟩ := h.at' i l hl
  exact ⟨p, h1, fresh_back e h2, h3⟩⟩
theorem ListsF.mut {H0 H : Hp} {us : List V} {ll : List (List Nat)} {D : Addr} {o o' : HO} (h : ListsF H0 H us ll) (hD : H0 D = some o) : ListsF H0 (upd H D o') us ll := ⟨h.len, fun i l hl => by
  obtain ⟨p, h1, h2, h3⟩ := h.at' i l hl
  refine ⟨p, h1, h2, ?_⟩
  rw [upd_ne (Ne.symm (ne_of_none hD h2))]
  exact h3⟩
theorem ListsF.app {H0 H : Hp} {us : List V} {ll : List (List Nat)} {p : Addr} {l : List Nat} (h : ListsF H0 H us ll) (hp : H0 p = none) (hl : H p = some (.lst (natsV l))) : ListsF H0 H (us ++ [.ref p]) (ll ++ [l]) := by
  refine ⟨by rw [List.length_append, List.length_append, h.len]; rfl, fun i m hm => ?_⟩
  by_cases hi : i < ll.length
  · rw [List.getElem?_append_left hi] at hm
    rw [List.getElem?_append_left (by rw [h.len]; exact hi)]
    exact h.at' i m hm
  · rw [List.getElem?_append_right (by omega)] at hm
    rw [List.getElem?_append_right (by rw [h.len]; omega), h.len]
    match e : i - ll.length, hm with
    | 0, hm =>
      cases hm
      exact ⟨p, rfl, hp, hl⟩
    | k + 1, hm => cases hm
def nevT (rs : HH.Row) : List (List Nat) := (List.range rs.length).map fun i => nevL rs i (rs.length - i - 1)
def spIsNum : Sp := fun vs H Q _ => ∃ i : Int, vs = [.int i] ∧ RetV (.bl true) H Q
section
variable {X : Cx}
end
section
variable {K : PySem.W.Frag} {σ : L2.St} {H : Hp} {v : V}
end
end HH
set_option maxHeartbeats 4000000
namespace HH
open PySem PySem.Spec PyProof.Rows L2 Evl RZ
def PlainT (o : Obj) : Prop := o.cls = .type "tuple" ∧ o.dict = none
def kTupF (K : PySem.W.Frag) (x : V) (H : Hp) (Q : VK) : Prop := ∃ (l : Addr) (xs : List V), x = .ref l ∧ SqL K H l xs ∧ ∀ (t : Addr) (o : Obj), PlainT o → H t = none → Q (.ref t) (upd H t (.frz o (.tup xs)))
section
variable {X : Cx}
theorem pe_tupleOfF {c : Expr} {tc : TE} {p pos : Pos} (hg : Gl X "tuple") (hm : X.mg "tuple" = none) (hc : PE X c tc) (hs : starEach [c] X.env = (false, eval c X.env) :: starEach [] X.env := by rfl) :
    PE X (.Call (.Name "tuple" p) [c] [] pos) (tThen tc (kTupF X.K)) := by
  refine ⟨fun pins st σ H Q inv h => Call_ (ld_blt inv hg hm boot_tuple (PyProof.Rows.callWith_type1 (one_arg hc inv h (fun v s1 x H1 inv1 rel ask => ?_) hs) hs))⟩
  obtain ⟨l, xs, rfl, sq, q⟩ := ask
  cases rel
  obtain ⟨vals, rv, place, few⟩ := inv1.list sq
  refine call_tuple_list place.isList (fun g keep => ?_) (by rw [List.size_toArray]; have := rv.length; omega)
  have inv2 : Inv X pins σ H1 { s1 with heap := g } := inv1.kept (t' := s1.toks) keep
  have okF : ObjOk X.prog X.w (upd H1 g.objs.size (.frz { cls := .type "tuple", data := .seq vals.toArray } (.tup xs))) (g.push { cls := .type "tuple", data := .seq vals.toArray }) g.objs.size (.frz { cls := .type "tuple", data := .seq vals.toArray } (.tup xs)) :=
    ⟨Heap.get?_push_size _ rfl, few, vals, rv, IsTup.new _ _⟩
  exact ⟨.ref g.objs.size, _, inv2.laid (t' := s1.toks) (fun b o e => Heap.get?_push_of_some _ e) (Nat.le_refl _) okF, rfl, q _ _ ⟨rfl, rfl⟩ (inv2.hok.fresh (Nat.le_refl _))⟩
def tBMF (r : V → List V → Hp → VK → Prop) (to : TE) (ta : TA) : TE := fun σ H Q => to σ H fun x H1 => (∃ (t : Addr) (o : Obj) (u : HO), x = .ref t ∧ H1 t = some (.frz o u) ∧ PlainT o) ∧ ta σ H1 fun vs H2 => r x vs H2 Q
theorem pe_bmF {rc e : Expr} {es : List Expr} {to : TE} {t : TA} {name : Str} {ap cp : Pos} {id : String} {r : V → List V → Hp → VK → Prop} (sl : Slot "tuple" name id) (hty : typeOf (.builtin id) = pure (.type "method_descriptor")) (hm : MtR X id r) (ho : PE X rc to) (ha : PA X (e :: es) t)
    (hbs : attributeBase rc name X.env (eval rc X.env) = eval rc X.env := by rfl)
    (fw : ((backTo cp (starEach (e :: es) X.env)).all (fun x => !x.1) && (backToKw cp (keywordEach [] X.env)).all (fun x => x.1.isSome) && decide ((e :: es).length + ([] : List Keyword).length + (if ([] : List Keyword).isEmpty then 0 else 1) < 30)) = true := by rfl)
    (onl : (ap.endLine == cp.line) = true := by rfl) (hs : starEach (e :: es) X.env = (false, eval e X.env) :: starEach es X.env := by rfl) (npl : (backTo cp (starEach es X.env)).any (·.1) = false := by rfl) : PE X (.Call (.Attribute rc name ap) (e :: es) [] cp) (tBMF r to t) := by
  refine ⟨fun pins st σ H Q inv h => wpAny_Call_method_late hbs fw onl rfl (thn (ho.run pins st σ H _ inv h) fun v s1 ⟨x, H1, inv1, rel, kind, ask⟩ => ?_)⟩
  obtain ⟨a, ob, u, rfl, known, isT, noD⟩ := kind
  cases rel
  have got : s1.heap.get? a = some ob := (inv1.hok a _ known).1
  have args := ha.run cp pins s1 σ H1 _ inv1 ask
  refine ⟨"tuple", id, PySem.F.plainAttrs_tuple, sl, hty, ⟨ob, got, isT⟩, fun b eb => ?_, ?_⟩
  · cases eb
    exact ⟨ob, got, noD⟩
  · rw [hs] at args ⊢
    refine Calls.callWith_builtin (by show (false || (backTo cp (starEach es X.env)).any (·.1)) = false; rw [npl]; rfl) (Calls.evalArgs_plain (thn args fun us s2 ⟨vs, H2, inv2, rels, q2⟩ => hm pins s2 σ H2 (.ref a) vs (.ref a) us Q inv2 rfl rels q2))
end
structure LastAtF (K : PySem.W.Frag) (H : Hp) (q : Addr) (L : List Cow) : Prop where
  ex : ∃ (v : V) (ot : Addr) (o : Obj), H q = some (.tup [v, .ref ot]) ∧ RowAt K H v (rowsOf L) ∧ H ot = some (.frz o (.tup (ordL L))) ∧ PlainT o
end HH
set_option maxHeartbeats 4000000
namespace HH
open PySem PySem.Spec PyProof.Rows L2 Evl RZ
inductive StepsN : Nat → List Cow → List Cow → Prop
  | refl (L : List Cow) : StepsN 0 L L
  | head {k : Nat} {L M N : List Cow} : Step L M → StepsN k M N → StepsN (k + 1) L N
theorem StepsN.trans {a b : Nat} {L M N : List Cow} (h : StepsN a L M) (g : StepsN b M N) : StepsN (a + b) L N := by
  induction h with
  | refl => rw [Nat.zero_add]; exact g
  | head s _ ih =>
    rename_i k L M N _
    rw [show k + 1 + b = k + b + 1 by omega]
    exact .head s (ih g)
theorem StepsN.steps {a : Nat} {L M : List Cow} (h : StepsN a L M) : Steps L M := by
  induction h with
  | refl => exact .refl _
  | head s _ ih => exact .head s ih
theorem StepsN.under {a : Nat} {L M : List Cow} (pre post : List Cow) (h : StepsN a L M) : StepsN a (pre ++ L ++ post) (pre ++ M ++ post) := by
  induction h with
  | refl => exact .refl _
  | head s _ ih => exact .head (s.under pre post) ih
theorem StepsN.map {a : Nat} {L M : List Cow} (f : Nat → Nat) (h : StepsN a L M) : StepsN a (rlL f L) (rlL f M) := by
  induction h with
  | refl => exact .refl _
  | head s _ ih => exact .head (s.map f) ih
theorem StepsN.run {a : Nat} {L0 L M : List Cow} (h : StepsN a L M) : ∀ {ps : List (Int × Int)}, PRun L0 L ps → ∃ qs, PRun L0 M qs ∧ qs.length = ps.length + a := by
  induction h with
  | refl => exact fun r => ⟨_, r, rfl⟩
  | head s _ ih =>
    intro ps r
    obtain ⟨pre, post, x, y, rfl, hp, rfl⟩ := s
    obtain ⟨qs, g1, g2⟩ := ih (r.step hp)
    refine ⟨qs, g1, ?_⟩
    rw [g2, List.length_append]
    show ps.length + 1 + _ = _
    omega
theorem StepsN.tab {a : Nat} {rs : HH.Row} {L : List Cow} (ht : ∀ b ∈ rs, 0 ≤ b.2) (h : StepsN a (tag 0 rs) L) : (tab (L.map (·.1)) rs.length rs.length).length = a := by
  obtain ⟨qs, r, e⟩ := h.run (PRun.nil)
  obtain ⟨td, _, _⟩ := r.told ht
  have ids := h.steps.ids
  rw [tag_ids] at ids
  rw [← (told_tab td fun x hx => List.mem_range.mp (ids.mem_iff.mp hx)).length_eq, e]
  show 0 + a = a
  omega
theorem tag_rl (k b : Nat) : ∀ rs : HH.Row, tag (b + k) rs = rlL (b + ·) (tag k rs) := by
  intro rs
  refine List.ext_getElem? fun i => ?_
  unfold rlL
  rw [List.getElem?_map, tag_at, tag_at]
  cases rs[i]? with
  | none => rfl
  | some x =>
    show some (b + k + i, x) = some (b + (k + i), x)
    rw [Nat.add_assoc]
end HH
set_option maxHeartbeats 4000000
namespace HH
open PySem PySem.Spec PyProof.Rows L2 Evl RZ
section
variable {X : Cx}
end
def EvP (K : PySem.W.Frag) (te : TE) (σ : L2.St) (H : Hp) (ps : HH.Row) : Prop := ∀ H1, Ex H H1 → ∀ Q : VK, (∀ (q : Addr) (us : List V) (H2 : Hp), H1 q = none → Ex H1 H2 → H2 q = some (.lst us) → Beasts K H2 us ps → Q (.ref q) H2) → te σ H1 Q
section
variable {K : PySem.W.Frag} {σ : L2.St} {H H' : Hp} {ta tb tc te : TE} {x y v : V} {Q : VK}
theorem g_at {i : Nat} {x : V} {k : L2.St → Hp → Prop} (σ' : L2.St) (e : σ.set i (some x) = σ') (h : k σ' H) : gName i x σ H k := by
  show k (σ.set i (some x)) H
  rw [e]
  exact h
end
end HH
set_option maxHeartbeats 4000000
namespace HH
open PySem PySem.Spec PyProof.Rows L2 Evl RZ
def nextB (ah : List Nat) (s : Nat) : List Nat := (List.range ah.length).filter fun w => !s.testBit w && decide (ah.getD w 0 &&& s = ah.getD w 0)
theorem mem_nextB {ah : List Nat} {s w : Nat} : w ∈ nextB ah s ↔ w < ah.length ∧ s.testBit w = false ∧ ah.getD w 0 &&& s = ah.getD w 0 := by
  unfold nextB
  rw [List.mem_filter, List.mem_range, Bool.and_eq_true, decide_eq_true_iff, Bool.not_eq_true']
def putB (s w : Nat) : Nat := s ||| 2 ^ w
theorem put_bit (s w j : Nat) : (putB s w).testBit j = (s.testBit j || decide (j = w)) := by
  unfold putB
  rw [Nat.testBit_or, Nat.testBit_two_pow]
  congr 1
  exact decide_eq_decide.mpr eq_comm
theorem put_lt {s w n : Nat} (hs : s < 2 ^ n) (hw : w < n) : putB s w < 2 ^ n := Nat.or_lt_two_pow hs (Nat.pow_lt_pow_right (by decide) hw)
def leftB (n s : Nat) : Nat := ((List.range n).filter fun w => !s.testBit w).length
theorem filter_less {α : Type} [DecidableEq α] {p q : α → Bool} {a : α} : ∀ {l : List α}, l.Nodup → a ∈ l → p a = true → (∀ x, q x = (p x && !decide (x = a))) → (l.filter q).length + 1 = (l.filter p).length
  | [], _, h, _, _ => nomatch h
  | x :: l, nd, h, pa, hq => by
    have nd := List.nodup_cons.mp nd
    by_cases e : x = a
    · subst e
      have ql : l.filter q = l.filter p := List.filter_congr fun y hy => by
        rw [hq, decide_eq_false (fun z : y = x => nd.1 (by rw [← z]; exact hy))]
        simp
      rw [List.filter_cons_of_neg (by rw [hq]; simp), List.filter_cons_of_pos pa, ql, List.length_cons]
    · have ha : a ∈ l := by
        rcases List.mem_cons.mp h with h | h
        · exact absurd h.symm e
        · exact h
      have ih := filter_less nd.2 ha pa hq
      have qx : q x = p x := by rw [hq, decide_eq_false e]; simp
      cases hp : p x with
      | true => rw [List.filter_cons_of_pos (by rw [qx, hp]), List.filter_cons_of_pos hp, List.length_cons, List.length_cons, ih]
      | false => rw [List.filter_cons_of_neg (by rw [qx, hp]; decide), List.filter_cons_of_neg (by rw [hp]; decide), ih]
theorem left_put {n s w : Nat} (hw : w < n) (h : s.testBit w = false) : leftB n (putB s w) + 1 = leftB n s :=
  filter_less List.nodup_range (List.mem_range.mpr hw) (by rw [h]; rfl) fun x => by
    rw [put_bit]
    simp
theorem left_0 {n s : Nat} (hs : s < 2 ^ n) : leftB n s = 0 ↔ s = 2 ^ n - 1 := by
  unfold leftB
  rw [List.length_eq_zero_iff, List.filter_eq_nil_iff]
  constructor
  · intro h
    refine Nat.eq_of_testBit_eq fun j => ?_
    rw [Nat.testBit_two_pow_sub_one]
    by_cases hj : j < n
    · have := h j (List.mem_range.mpr hj)
      rw [decide_eq_true hj]
      simpa using this
    · rw [decide_eq_false hj]
      exact Nat.testBit_lt_two_pow (Nat.lt_of_lt_of_le hs (Nat.pow_le_pow_right (by decide) (by omega)))
  · intro h w hw
    have hw := List.mem_range.mp hw
    rw [h, Nat.testBit_two_pow_sub_one, decide_eq_true hw]
    decide
def cntB (ah : List Nat) : Nat → Nat → Nat
  | 0, s => if s = 2 ^ ah.length - 1 then 1 else 0
  | k + 1, s => (if s = 2 ^ ah.length - 1 then 1 else 0) + ((nextB ah s).map fun w => cntB ah k (putB s w)).sum
def cntF (ah : List Nat) (s : Nat) : Nat := cntB ah (leftB ah.length s) s
theorem next_full {ah : List Nat} {s : Nat} (h : s = 2 ^ ah.length - 1) : nextB ah s = [] := by
  unfold nextB
  rw [List.filter_eq_nil_iff]
  intro w hw z
  rw [Bool.and_eq_true, h, Nat.testBit_two_pow_sub_one, decide_eq_true (List.mem_range.mp hw)] at z
  exact nomatch z.1
theorem cnt_more {ah : List Nat} : ∀ (k : Nat) {s : Nat}, s < 2 ^ ah.length → leftB ah.length s ≤ k → cntB ah k s = cntF ah s
  | 0, s, hs, h => by
    unfold cntF
    rw [show leftB ah.length s = 0 by omega]
  | k + 1, s, hs, h => by
    unfold cntF
    cases e : leftB ah.length s with
    | zero =>
      have hf := (left_0 hs).mp e
      show (_ + _ : Nat) = _
      rw [next_full hf]
      rfl
    | succ m =>
      show (_ + _ : Nat) = (_ + _ : Nat)
      congr 2
      refine List.map_congr_left fun w hw => ?_
      obtain ⟨h1, h2, _⟩ := mem_nextB.mp hw
      have hl := left_put h1 h2
      rw [cnt_more k (put_lt hs h1) (by omega)]
      unfold cntF
      congr 1
      omega
theorem cnt_at {ah : List Nat} {s : Nat} (hs : s < 2 ^ ah.length) : cntF ah s = (if s = 2 ^ ah.length - 1 then 1 else 0) + ((nextB ah s).map fun w => cntF ah (putB s w)).sum := by
  cases e : leftB ah.length s with
  | zero =>
    have hf := (left_0 hs).mp e
    unfold cntF
    rw [e, next_full hf]
    rfl
  | succ m =>
    have : cntF ah s = cntB ah (m + 1) s := by unfold cntF; rw [e]
    rw [this]
    show (_ + _ : Nat) = (_ + _ : Nat)
    congr 2
    refine List.map_congr_left fun w hw => ?_
    obtain ⟨h1, h2, _⟩ := mem_nextB.mp hw
    have hl := left_put h1 h2
    exact cnt_more m (put_lt hs h1) (by omega)
structure KnowsB (ah : List Nat) (kvs : List (Key × V)) : Prop where
  nd : (kvs.map (·.1)).Nodup
  ok : ∀ kv ∈ kvs, ∃ s : Nat, s < 2 ^ ah.length ∧ kv = (.inl (s : Int), .int (cntF ah s : Int))
theorem KnowsB.nil (ah : List Nat) : KnowsB ah [] := ⟨.nil, fun _ h => nomatch h⟩
theorem KnowsB.get {ah : List Nat} {kvs : List (Key × V)} (h : KnowsB ah kvs) {s : Nat} {x : V} (e : valV kvs (.inl (s : Int)) = some x) : x = .int (cntF ah s : Int) := by
  unfold valV at e
  cases f : kvs.find? fun kv => decide (kv.1 = (.inl (s : Int) : Key)) with
  | none => rw [f] at e; cases e
  | some kv =>
    rw [f] at e
    have e := Option.some.inj e
    obtain ⟨t, ht, hk⟩ := h.ok kv (List.mem_of_find?_eq_some f)
    have hs : kv.1 = (.inl (s : Int) : Key) := of_decide_eq_true (List.find?_some (p := fun kv : Key × V => decide (kv.1 = (.inl (s : Int) : Key))) f)
    subst hk
    have : (t : Int) = (s : Int) := by
      have z : (Sum.inl (t : Int) : Key) = Sum.inl (s : Int) := hs
      injection z
    have : t = s := by omega
    rw [← e, this]
theorem put_new {κ : Type} [DecidableEq κ] {kvs : List (κ × V)} {k : κ} {v : V} (h : valV kvs k = none) : putK kvs k v = kvs ++ [(k, v)] := by
  unfold putK
  rw [if_neg]
  rw [valV_any, h]
  decide
theorem KnowsB.put {ah : List Nat} {kvs : List (Key × V)} (h : KnowsB ah kvs) {s : Nat} (hs : s < 2 ^ ah.length) (e : valV kvs (.inl (s : Int)) = none) : KnowsB ah (putK kvs (.inl (s : Int)) (.int (cntF ah s : Int))) := by
  rw [put_new e]
  refine ⟨?_, fun kv hkv => ?_⟩
  · rw [List.map_append]
    refine List.nodup_append.mpr ⟨h.nd, by simp, fun a ha b hb z => ?_⟩
    have hb : b = .inl (s : Int) := by simpa using hb
    rw [z, hb] at ha
    obtain ⟨kv, hkv, hk⟩ := List.mem_map.mp ha
    have := valV_any (.inl (s : Int) : Key) kvs
    rw [e] at this
    have h2 := List.any_eq_false.mp this kv hkv
    exact h2 (decide_eq_true hk)
  · rcases List.mem_append.mp hkv with h1 | h1
    · exact h.ok kv h1
    · exact ⟨s, hs, List.mem_singleton.mp h1⟩
theorem nodup_few {α : Type} [DecidableEq α] : ∀ {l m : List α}, l.Nodup → (∀ x ∈ l, x ∈ m) → l.length ≤ m.length
  | [], _, _, _ => Nat.zero_le _
  | a :: l, m, nd, h => by
    have nd := List.nodup_cons.mp nd
    have ha := h a (List.mem_cons_self ..)
    have ih := nodup_few (l := l) (m := m.erase a) nd.2 fun x hx => (List.mem_erase_of_ne (fun z => nd.1 (by rw [← z]; exact hx))).mpr (h x (List.mem_cons_of_mem _ hx))
    rw [List.length_erase_of_mem ha] at ih
    have := List.length_pos_of_mem ha
    rw [List.length_cons]
    omega
theorem KnowsB.few {ah : List Nat} {kvs : List (Key × V)} (h : KnowsB ah kvs) : kvs.length ≤ 2 ^ ah.length := by
  have sub := nodup_few (m := (List.range (2 ^ ah.length)).map fun (s : Nat) => (.inl (s : Int) : Key)) h.nd fun k hk => by
    obtain ⟨kv, hkv, rfl⟩ := List.mem_map.mp hk
    obtain ⟨s, hs, rfl⟩ := h.ok kv hkv
    exact List.mem_map.mpr ⟨s, List.mem_range.mpr hs, rfl⟩
  rw [List.length_map, List.length_map, List.length_range] at sub
  exact sub
end HH
set_option maxHeartbeats 4000000
namespace HH
open PySem PySem.Spec PyProof.Rows L2 Evl RZ
abbrev RowsA (K : PySem.W.Frag) (H : Hp) : List V → List HH.Row → Prop := All2 (RowAt K H)
theorem RowsA.ex' {K : PySem.W.Frag} {H H' : Hp} {us : List V} {rr : List HH.Row} (h : RowsA K H us rr) (e : Ex H H') : RowsA K H' us rr := All2.mono (fun _ _ r => r.ex e) h
theorem RowsA.exB' {K : PySem.W.Frag} {H H' : Hp} {us : List V} {rr : List HH.Row} {q : Addr} {ys : List V} (h : RowsA K H us rr) (e : ExB q H H') (hq : H q = some (.lst ys)) : RowsA K H' us rr := All2.mono (fun _ _ r => r.exL e hq) h
theorem call_len_seqK {X : Cx} {K : PySem.W.Frag} (h : X.K = K := by rfl) : CallR X (.builtin "len") (rLenS K) := by
  subst h
  exact call_len_seq
section
variable {K : PySem.W.Frag} {σ : L2.St} {H : Hp} {ta tb tc tx : TE} {Q : VK}
end
end HH
set_option maxHeartbeats 4000000
namespace HH
open PySem PySem.Spec PyProof.Rows L2 Evl RZ
section
variable {X : Cx}
theorem run_put {ps : List (Addr × Obj)} {τ : L2.St} {G G' : Hp} {t : Shared} {Er : Value → Shared → Prop} {d : Addr} {key val : V} {ku vu : Value} {Fin : Unit → Shared → Prop} (rm : X.A.units < cLine) (inv : Inv X ps τ G t) (put : DPut G d key val G') (rk : RelV key ku) (rv : RelV val vu)
    (go : ∀ t', Inv X ps τ G' t' → Fin () t') : wpAny (model X.prog X.w) X.A (dictSet d ku vu) Fin Er t := by
  rcases put with ⟨es, c, ed, rfl, sz, rfl⟩ | ⟨es, c, b, ed, rfl, eb, sz, rfl⟩
  · exact d_dictSet inv ed sz rk rv go
  · cases (show ku = Value.ref b from rk)
    obtain ⟨z1, z2, rows, pr, holds⟩ := dt_of inv.hok ed
    have few : rows.length ≤ sizeLine := (Paired.length pr) ▸ z1
    refine wpAny_dictSet_heap (knd := tupleKind (mixKind X.prog X.w)) (hsz := few) rm (key_of inv.hok eb) holds fun g2 holds2 same => go _ ?_
    obtain ⟨ob, ents, ep, o1, o2, o3, o4, _, o6⟩ := holds2
    have len2 : (putK es c val).length ≤ sizeLine := Nat.le_trans (length_putK es c val) sz
    have pr2 := (pr.put c eb rv).keeps (H' := upd G d (.dT (putK es c val))) fun x ys ex => by
      rw [upd_ne (ne_of ex ed fun z => nomatch z)]
      exact ex
    exact d_write inv (by rw [ed]; trivial) same ⟨ob, o1⟩ ⟨len2, z2, _, pr2, ob, ents, ep, o1, o2, o3, o4, o6⟩
def tDcT (wi : TI) (g : TG) (tt : TT) (tk tv : TE) (vs : List Nat) : TE := fun σ H Q => wi σ H fun J H1 => ∀ d, H1 d = none → ∃ W : Nat → Nat → Hp → Prop, (∃ m, W 0 m (upd H1 d (.dT []))) ∧ ∀ i m G, W i m G →
  (J.stop i G ∧ Q (.ref d) G) ∨ (J.go i G ∧ ∃ Nx : Hp → Prop, (∀ G', Nx G' → ∃ m', m' < m ∧ W (i + 1) m' G') ∧ ∀ x G', J.yld i G x G' → g x (wipe σ vs) G' fun σ2 G2 => wipe σ2 vs = wipe σ vs ∧ tt σ2 G2 fun b G3 =>
    if b = true then tk σ2 G3 fun y G4 => tv σ2 G4 fun z G5 => ∃ G6, DPut G5 d y z G6 ∧ Nx G6 else Nx G3)
theorem core_dcT {ps : List (Addr × Obj)} {t : Shared} {σ : L2.St} {H : Hp} {Q : VK} {kx vx tg it : Expr} {ifs : List Expr} {scp : Scope} {own : List (Str × Nat)} {pa pb : Pos} {wi : TI} {g : TG} {tt : TT} {tk tv : TE} {use : Option (Value → Sem Unit)} {Fin : Value → Shared → Prop}
    (calm : X.calm = true) (rm : X.A.units < cLine) (nd : X.N.Nodup) (inv : Inv X ps σ H t) (pi : PI X tg it wi) (ok : BlkOk X.N X.env.scope scp own)
    (pg : ∀ (s : Shared) (G : Hp) (c : Addr) (cl : List (Str × Addr)) (fp : List Addr), PG (X.blk s G scp (compEnvC scp cl c X.env) fp) tg g)
    (pt : ∀ (s : Shared) (G : Hp) (c : Addr) (cl : List (Str × Addr)) (fp : List Addr), PTs (X.blk s G scp (compEnvC scp cl c X.env) fp) ifs tt)
    (pk : ∀ (s : Shared) (G : Hp) (c : Addr) (cl : List (Str × Addr)) (fp : List Addr), PE (X.blk s G scp (compEnvC scp cl c X.env) fp) kx tk)
    (pv : ∀ (s : Shared) (G : Hp) (c : Addr) (cl : List (Str × Addr)) (fp : List Addr), PE (X.blk s G scp (compEnvC scp cl c X.env) fp) vx tv)
    (fold : ∀ x, foldedSetIterable it X.env x = pure x) (told : tDcT wi g tt tk tv (own.map (·.2)) σ H Q)
    (last : ∀ d c t' m G, Inv X ps σ G t' → Q (.ref d) G → t'.heap.Ns c m → FpOk X ps G c → compPost (model X.prog X.w) X.A X.xe use Fin (.ref d) c (.ok .next) t') :
    wpAny (model X.prog X.w) X.A (comprehension (.DictComp kx vx [⟨tg, it, ifs, 0⟩] scp pa) scp X.env pb newDict false (eval it X.env) use) Fin X.xe t := by
  have cells : ∀ y ∈ scp.names, y.2 = .free → ∃ c, X.env.cells.lookup y.1 = some c := by
    intro y my ey
    exact (ok.free y my ey).elim (fun k => inv.ok.has _ (.inl k)) fun k => inv.ok.has _ (.inr k)
  refine wpAny_comprehension_free (use := use) rfl fold (closure_ok cells) ok.kind (fun y my ey => (ok.uniq y my).trans (congrArg some ey)) ?_
  refine thn (pi.run ps t σ H _ inv told) fun x1 t1 h1 => thn h1 fun x2 t2 h2 => ?_
  obtain ⟨ia, fp, tn, J, H2, rfl, inv2, turns, at2, fp2, steps⟩ := h2
  refine wpAny_newObj_type (newEnv_comp ?_)
  have fresh : H2 t2.heap.objs.size = none := inv2.hok.fresh (Nat.le_refl _)
  obtain ⟨W, ⟨m0, w0⟩, turn⟩ := steps t2.heap.objs.size fresh
  have inv3 : Inv X ps σ (upd H2 t2.heap.objs.size (.dT [])) { t2 with heap := t2.heap.push { cls := .type "dict", data := .dict #[] } } :=
    inv2.laid (t' := t2.toks) (fun a o ea => Heap.get?_push_of_some _ ea) (Nat.le_refl _) (dt_empty t2.heap inv2.big)
  have below : ∀ a ∈ fp, a < t2.heap.objs.size := fun a ma => by
    obtain ⟨o, eo, _⟩ := turns.obj _ _ at2 a ma
    exact Heap.lt_size eo
  have fp3 : ∀ a ∈ fp, FpOk X ps (upd H2 t2.heap.objs.size (.dT [])) a ∧ a < (t2.heap.push { cls := .type "dict", data := .dict #[] }).objs.size := fun a ma => by
    have lt := below a ma
    constructor
    · refine ⟨?_, (fp2 a ma).2⟩
      rw [upd_ne (Nat.ne_of_lt lt)]
      exact (fp2 a ma).1
    · rw [Heap.size_push]
      exact Nat.lt_succ_of_lt lt
  have at3 : tn 0 (t2.heap.push { cls := .type "dict", data := .dict #[] }) := turns.keep _ _ _ at2 fun a _ o eo => Heap.get?_push_of_some _ eo
  generalize t2.heap.objs.size = d at *
  generalize et3 : ({ t2 with heap := t2.heap.push { cls := .type "dict", data := .dict #[] } } : Shared) = t3 at *
  have eh3 : t2.heap.push { cls := .type "dict", data := .dict #[] } = t3.heap := by rw [← et3]
  rw [eh3] at fp3 at3
  have inv4 := block_start inv3 ok nd fp3
  have pg4 := pg t3 (upd H2 d (.dT [])) t3.heap.objs.size (cellsFrom (t3.heap.objs.size + 1) scp.names (cloFrom X.env.cells scp.names [])) fp
  have pt4 := pt t3 (upd H2 d (.dT [])) t3.heap.objs.size (cellsFrom (t3.heap.objs.size + 1) scp.names (cloFrom X.env.cells scp.names [])) fp
  have pk4 := pk t3 (upd H2 d (.dT [])) t3.heap.objs.size (cellsFrom (t3.heap.objs.size + 1) scp.names (cloFrom X.env.cells scp.names [])) fp
  have pv4 := pv t3 (upd H2 d (.dT [])) t3.heap.objs.size (cellsFrom (t3.heap.objs.size + 1) scp.names (cloFrom X.env.cells scp.names [])) fp
  show codeAny _ _ (.compStart (.DictComp kx vx [⟨tg, it, ifs, 0⟩] scp pa) 0 (.ref ia) (.ref d) (compEnvC scp (cellsFrom (t3.heap.objs.size + 1) scp.names (cloFrom X.env.cells scp.names [])) t3.heap.objs.size X.env)) _ _
  have none3 : ∀ a ∈ fp, (upd H2 d (.dT [])) a = none := fun a ma => (fp3 a ma).1.1
  generalize eEnv : compEnvC scp (cellsFrom (t3.heap.objs.size + 1) scp.names (cloFrom X.env.cells scp.names [])) t3.heap.objs.size X.env = env4 at *
  have locs : env4.locals = t3.heap.objs.size := by rw [← eEnv]; rfl
  generalize upd H2 d (.dT []) = H3 at *
  generalize et4 : ({ t3 with heap := pushCells (t3.heap.push { cls := .type "dict", data := .dict #[] }) scp.names } : Shared) = t4 at *
  have at4 : tn 0 t4.heap := turns.keep _ _ _ at3 fun a _ o eo => by
    rw [← et4]
    exact pushCells_keeps _ _ _ _ (Heap.get?_push_of_some _ eo)
  have held : ∀ {τ : L2.St} {G : Hp} {t' : Shared}, Inv (X.blk t3 H3 scp env4 fp) [] τ G t' → (∀ a ∈ fp, G a = none) → ∀ a ∈ fp, FpOk (X.blk t3 H3 scp env4 fp) [] G a := by
    intro τ G t' inv' no a ma
    have x1 := inv'.ok.exf a ma
    refine ⟨no a ma, x1.1, inv'.ok.exfs a ma, .inl ma, fun y c ec => x1.2 y c ec, fun p mp => ?_⟩
    have : p ∈ ([] : List (Addr × Obj)) ++ [] := mp
    simp at this
  have whole : codeAny (model X.prog X.w) X.A (.compLoop (.DictComp kx vx [⟨tg, it, ifs, 0⟩] scp pa) 0 (.ref ia) (.ref d) env4) (compPost (model X.prog X.w) X.A X.xe use Fin (.ref d) t3.heap.objs.size) t4 := by
    refine compLoop_anyD (fun n t' => ∃ i G, Inv (X.blk t3 H3 scp env4 fp) [] (wipe σ (own.map (·.2))) G t' ∧ tn i t'.heap ∧ (∀ a ∈ fp, G a = none) ∧ W i n G) ?_ m0 ⟨0, H3, inv4, at4, none3, w0⟩
    rintro n t5 ⟨i, H5, inv5, at5, none5, w5⟩
    rcases turn i n H5 w5 with ⟨stops, qd⟩ | ⟨goes, Nx, less, step⟩
    · refine thnF (turns.done (X.blk t3 H3 scp env4 fp) rfl rfl rfl calm i [] t5 _ H5 (fun _ _ => False) inv5 (held inv5 none5) at5 stops) fun r t6 ⟨er, inv6⟩ => ?_
      subst er
      have back : Inv X ps σ H5 t6 := inv3.call' (ch := fp) inv6.os inv6.base inv6.hok inv6.bare fun a ma => by
        obtain ⟨_, y1, _, y3, y4, y5⟩ := (fp3 a ma).1
        exact ⟨y3, y1, y4, y5⟩
      obtain ⟨m, ns, _⟩ := inv6.loc
      have ns' : t6.heap.Ns env4.locals m := ns
      have none6 : H5 env4.locals = none := inv6.free
      rw [locs] at ns' none6
      exact last d t3.heap.objs.size t6 m H5 back qd ns' (inv3.fpOk (Nat.le_refl _) none6)
    · refine thnF (turns.item (X.blk t3 H3 scp env4 fp) rfl rfl rfl calm i [] t5 _ H5 (fun _ _ => False) inv5 (held inv5 none5) at5 goes) fun r t6 ⟨u, er, h6⟩ => ?_
      subst er
      refine thnF h6 fun _ t7 ⟨x, H7, inv7, rx, yx, at7, none7⟩ => ?_
      have pinned := inv7.pinned (held inv7 none7) (turns.obj _ _ at7)
      refine thnF (pg4.run _ t7 _ H7 x u _ pinned rx (step x H7 yx)) fun _ t8 ⟨σ8, H8, inv8, w8, q8⟩ => ?_
      refine thnF (pt4.run _ t8 σ8 H8 _ inv8 q8) fun b t9 ⟨H9, inv9, q9⟩ => ?_
      have next : ∀ {t' : Shared} {G : Hp}, Inv (X.blk t3 H3 scp env4 fp) ([] ++ pinsAt fp t7.heap) σ8 G t' → Nx G → ∃ m, m < n ∧ ∃ i G, Inv (X.blk t3 H3 scp env4 fp) [] (wipe σ (own.map (·.2))) G t' ∧ tn i t'.heap ∧ (∀ a ∈ fp, G a = none) ∧ W i m G := by
        intro t' G inv' nx
        obtain ⟨m', lt, w'⟩ := less G nx
        have still : ∀ a ∈ fp, ∀ o, t7.heap.get? a = some o → t'.heap.get? a = some o ∧ G a = none := by
          intro a ma o eo
          have z := inv'.pin (a, o) (List.mem_append_right _ (List.mem_append_right _ (mem_pinsAt ma eo)))
          exact ⟨z.1, z.2.1⟩
        have ln : (wipe σ (own.map (·.2))).length = σ8.length := (congrArg List.length w8.symm).trans (wipe_length _ _)
        refine ⟨m', lt, i + 1, G, (inv'.unpinned (pins := [])).weak ln (fun j v ej => ?_), turns.keep _ _ _ at7 fun a ma o eo => (still a ma o eo).1, fun a ma => ?_, w'⟩
        · rw [← w8] at ej
          exact (wipe_some ej).1
        · obtain ⟨o, eo, _⟩ := turns.obj _ _ at7 a ma
          exact (still a ma o eo).2
      cases b with
      | false =>
        rw [if_neg Bool.false_ne_true] at q9 ⊢
        exact next inv9 q9
      | true =>
        rw [if_pos rfl] at q9 ⊢
        refine thnF (pk4.run _ t9 σ8 H9 _ inv9 q9) fun ku t10 ⟨yk, H10, inv10, rk, q10⟩ => ?_
        refine thnF (pv4.run _ t10 σ8 H10 _ inv10 q10) fun vu t11 ⟨yv, H11, inv11, rv, H12, put, nx⟩ => ?_
        exact run_put (X := X.blk t3 H3 scp env4 fp) rm inv11 put rk rv fun t12 inv12 => next inv12 nx
  exact codeAny_compStart_dict whole (turns.self X.A 0 _ _ _ at4 whole)
theorem pe_dcT {kx vx tg it : Expr} {ifs : List Expr} {scp : Scope} {own : List (Str × Nat)} {pos : Pos} {wi : TI} {g : TG} {tt : TT} {tk tv : TE} (rm : X.A.units < cLine) (calm : X.calm = true) (nd : X.N.Nodup) (pi : PI X tg it wi) (ok : BlkOk X.N X.env.scope scp own)
    (pg : ∀ (s : Shared) (G : Hp) (c : Addr) (cl : List (Str × Addr)) (fp : List Addr), PG (X.blk s G scp (compEnvC scp cl c X.env) fp) tg g)
    (pt : ∀ (s : Shared) (G : Hp) (c : Addr) (cl : List (Str × Addr)) (fp : List Addr), PTs (X.blk s G scp (compEnvC scp cl c X.env) fp) ifs tt)
    (pk : ∀ (s : Shared) (G : Hp) (c : Addr) (cl : List (Str × Addr)) (fp : List Addr), PE (X.blk s G scp (compEnvC scp cl c X.env) fp) kx tk)
    (pv : ∀ (s : Shared) (G : Hp) (c : Addr) (cl : List (Str × Addr)) (fp : List Addr), PE (X.blk s G scp (compEnvC scp cl c X.env) fp) vx tv) (fold : ∀ x, foldedSetIterable it X.env x = pure x := by intro _; rfl) :
    PE X (.DictComp kx vx [⟨tg, it, ifs, 0⟩] scp pos) (tDcT wi g tt tk tv (own.map (·.2))) :=
  ⟨fun ps t σ H Q inv told => by
    rw [arm_eval_DictComp]
    refine core_dcT calm rm nd inv pi ok pg pt pk pv fold told fun d c t' m G inv' qd ns fpo => ⟨m, ns, fun g2 same => ?_⟩
    obtain ⟨a0, a1, _, a3, a4, a5⟩ := fpo
    exact ⟨.ref d, G, inv'.turned (t' := t'.toks) (fun a o na eo => (same.2 a na).trans eo) a0 a1 a3 a4 a5, rfl, qd⟩⟩
end
end HH
set_option maxHeartbeats 4000000
namespace HH
open PySem PySem.Spec PyProof.Rows L2 Evl RZ
def turnC : Int → List Cow → List Cow
  | _, [] => []
  | c, x :: r => (x.1, (-(x.2.1 - c), x.2.2)) :: turnC (c + x.2.2) r
theorem turnC_app : ∀ (c : Int) (a b : List Cow), turnC c (a ++ b) = turnC c a ++ turnC (c + tsumC a) b
  | c, [], b => by
    show turnC c b = turnC (c + 0) b
    rw [Int.add_zero]
  | c, x :: a, b => by
    show (x.1, (-(x.2.1 - c), x.2.2)) :: turnC (c + x.2.2) (a ++ b) = (x.1, (-(x.2.1 - c), x.2.2)) :: (turnC (c + x.2.2) a ++ turnC (c + (x.2.2 + tsumC a)) b)
    rw [turnC_app, Int.add_assoc]
theorem turnC_ids : ∀ (c : Int) (L : List Cow), (turnC c L).map (·.1) = L.map (·.1)
  | _, [] => rfl
  | c, x :: r => by
    show x.1 :: (turnC (c + x.2.2) r).map (·.1) = x.1 :: r.map (·.1)
    rw [turnC_ids]
theorem turnC_two : ∀ (c : Int) (L : List Cow), turnC c (turnC c L) = L
  | _, [] => rfl
  | c, x :: r => by
    show (x.1, (-(-(x.2.1 - c) - c), x.2.2)) :: turnC (c + x.2.2) (turnC (c + x.2.2) r) = x :: r
    rw [turnC_two, show -(-(x.2.1 - c) - c) = x.2.1 by omega]
theorem step_turn {L M : List Cow} (c : Int) (h : Step L M) : FStep (turnC c L) (turnC c M) := by
  obtain ⟨pre, post, a, b, rfl, hp, rfl⟩ := h
  rw [turnC_app, turnC_app]
  refine ⟨turnC c pre, turnC (c + tsumC pre + a.2.2 + b.2.2) post, (a.1, (-(a.2.1 - (c + tsumC pre)), a.2.2)), (b.1, (-(b.2.1 - (c + tsumC pre + a.2.2)), b.2.2)), rfl, ?_, ?_⟩
  · show -(a.2.1 - (c + tsumC pre)) > -(b.2.1 - (c + tsumC pre + a.2.2))
    omega
  · show turnC c pre ++ (b.1, (-(b.2.1 - a.2.2 - (c + tsumC pre)), b.2.2)) :: (a.1, (-(a.2.1 - (c + tsumC pre + b.2.2)), a.2.2)) :: turnC (c + tsumC pre + b.2.2 + a.2.2) post = turnC c pre ++ (b.1, (-(b.2.1 - (c + tsumC pre + a.2.2)), b.2.2)) :: (a.1, (-(a.2.1 - (c + tsumC pre)) + b.2.2, a.2.2)) :: turnC (c + tsumC pre + a.2.2 + b.2.2) post
    have e1 : -(b.2.1 - a.2.2 - (c + tsumC pre)) = -(b.2.1 - (c + tsumC pre + a.2.2)) := by omega
    have e2 : -(a.2.1 - (c + tsumC pre + b.2.2)) = -(a.2.1 - (c + tsumC pre)) + b.2.2 := by omega
    have e3 : c + tsumC pre + b.2.2 + a.2.2 = c + tsumC pre + a.2.2 + b.2.2 := by omega
    rw [e1, e2, e3]
theorem fstep_turn {L M : List Cow} (c : Int) (h : FStep L M) : Step (turnC c L) (turnC c M) := fstep_back (step_turn c (fstep_back h))
theorem fsteps_turn {L M : List Cow} (c : Int) (h : FSteps L M) : Steps (turnC c L) (turnC c M) := by
  induction h with
  | refl => exact .refl _
  | head s _ ih => exact .head (fstep_turn c s) ih
theorem ff_turn {L : List Cow} (h : Ff L) : Nf (turnC 0 L) := fun M s => h (turnC 0 M) (by
  have := step_turn 0 s
  rw [turnC_two] at this
  exact this)
def doR (rs : HH.Row) (d : Deed) : HH.Row := if d.1 then passR rs d.2 else fallR rs d.2
def okD (rs : HH.Row) (d : Deed) : Prop := if d.1 then d.2 < rs.length ∧ letsN rs d.2 = true else d.2 + 1 < rs.length ∧ fallsN rs d.2 = true
theorem okD_pass {rs : HH.Row} {p : Nat} (h : okD rs (true, p)) : ∃ (pre post : HH.Row) (a b : Int × Int), rs = pre ++ a :: b :: post ∧ p = pre.length + 1 ∧ b.1 - a.2 > a.1 ∧ passR rs p = pre ++ (b.1 - a.2, b.2) :: a :: post := by
  obtain ⟨h1, h2⟩ : p < rs.length ∧ letsN rs p = true := h
  have e : rowsOf (tag 0 rs) = rs := tag_snd 0 rs
  obtain ⟨pre, post, a, b, g1, g2, g3, g4⟩ := cow_pass (L := tag 0 rs) (p := p) (by rw [e]; exact h1) (by rw [e]; exact h2)
  rw [e] at g4
  refine ⟨rowsOf pre, rowsOf post, a.2, b.2, ?_, by rw [cow_len]; exact g2, g3, ?_⟩
  · rw [← rows_mid, ← g1, e]
  · rw [g4, rows_mid]
theorem okD_fall {rs : HH.Row} {p : Nat} (h : okD rs (false, p)) : ∃ (pre post : HH.Row) (a b : Int × Int), rs = pre ++ a :: b :: post ∧ p = pre.length ∧ a.1 > b.1 ∧ fallR rs p = pre ++ b :: (a.1 + b.2, a.2) :: post := by
  obtain ⟨h1, h2⟩ : p + 1 < rs.length ∧ fallsN rs p = true := h
  have e : rowsOf (tag 0 rs) = rs := tag_snd 0 rs
  obtain ⟨pre, post, a, b, g1, g2, g3, g4⟩ := cow_fall (L := tag 0 rs) (p := p) (by rw [e]; exact h1) (by rw [e]; exact h2)
  rw [e] at g4
  refine ⟨rowsOf pre, rowsOf post, a.2, b.2, ?_, by rw [cow_len]; exact g2, g3, ?_⟩
  · rw [← rows_mid, ← g1, e]
  · rw [g4, rows_mid]
theorem MRun.rows {L0 L : List Cow} {ds : List Deed} (r : MRun L0 L ds) : rowsOf L = ds.foldl doR (rowsOf L0) ∧ ∀ k d, ds[k]? = some d → okD ((ds.take k).foldl doR (rowsOf L0)) d := by
  induction r with
  | nil => exact ⟨rfl, fun k d h => by cases h⟩
  | pass r hp ih =>
    rename_i pre post a b ds
    obtain ⟨i1, i2⟩ := ih
    have el : pre.length = (rowsOf pre).length := (cow_len pre).symm
    refine ⟨?_, fun k d hk => ?_⟩
    · rw [List.foldl_append, ← i1]
      show _ = passR (rowsOf (pre ++ a :: b :: post)) (pre.length + 1)
      rw [rows_mid, rows_mid, el, pass_split]
    · by_cases hlt : k < ds.length
      · rw [List.getElem?_append_left hlt] at hk
        rw [List.take_append_of_le_length (by omega)]
        exact i2 k d hk
      · rw [List.getElem?_append_right (by omega)] at hk
        have e0 : k = ds.length := by
          have := (List.getElem?_eq_some_iff.mp hk).1
          simp at this
          omega
        subst e0
        rw [Nat.sub_self] at hk
        cases hk
        rw [List.take_left, ← i1]
        refine ⟨by rw [cow_len, List.length_append, List.length_cons, List.length_cons]; omega, ?_⟩
        show letsN (rowsOf (pre ++ a :: b :: post)) (pre.length + 1) = true
        rw [rows_mid, el, lets_split]
        exact decide_eq_true hp
  | fall r hp ih =>
    rename_i pre post a b ds
    obtain ⟨i1, i2⟩ := ih
    have el : pre.length = (rowsOf pre).length := (cow_len pre).symm
    refine ⟨?_, fun k d hk => ?_⟩
    · rw [List.foldl_append, ← i1]
      show _ = fallR (rowsOf (pre ++ a :: b :: post)) pre.length
      rw [rows_mid, rows_mid, el, fall_split]
    · by_cases hlt : k < ds.length
      · rw [List.getElem?_append_left hlt] at hk
        rw [List.take_append_of_le_length (by omega)]
        exact i2 k d hk
      · rw [List.getElem?_append_right (by omega)] at hk
        have e0 : k = ds.length := by
          have := (List.getElem?_eq_some_iff.mp hk).1
          simp at this
          omega
        subst e0
        rw [Nat.sub_self] at hk
        cases hk
        rw [List.take_left, ← i1]
        refine ⟨by rw [cow_len, List.length_append, List.length_cons, List.length_cons]; omega, ?_⟩
        show fallsN (rowsOf (pre ++ a :: b :: post)) pre.length = true
        rw [rows_mid, el, falls_split]
        exact decide_eq_true hp
theorem doR_ok {rs : HH.Row} {d : Deed} (h : okD rs d) (ht : ∀ b ∈ rs, 0 ≤ b.2) : (doR rs d).length = rs.length ∧ ∀ b ∈ doR rs d, 0 ≤ b.2 := by
  obtain ⟨w, p⟩ := d
  cases w with
  | true =>
    obtain ⟨pre, post, a, b, rfl, rfl, _, e⟩ := okD_pass h
    show (passR _ _).length = _ ∧ ∀ b ∈ passR _ _, 0 ≤ b.2
    rw [e]
    refine ⟨by simp, fun x hx => ?_⟩
    simp only [List.mem_append, List.mem_cons] at hx
    rcases hx with hx | rfl | rfl | hx
    · exact ht x (by simp [hx])
    · exact ht b (by simp)
    · exact ht _ (by simp)
    · exact ht x (by simp [hx])
  | false =>
    obtain ⟨pre, post, a, b, rfl, rfl, _, e⟩ := okD_fall h
    show (fallR _ _).length = _ ∧ ∀ b ∈ fallR _ _, 0 ≤ b.2
    rw [e]
    refine ⟨by simp, fun x hx => ?_⟩
    simp only [List.mem_append, List.mem_cons] at hx
    rcases hx with hx | rfl | rfl | hx
    · exact ht x (by simp [hx])
    · exact ht _ (by simp)
    · exact ht a (by simp)
    · exact ht x (by simp [hx])
end HH
set_option maxHeartbeats 4000000
namespace HH
open PySem PySem.Spec PyProof.Rows L2 Evl RZ
theorem word_pass : decide (V.str (wordOf true) = V.str "pass") = true := decide_eq_true rfl
theorem word_ne : V.str (wordOf false) ≠ V.str (wordOf true) := fun z => by
  injection z with z
  revert z
  decide +kernel
theorem word_no : decide (V.str (wordOf false) = V.str "pass") = false := decide_eq_false word_ne
theorem word_fall : decide (V.str (wordOf false) = V.str "fall") = true := decide_eq_true rfl
section
variable {K : PySem.W.Frag} {σ : L2.St} {H H' : Hp} {ta tb tc te tl : TE} {x y v : V} {Q : VK} {D : Ends} {tz tu : TS} {g : TG}
def EvTp (K : PySem.W.Frag) (te : TE) (σ : L2.St) (H : Hp) (xs : List V) : Prop := ∀ H1, Ex H H1 → ∀ Q : VK, (∀ t H2, Ex H1 H2 → SqT K H2 t xs → Q (.ref t) H2) → te σ H1 Q
theorem ep_val {a : Addr} {xs : List V} (h : Ev te σ H (.ref a)) (hs : SqT K H a xs) : EvTp K te σ H xs := fun H1 e Q q => h H1 e Q fun H2 e2 => q a H2 e2 (ex_t (e.trans e2) hs)
theorem ep_to {xs : List V} {ti : TE} {j : Nat} {i : Int} (h : EvTp K te σ H xs) (hi : Ev ti σ H (.int i)) (hj : i = (j : Int)) : EvTp K (tSl (rSlA K) te tNoPart (tPart ti)) σ H (xs.take j) := fun H1 e Q q =>
  h H1 e _ fun a H2 e2 hv => hi H2 (e.trans e2) _ fun H3 e3 => by
    subst hj
    refine ⟨(j : Int), rfl, a, xs, rfl, ex_t e3 hv, fun z => ?_, fun _ p hp => ?_⟩
    · have e0 := cut_all z
      rw [cut_to] at e0
      rw [e0] at q
      exact q _ H3 (e2.trans e3) (ex_t e3 hv)
    · rw [cut_to]
      exact q _ _ ((e2.trans e3).trans (Ex.new hp)) (st_of upd_same)
theorem ep_from {xs : List V} {ti : TE} {j : Nat} {i : Int} (h : EvTp K te σ H xs) (hi : Ev ti σ H (.int i)) (hj : i = (j : Int)) : EvTp K (tSl (rSlA K) te (tPart ti) tNoPart) σ H (xs.drop j) := fun H1 e Q q =>
  h H1 e _ fun a H2 e2 hv => hi H2 (e.trans e2) _ fun H3 e3 => by
    subst hj
    refine ⟨(j : Int), rfl, a, xs, rfl, ex_t e3 hv, fun z => ?_, fun _ p hp => ?_⟩
    · have e0 := cut_all z
      rw [cut_from] at e0
      rw [e0] at q
      exact q _ H3 (e2.trans e3) (ex_t e3 hv)
    · rw [cut_from]
      exact q _ _ ((e2.trans e3).trans (Ex.new hp)) (st_of upd_same)
theorem q_forEv {xs : List V} {c : Addr} (h : Ev tl σ H (.ref c)) (hx : SqL K H c xs) (Pv : Nat → L2.St → Hp → Prop) (h0 : ∀ H1, Ex H H1 → Pv 0 σ H1) (hl : ∀ i σ' H', i ≤ xs.length → Pv i σ' H' → SqL K H' c xs)
    (hs : ∀ i x σ' H' T, xs[i]? = some x → Pv i σ' H' → H' T = none → g (.ref T) σ' (upd H' T (.tup [.int (i : Nat), x])) fun σ2 H2 => tu { D with nx := Pv (i + 1), ct := Pv (i + 1), bk := tz D } σ2 H2) (hd : ∀ σ' H', Pv xs.length σ' H' → tz D σ' H') : tSeq (tFor (iEnum K (tCons tl tNil)) g tu) tz D σ H :=
  h H (Ex.refl H) _ fun H1 e => ⟨c, xs, rfl, ex_l e hx, for_it (walk_enum (xs := xs)) (D := { D with nx := tz D }) Pv (h0 H1 e) hl (fun i x σ' H' H2 hi p y => by
    obtain ⟨T, u, z, rfl, nT, rfl, hu, hz⟩ := y
    cases hu
    exact hs i z σ' H' T hz p nT) hd⟩
end
theorem DeedAt.ex' {K : PySem.W.Frag} {H H' : Hp} {v : V} {d : Deed} (h : DeedAt K H v d) (e : Ex H H') : DeedAt K H' v d := by
  obtain ⟨p, h1, h2⟩ := h
  exact ⟨p, h1, ex_t e h2⟩
def spPassedP (K : PySem.W.Frag) : Sp := spRowOp K (fun rs p => okD rs (true, p)) passR
def spFallenP (K : PySem.W.Frag) : Sp := spRowOp K (fun rs p => okD rs (false, p)) fallR
def spCanDo (K : PySem.W.Frag) : Sp := fun vs H Q _ => ∃ (v : V) (rs : HH.Row) (d : Deed), vs = [v, .str (wordOf d.1), .int (d.2 : Int)] ∧ RowAt K H v rs ∧ okD rs d ∧ RetV (.bl true) H Q
theorem okD_at {rs : HH.Row} {p : Nat} (h : okD rs (true, p)) : 0 < p ∧ p < rs.length ∧ letsN rs p = true := by
  obtain ⟨h1, h2⟩ : p < rs.length ∧ letsN rs p = true := h
  exact ⟨of_decide_eq_true (Bool.and_eq_true_iff.mp h2).1, h1, h2⟩
theorem okD_at2 {rs : HH.Row} {p : Nat} (h : okD rs (false, p)) : p + 1 < rs.length ∧ (decide (p + 1 < rs.length) && fallsN rs p) = true := by
  obtain ⟨h1, h2⟩ : p + 1 < rs.length ∧ fallsN rs p = true := h
  exact ⟨h1, by rw [h2, decide_eq_true h1]; rfl⟩
section
variable {K : PySem.W.Frag} {σ : L2.St} {H H' : Hp} {ta tb tc te tl : TE} {v : V} {D : Ends}
end
section
variable {K : PySem.W.Frag} {σ : L2.St} {H H' : Hp} {ta tb tc te tl : TE} {v : V} {D : Ends}
end
end HH
set_option maxHeartbeats 4000000
namespace HH
open PySem PySem.Spec PyProof.Rows L2 Evl RZ
end HH
set_option maxHeartbeats 4000000
namespace HH
open PySem PySem.Spec PyProof.Rows L2 Evl RZ
def PairT (H : Hp) (v : V) (b : Int × Int) : Prop := ∃ p, v = .ref p ∧ H p = some (.tup [.int b.1, .int b.2])
abbrev BeastsT (H : Hp) : List V → HH.Row → Prop := All2 (PairT H)
theorem PairT.ex {H H' : Hp} {v : V} {b : Int × Int} (h : PairT H v b) (e : Ex H H') : PairT H' v b := by
  obtain ⟨p, rfl, hp⟩ := h
  exact ⟨p, rfl, e _ _ hp⟩
theorem PairT.exB {H H' : Hp} {v : V} {b : Int × Int} {q : Addr} {ys : List V} (h : PairT H v b) (e : ExB q H H') (hq : H q = some (.lst ys)) : PairT H' v b := by
  obtain ⟨p, rfl, hp⟩ := h
  exact ⟨p, rfl, e _ _ (ne_of hp hq fun z => nomatch z) hp⟩
theorem BeastsT.ex' {H H' : Hp} {us : List V} {ps : HH.Row} (h : BeastsT H us ps) (e : Ex H H') : BeastsT H' us ps := All2.mono (fun _ _ r => r.ex e) h
theorem BeastsT.exB' {H H' : Hp} {us : List V} {ps : HH.Row} {q : Addr} {ys : List V} (h : BeastsT H us ps) (e : ExB q H H') (hq : H q = some (.lst ys)) : BeastsT H' us ps := All2.mono (fun _ _ r => r.exB e hq) h
theorem BeastsT.be {K : PySem.W.Frag} {H : Hp} : ∀ {us : List V} {ps : HH.Row}, BeastsT H us ps → Beasts K H us ps
  | _, _, .nil => Beasts.nil
  | _, _, .cons a b => by
    obtain ⟨p, rfl, hp⟩ := a
    exact Beasts.app (vs := [_]) (rs := [_]) (Beasts.one ⟨p, rfl, st_of hp⟩) (BeastsT.be b)
theorem BeastsT.at' {H : Hp} {us : List V} {ps : HH.Row} (h : BeastsT H us ps) {k : Nat} {x : V} (hx : us[k]? = some x) : ∃ b, ps[k]? = some b ∧ PairT H x b := h.get hx
def keyP (b : Int × Int) : List Key := [.inl b.1, .inl b.2]
theorem keyP_inj {a b : Int × Int} : keyP a = keyP b ↔ a = b := by
  unfold keyP
  constructor
  · intro h
    simp only [List.cons.injEq, Sum.inl.injEq, and_true] at h
    exact Prod.ext h.1 h.2
  · rintro rfl
    rfl
theorem keyP_V (b : Int × Int) : (keyP b).map kV = [V.int b.1, .int b.2] := rfl
structure PairsD (kvs : List (List Key × V)) (ps : HH.Row) : Prop where
  has : ∀ b : Int × Int, (valV kvs (keyP b)).isSome = decide (b ∈ ps)
  few : kvs.length ≤ ps.length
theorem PairsD.nil : PairsD [] [] := ⟨fun b => by rw [valV_nil]; simp, Nat.le_refl _⟩
theorem PairsD.put {kvs : List (List Key × V)} {ps : HH.Row} (h : PairsD kvs ps) (b : Int × Int) (v : V) : PairsD (putK kvs (keyP b) v) (ps ++ [b]) := by
  refine ⟨fun c => ?_, ?_⟩
  · rw [valV_put]
    by_cases e : keyP c = keyP b
    · rw [if_pos e]
      have := keyP_inj.mp e
      subst this
      simp
    · rw [if_neg e, h.has c]
      have ne : c ≠ b := fun z => e (by rw [z])
      rw [decide_eq_decide, List.mem_append, List.mem_singleton]
      exact ⟨.inl, fun z => z.elim id fun z => absurd z ne⟩
  · have := length_putK kvs (keyP b) v
    rw [List.length_append]
    show _ ≤ ps.length + 1
    have := h.few
    omega
section
variable {K : PySem.W.Frag} {σ : L2.St} {H : Hp} {ta tb te : TE} {Q : VK}
def EvPT (te : TE) (σ : L2.St) (H : Hp) (ps : HH.Row) : Prop := ∀ H1, Ex H H1 → ∀ Q : VK, (∀ (q : Addr) (us : List V) (H2 : Hp), H1 q = none → Ex H1 H2 → H2 q = some (.lst us) → BeastsT H2 us ps → Q (.ref q) H2) → te σ H1 Q
theorem EvPT.ep {ps : HH.Row} (h : EvPT te σ H ps) : EvP K te σ H ps := fun H1 e1 Q q => h H1 e1 Q fun a us H2 ha e2 g2 bs => q a us H2 ha e2 g2 bs.be
theorem ed_pairs {j : Nat} {vs : List Nat} {ps : HH.Row} (h : ∀ R : V → Hp → Prop, (∀ (a : Addr) (us : List V) (H1 : Hp), Ex H H1 → SqL K H1 a us → (∀ H2, Ex H1 H2 → SqL K H2 a us) → BeastsT H1 us ps → R (.ref a) H1) → te σ H R) (hl : ps.length ≤ 2000)
    (hw : ∀ x, wipe ((wipe σ vs).set j (some x)) vs = wipe σ vs) (hj : ∀ x : V, ((wipe σ vs).set j (some x))[j]? = some (some x))
    (k : ∀ (d : Addr) (kvs : List (List Key × V)) (H' : Hp), H d = none → Ex H H' → H' d = some (.dT kvs) → PairsD kvs ps → Q (.ref d) H') :
    tDcT (iList K te) (gName j) tYes (tVar j) (tC (.bl true)) vs σ H Q := by
  refine h _ fun a us H1 e1 sa sx bs => ⟨a, rfl, ⟨us, sa⟩, fun d hd => ?_⟩
  have ul : us.length = ps.length := bs.len
  refine in_it (walk_list (xs := us)) (fun i H2 => Ex H1 H2 ∧ ∃ kvs, H2 d = some (.dT kvs) ∧ PairsD kvs (ps.take i)) ⟨Ex.new hd, [], upd_same, PairsD.nil⟩ (fun i H2 _ p => sx H2 p.1) (fun i x H2 H3 hi p y => ?_) (fun H2 p => ?_)
  · obtain ⟨rfl, hx⟩ := y
    obtain ⟨p1, kvs, p2, p3⟩ := p
    obtain ⟨b, hb, q, rfl, hq⟩ := bs.at' hx
    refine ⟨hw _, t_yes ⟨_, hj _, ?_⟩⟩
    have hq2 := p1 _ _ hq
    refine ⟨_, DPut.t (k := keyP b) p2 (by rw [keyP_V]; exact hq2) (sz_lt (by have := p3.few; rw [List.length_take] at this; omega)), Ex.mut p1 hd, _, upd_same, ?_⟩
    rw [List.take_add_one, hb]
    exact p3.put b (.bl true)
  · obtain ⟨p1, kvs, p2, p3⟩ := p
    rw [ul, List.take_length] at p3
    exact k d kvs H2 (fresh_back e1 hd) (e1.trans p1) p2 p3
theorem et_dnotin {d : Addr} {kvs : List (List Key × V)} {ps : HH.Row} {b : Int × Int} (h1 : ∀ H1, Ex H H1 → ∀ Q : VK, (∀ p H2, Ex H1 H2 → H2 p = some (.tup [.int b.1, .int b.2]) → Q (.ref p) H2) → ta σ H1 Q) (h2 : Ev tb σ H (.ref d)) (hd : H d = some (.dT kvs)) (pd : PairsD kvs ps) : EvT (tB (tDNotIn ta tb)) σ H (!decide (b ∈ ps)) := fun H1 e1 Q q => by
  refine h1 H1 e1 _ fun p H2 e2 hp => h2 H2 (e1.trans e2) _ fun H3 e3 => ⟨d, valV kvs (keyP b), rfl, DGet.t ((e1.trans (e2.trans e3)) _ _ hd) (by rw [keyP_V]; exact e3 _ _ hp), _, rfl, ?_⟩
  rw [pd.has]
  exact q H3 (e2.trans e3)
theorem key_new {a b : Int} (h1 : Ev ta σ H (.int a)) (h2 : Ev tb σ H (.int b)) : ∀ H1, Ex H H1 → ∀ Q : VK, (∀ p H2, Ex H1 H2 → H2 p = some (.tup [.int a, .int b]) → Q (.ref p) H2) → tTup (tCons ta (tCons tb tNil)) σ H1 Q := fun H1 e1 Q q =>
  h1 H1 e1 _ fun H2 e2 => h2 H2 (e1.trans e2) _ fun H3 e3 => ⟨by show 2 ≤ sizeLine; decide, fun T hT => q T _ ((e2.trans e3).trans (Ex.new hT)) upd_same⟩
end
def spTurnedT (K : PySem.W.Frag) : Sp := fun vs H Q _ => ∃ (o : Addr) (l : List Nat), vs = [.ref o] ∧ SqT K H o (natsV l) ∧ l.Nodup ∧ (∀ x, x < l.length → x ∈ l) ∧ l.length ≤ 30 ∧
  ∀ (q : Addr) (us : List V) (H' : Hp), H q = none → Ex H H' → H' q = some (.lst us) → BeastsT H' us (tab l l.length l.length) → Q (.ref q) H'
def spPairsT (K : PySem.W.Frag) (M : List Cow → List Cow → Prop) : Sp := fun vs H Q _ => ∃ (v : V) (rs : HH.Row), vs = [v] ∧ RowAt K H v rs ∧ rs.length ≤ 30 ∧ (∀ b ∈ rs, 0 ≤ b.2) ∧
  ∀ (q : Addr) (us : List V) (L : List Cow) (H' : Hp), M (tag 0 rs) L → H q = none → Ex H H' → H' q = some (.lst us) → BeastsT H' us (tab (L.map (·.1)) rs.length rs.length) → Q (.ref q) H'
theorem Has.weak {P : Program} {w : World} {K : PySem.W.Frag} {mg : Str → Option Value} {base : Heap} {k : Nat} {x : Str} {ps : List Str} {sp sp' : Sp} {f : Addr} {fd : FuncData} (h : Has P w K mg base k x ps sp f fd) (i : ∀ vs H Q E, sp' vs H Q E → sp vs H Q E) : Has P w K mg base k x ps sp' f fd := ⟨h.G.imp i, h.g, h.kp, h.b⟩
section
variable {K : PySem.W.Frag} {σ : L2.St} {H : Hp} {ta : TE} {v : V} {E : XK}
theorem ept_pass {rs : HH.Row} {L : List Cow} (h : Ev ta σ H v) (hv : RowAt K H v rs) (hl : rs.length ≤ 30) (ht : ∀ b ∈ rs, 0 ≤ b.2) (st : Steps (tag 0 rs) L) (nf : Nf L) : EvPT (tCall (spPairsT K toLast) [] E (tCons ta tNil)) σ H (tab (L.map (·.1)) rs.length rs.length) := fun H1 e1 Q q =>
  h H1 e1 _ fun H2 e2 => ⟨v, rs, rfl, hv.ex (e1.trans e2), hl, ht, fun a us L2 H3 m ha e3 g bs => by
    have := nf_any (good_tag ht).tl m.1 (nfr_nf m.2) st nf
    subst this
    exact q a us H3 (fresh_back e2 ha) (e2.trans e3) g bs⟩
theorem ept_fall {rs : HH.Row} {L : List Cow} (h : Ev ta σ H v) (hv : RowAt K H v rs) (hl : rs.length ≤ 30) (ht : ∀ b ∈ rs, 0 ≤ b.2) (st : FSteps (tag 0 rs) L) (nf : Ff L) : EvPT (tCall (spPairsT K toFirst) [] E (tCons ta tNil)) σ H (tab (L.map (·.1)) rs.length rs.length) := fun H1 e1 Q q =>
  h H1 e1 _ fun H2 e2 => ⟨v, rs, rfl, hv.ex (e1.trans e2), hl, ht, fun a us L2 H3 m ha e3 g bs => by
    have := ff_any (good_tag ht).tl m.1 (ffr_ff m.2) st nf
    subst this
    exact q a us H3 (fresh_back e2 ha) (e2.trans e3) g bs⟩
end
theorem q_run {te : TE} {i : Nat} {tz : TS} {D : Ends} {σ : L2.St} {H : Hp} (h : te σ H fun x H1 => tz D (σ.set i (some x)) H1) : tSeq (tAsg te (gName i)) tz D σ H := h
theorem tab_small (l : List Nat) {n : Nat} (h : n ≤ 30) : (tab l n n).length ≤ 900 := by
  have h1 := tab_len l n n
  have h3 := Nat.mul_le_mul h h
  omega
end HH
set_option maxHeartbeats 4000000
namespace HH
open PySem PySem.Spec PyProof.Rows L2 Evl RZ
def tabPR (p : Nat → Nat → Bool) (i m : Nat) : HH.Row := ((List.range m).filter (p i)).map fun k => ((i : Int), ((i + 1 + k : Nat) : Int))
def tabP (p : Nat → Nat → Bool) (n m : Nat) : HH.Row := (List.range m).flatMap fun i => tabPR p i (n - (i + 1))
theorem tabPR_succ (p : Nat → Nat → Bool) (i m : Nat) : tabPR p i (m + 1) = tabPR p i m ++ (if p i m = true then [((i : Int), ((i + 1 + m : Nat) : Int))] else []) := by
  unfold tabPR
  rw [List.range_succ, List.filter_append, List.map_append]
  by_cases h : p i m = true
  · rw [if_pos h, List.filter_cons_of_pos h]
    rfl
  · rw [if_neg h, List.filter_cons_of_neg h]
    rfl
theorem tabP_succ (p : Nat → Nat → Bool) (n m : Nat) : tabP p n (m + 1) = tabP p n m ++ tabPR p m (n - (m + 1)) := by
  unfold tabP
  rw [List.range_succ, List.flatMap_append]
  simp
theorem tabPR_len (p : Nat → Nat → Bool) (i m : Nat) : (tabPR p i m).length ≤ m := by
  unfold tabPR
  rw [List.length_map]
  have := List.length_filter_le (p i) (List.range m)
  rw [List.length_range] at this
  exact this
theorem tabP_len (p : Nat → Nat → Bool) (n : Nat) : ∀ m, (tabP p n m).length ≤ m * n
  | 0 => by simp [tabP]
  | m + 1 => by
    rw [tabP_succ, List.length_append, Nat.succ_mul]
    have h1 := tabP_len p n m
    have h2 := tabPR_len p m (n - (m + 1))
    omega
theorem mem_tabP {p : Nat → Nat → Bool} {n : Nat} {x : Int × Int} : x ∈ tabP p n n ↔ ∃ i j : Nat, i < j ∧ j < n ∧ x = ((i : Int), (j : Int)) ∧ p i (j - i - 1) = true := by
  unfold tabP
  rw [List.mem_flatMap]
  constructor
  · rintro ⟨i, hi, h⟩
    obtain ⟨k, hk, rfl⟩ := List.mem_map.mp h
    obtain ⟨h1, h2⟩ := List.mem_filter.mp hk
    have h1 := List.mem_range.mp h1
    refine ⟨i, i + 1 + k, by omega, by omega, rfl, ?_⟩
    rw [show i + 1 + k - i - 1 = k by omega]
    exact h2
  · rintro ⟨i, j, h1, h2, rfl, h3⟩
    refine ⟨i, List.mem_range.mpr (by omega), List.mem_map.mpr ⟨j - i - 1, List.mem_filter.mpr ⟨List.mem_range.mpr (by omega), h3⟩, ?_⟩⟩
    rw [show i + 1 + (j - i - 1) = j by omega]
def keepP (e b : List Nat) (i k : Nat) : Bool := !inP e i k && !inP b i k
theorem keep_iff {e b : List Nat} {i j : Nat} (h : i < j) : keepP e b i (j - i - 1) = true ↔ bef e j i = false ∧ bef b j i = false := by
  unfold keepP inP
  rw [show i + 1 + (j - i - 1) = j by omega]
  simp
theorem mid_keeps {B L E : List Cow} (t : ∀ x ∈ B, 0 ≤ x.2.2) (nd : (B.map (·.1)).Nodup) (s1 : Steps B L) (s2 : Steps L E) {a b : Nat} (hB : bef (B.map (·.1)) a b = true) (hE : bef (E.map (·.1)) a b = true) : bef (L.map (·.1)) a b = true := by
  obtain ⟨L0, t1, e1⟩ := s1.unmap (rl_tag B).symm
  obtain ⟨E0, t2, e2⟩ := s2.unmap e1
  have g0 : Good (tag 0 (rowsOf B)) := good_tag (tolls_rows t)
  have g1 := g0.steps t1
  obtain ⟨p, q, hpq, hp, hq⟩ := bef_get hB
  have ep : ixN (B.map (·.1)) p = a := by
    unfold ixN
    rw [hp]
    rfl
  have eq : ixN (B.map (·.1)) q = b := by
    unfold ixN
    rw [hq]
    rfl
  have hp' := (List.getElem?_eq_some_iff.mp hp).1
  have hq' := (List.getElem?_eq_some_iff.mp hq).1
  have len : (rowsOf B).length = (B.map (·.1)).length := by rw [cow_len, List.length_map]
  have iL := t1.idsT
  have iE := (t1.trans t2).idsT
  have inj : ∀ (l : List Nat), l.Perm (List.range (rowsOf B).length) → ∀ r, r < (B.map (·.1)).length → ∀ x ∈ l, ixN (B.map (·.1)) x = ixN (B.map (·.1)) r → x = r := fun l pm r hr x hx h => by
    have := List.mem_range.mp (pm.mem_iff.mp hx)
    exact ixN_inj nd (by rw [← len]; exact this) hr h
  have nE : (E.map (·.1)).Nodup := (s1.trans s2).ids.nodup_iff.mpr nd
  cases hc : bef (L.map (·.1)) a b with
  | true => rfl
  | false =>
    have ne : a ≠ b := fun z => by
      rw [z] at hp
      have := nd_at nd hp hq
      omega
    have ma := s1.ids.mem_iff.mpr (bef_mem hB).1
    have mb := s1.ids.mem_iff.mpr (bef_mem hB).2
    have h1 := bef_tot ma mb ne hc
    rw [e1, rl_ids, ← ep, ← eq] at h1
    have h2 := (bef_map (inj _ iL q hq') (inj _ iL p hp')).mp h1
    have h3 := bef_stays g1 t2 hpq h2
    have h4 := (bef_map (f := ixN (B.map (·.1))) (inj _ iE q hq') (inj _ iE p hp')).mpr h3
    rw [ep, eq, ← rl_ids, ← e2] at h4
    rw [bef_asym nE hE] at h4
    cases h4
def spKept (K : PySem.W.Frag) : Sp := fun vs H Q _ => ∃ (v : V) (rs : HH.Row), vs = [v] ∧ RowAt K H v rs ∧ rs.length ≤ 30 ∧ (∀ b ∈ rs, 0 ≤ b.2) ∧
  ∀ (q : Addr) (us : List V) (E B : List Cow) (H' : Hp), Steps (tag 0 rs) E → Nf E → FSteps (tag 0 rs) B → Ff B → H q = none → Ex H H' → H' q = some (.lst us) → BeastsT H' us (tabP (keepP (E.map (·.1)) (B.map (·.1))) rs.length rs.length) → Q (.ref q) H'
end HH
set_option maxHeartbeats 4000000
namespace HH
open PySem PySem.Spec PyProof.Rows L2 Evl RZ
abbrev PrT := Hp → V → Int × Int → Prop
structure Stb (R : PrT) : Prop where
  ex : ∀ {H H' : Hp} {x : V} {b : Int × Int}, Ex H H' → R H x b → R H' x b
  ls : ∀ {H : Hp} {D : Addr} {xs ys : List V} {x : V} {b : Int × Int}, H D = some (.lst xs) → R H x b → R (upd H D (.lst ys)) x b
theorem Stb.all {R : PrT} (s : Stb R) {H H' : Hp} (e : Ex H H') {us : List V} {ps : HH.Row} (h : All2 (R H) us ps) : All2 (R H') us ps := All2.mono (fun _ _ r => s.ex e r) h
section
variable {K : PySem.W.Frag} {σ : L2.St} {H : Hp} {ta tb te : TE} {t : TT} {R : PrT}
end
theorem law_all {K : PySem.W.Frag} {σ : L2.St} {H : Hp} {l : Addr} {ms : List Int} {j il c : Nat} {vs : List Nat} {E1 E2 : XK} {D : Ends} (h1 : H l = some (.lst (ms.map V.int))) (hm : ms.length ≤ 10) (hw : ∀ x, wipe ((wipe σ vs).set j (some x)) vs = wipe σ vs) (cl : ∀ x : V, ((wipe σ vs).set j (some x))[il]? = some (some (.ref l))) (cj : ∀ x : V, ((wipe σ vs).set j (some x))[j]? = some (some x)) (sl : σ[il]? = some (some (.ref l))) (q : ∀ H', D.rt (.bl true) H') :
    tRet (tCB (rAll K) (tCons (tLc (iRng1 (tCons (tOp (rI0 fun i j => .int (i + j)) (tC (.int 1)) (tCB (rLenS K) (tCons (tVar il) tNil))) tNil)) (gName j) tYes (tCall spRight [] E1 (tCons (tCall (spDip K) [] E2 (tCons (tVar il) (tCons (tVar j) tNil))) tNil)) vs) tNil)) D σ H := by
  refine s_ret (D := D) (ev_allT (n := (1 + ((ms.map V.int).length : Int)).toNat) ?_) fun H2 e2 => q H2
  have hn : 0 ≤ 1 + ((ms.map V.int).length : Int) ∧ 1 + ((ms.map V.int).length : Int) ≤ 20 := by
    rw [List.length_map]
    omega
  have key := el_lcR1 (σ := σ) (H := H) (ta := tCons (tOp (rI0 fun i j => .int (i + j)) (tC (.int 1)) (tCB (rLenS K) (tCons (tVar il) tNil))) tNil) (j := j) (vs := vs) (t := tYes) (te := tCall spRight [] E1 (tCons (tCall (spDip K) [] E2 (tCons (tVar il) (tCons (tVar j) tNil))) tNil)) (fun _ => true) (fun _ => .bl true) (ea_cons (ev_op ev_c (ev_len (ev_var sl) (sq_of h1)) rv_I0) ea_nil) ⟨hn.1, by omega⟩ hw (fun i H1 e1 hi => et_yes) (fun i H3 e3 hi _ => ?_)
  · have e0 : given (1 + ((ms.map V.int).length : Int)).toNat (fun _ => true) (fun _ => V.bl true) = (List.replicate (1 + ((ms.map V.int).length : Int)).toNat true).map V.bl := by
      rw [given_all _ (fun _ => true)]
      congr 1
      rw [List.eq_replicate_iff]
      refine ⟨by rw [List.length_map, List.length_range], fun b hb => ?_⟩
      obtain ⟨_, _, rfl⟩ := List.mem_map.mp hb
      rfl
    rw [e0] at key
    exact key
  · intro H4 e4 Q4 q4
    refine ⟨.ref l, cl _, .int (i : Int), cj _, l, i, ms, rfl, sq_of ((e3.trans e4) _ _ h1), by omega, fun b H5 hb e5 hx => ?_⟩
    refine ⟨b, rfl, hx, fun H6 x6 => q4 H6 fun c o hc => x6 c o (ne_of_none hc hb) (e5 c o hc)⟩
end HH
set_option maxHeartbeats 4000000
namespace HH
open PySem PySem.Spec PyProof.Rows L2 Evl
def ZipA (H : Hp) (us : List V) (ps : List (V × V)) : Prop := All2 (fun u p => ∃ T, u = .ref T ∧ H T = some (.tup [p.1, p.2])) us ps
theorem ZipA.ex {H H' : Hp} {us : List V} {ps : List (V × V)} (h : ZipA H us ps) (e : Ex H H') : ZipA H' us ps := All2.mono (fun _ _ ⟨T, a, b⟩ => ⟨T, a, e _ _ b⟩) h
theorem ZipA.put {H : Hp} {q : Addr} {xs ys : List V} {us : List V} {ps : List (V × V)} (h : ZipA H us ps) (hq : H q = some (.lst xs)) : ZipA (upd H q (.lst ys)) us ps := All2.mono (fun _ _ ⟨T, a, b⟩ => ⟨T, a, by
  rw [upd_ne (fun z => by rw [z, hq] at b; cases b)]
  exact b⟩) h
def ZS (h : Heap) (H : Hp) (z TI TO i1 i2 a b : Addr) (i : Nat) : Prop := IsPair h TI (.ref i1) (.ref i2) ∧ h.IsListIter i1 a i ∧ h.IsListIter i2 b i ∧
  ((IsZip h z TI TO .none ∧ ∃ x y, IsPair h TO x y) ∨ ∃ (T : Addr) (f : Bool) (p q : V), IsZipHeld h z TI TO T f ∧ H T = some (.tup [p, q]) ∧ ∃ o, h.get? TO = some o)
section
variable {X : Cx} {pins : List (Addr × Obj)} {σ : L2.St} {H H0 : Hp} {s : Shared} {z TI TO i1 i2 a b q : Addr} {xs ys : List V} {A A1 : Around} {E : Value → Shared → Prop}
abbrev FpL (X : Cx) (pins : List (Addr × Obj)) (H : Hp) (l : List Addr) : Prop := ∀ c ∈ l, FpOk X pins H c
theorem FpL.up {l : List Addr} {T : Addr} {o : HO} (h : FpL X pins H l) (ne : ∀ c ∈ l, c ≠ T) : FpL X pins (upd H T o) l := fun c hc => by
  obtain ⟨f0, f1⟩ := h c hc
  exact ⟨by rw [upd_ne (ne c hc)]; exact f0, f1⟩
theorem ZS.type {i : Nat} (h : ZS s.heap H z TI TO i1 i2 a b i) : s.TypeIs (.ref z) "zip" := by
  obtain ⟨_, _, _, h | h⟩ := h
  · exact ⟨_, h.1, rfl⟩
  · obtain ⟨_, _, _, _, h, _⟩ := h
    exact ⟨_, h, rfl⟩
theorem ZS.keep {h h' : Heap} {H' : Hp} {i : Nat} (st : ZS h H z TI TO i1 i2 a b i) (k : ∀ c ∈ [z, TI, TO, i1, i2], ∀ o, h.get? c = some o → h'.get? c = some o) (kH : ∀ T p q, H T = some (.tup [p, q]) → H' T = some (.tup [p, q])) : ZS h' H' z TI TO i1 i2 a b i := by
  obtain ⟨t, a1, a2, g⟩ := st
  refine ⟨k TI (by simp) _ t, a1.at fun o e => k i1 (by simp) o e, a2.at fun o e => k i2 (by simp) o e, ?_⟩
  rcases g with ⟨g1, x, y, g2⟩ | ⟨T, f, p, q, g1, g2, o, g3⟩
  · exact .inl ⟨k z (by simp) _ g1, x, y, k TO (by simp) _ g2⟩
  · exact .inr ⟨T, f, p, q, k z (by simp) _ g1, kH _ _ _ g2, o, k TO (by simp) _ g3⟩
theorem ZS.put {its its' : List Value} {n i : Nat} {us vs : List V} {f : Array Value → Array Value} (hf : FpL X pins H [z, TI, TO, i1, i2]) (hq : H q = some (.lst us)) (st : ZS s.heap H z TI TO i1 i2 a b i) :
    ZS (s.heap.update q (Obj.mapSeq f)) (upd H q (.lst vs)) z TI TO i1 i2 a b i :=
  st.keep (fun c hc o e => (Heap.get?_update_other s.heap (Obj.mapSeq f) (fun w => by
    have := (hf c hc).1
    rw [← w, hq] at this
    cases this)).trans e) (fun T p r hT => by
      rw [upd_ne (fun w => by rw [w, hq] at hT; cases hT)]
      exact hT)
theorem FpL.put {us vs : List V} (hf : FpL X pins H [z, TI, TO, i1, i2]) (hq : H q = some (.lst us)) : FpL X pins (upd H q (.lst vs)) [z, TI, TO, i1, i2] := hf.up fun c hc w => by
  have := (hf c hc).1
  rw [w, hq] at this
  cases this
end
end HH
set_option maxHeartbeats 4000000
namespace HH
open PySem PySem.Spec PyProof.Rows L2 Evl
def tlN (rs : HH.Row) (i : Nat) : Int := ((rs[i]?).getD (0, 0)).2
def ctT (e : List Nat) (rs : HH.Row) (p : Int × Int) (k : Nat) : Int := if bef e p.2.toNat p.1.toNat = true then (if k = p.1.toNat then tlN rs p.1.toNat else 0) else (if k = p.2.toNat then - tlN rs p.2.toNat else 0)
def ctP (e : List Nat) (rs : HH.Row) (p : Int × Int) (k : Nat) : Int := if bef e p.2.toNat p.1.toNat = true then (if k = p.2.toNat then tlN rs p.1.toNat else 0) else (if k = p.1.toNat then - tlN rs p.2.toNat else 0)
def sT (e : List Nat) (rs : HH.Row) (ps : HH.Row) (k : Nat) : Int := (ps.map fun p => ctT e rs p k).sum
def sP (e : List Nat) (rs : HH.Row) (ps : HH.Row) (k : Nat) : Int := (ps.map fun p => ctP e rs p k).sum
theorem sum_perm {xs ys : List Int} (h : xs.Perm ys) : xs.sum = ys.sum := by
  induction h with
  | nil => rfl
  | cons x _ ih => rw [List.sum_cons, List.sum_cons, ih]
  | swap x y l => rw [List.sum_cons, List.sum_cons, List.sum_cons, List.sum_cons]; omega
  | trans _ _ a b => rw [a, b]
theorem sum_snoc (xs : List Int) (x : Int) : (xs ++ [x]).sum = xs.sum + x := by
  induction xs with
  | nil => rw [List.nil_append, List.sum_cons, List.sum_nil]; omega
  | cons y r ih => rw [List.cons_append, List.sum_cons, List.sum_cons, ih]; omega
theorem sT_perm {e : List Nat} {rs ps qs : HH.Row} (h : ps.Perm qs) (k : Nat) : sT e rs ps k = sT e rs qs k := sum_perm (h.map _)
theorem sP_perm {e : List Nat} {rs ps qs : HH.Row} (h : ps.Perm qs) (k : Nat) : sP e rs ps k = sP e rs qs k := sum_perm (h.map _)
theorem sT_snoc (e : List Nat) (rs ps : HH.Row) (p : Int × Int) (k : Nat) : sT e rs (ps ++ [p]) k = sT e rs ps k + ctT e rs p k := by
  unfold sT
  rw [List.map_append]
  exact sum_snoc _ _
theorem sP_snoc (e : List Nat) (rs ps : HH.Row) (p : Int × Int) (k : Nat) : sP e rs (ps ++ [p]) k = sP e rs ps k + ctP e rs p k := by
  unfold sP
  rw [List.map_append]
  exact sum_snoc _ _
theorem tab_told {l : List Nat} {n : Nat} (hl : ∀ x ∈ l, x < n) : Told n l (tab l n n) := ⟨fun p => by
  rw [mem_tab]
  constructor
  · rintro ⟨i, j, h1, h2, h3, h4⟩
    exact ⟨i, j, h1, h3, h4⟩
  · rintro ⟨i, j, h1, h2, h3⟩
    exact ⟨i, j, h1, hl _ (bef_mem h3).1, h2, h3⟩, nd_tab _ _ _⟩
theorem tab_swap {n a b : Nat} {A B : List Nat} (hab : a < b) (nd : (A ++ a :: b :: B).Nodup) (hl : ∀ x ∈ A ++ a :: b :: B, x < n) : (tab (A ++ a :: b :: B) n n ++ [((a : Int), (b : Int))]).Perm (tab (A ++ b :: a :: B) n n) := by
  refine told_tab (told_swap (tab_told hl) hab nd) fun x hx => hl x ?_
  have : (A ++ b :: a :: B).Perm (A ++ a :: b :: B) := List.Perm.append_left A (List.Perm.swap ..)
  exact this.mem_iff.mp hx
theorem bef_asy {l : List Nat} (nd : l.Nodup) {i j : Nat} (h : bef l i j = true) : bef l j i = false := by
  obtain ⟨p, q, hpq, h1, h2⟩ := bef_get h
  rw [bef_iff nd h2 h1]
  exact decide_eq_false (by omega)
theorem bef_totl {l : List Nat} (nd : l.Nodup) {i j : Nat} (hi : i ∈ l) (hj : j ∈ l) (ne : i ≠ j) : bef l i j = true ∨ bef l j i = true := by
  obtain ⟨p, hp⟩ := List.getElem?_of_mem hi
  obtain ⟨q, hq⟩ := List.getElem?_of_mem hj
  rw [bef_iff nd hp hq, bef_iff nd hq hp]
  have : p ≠ q := fun z => by
    rw [z, hq] at hp
    exact ne (Option.some.inj hp).symm
  rcases Nat.lt_or_gt_of_ne this with h | h
  · exact .inl (decide_eq_true h)
  · exact .inr (decide_eq_true h)
theorem bef_adj {A B : List Nat} {a b : Nat} (nd : (A ++ a :: b :: B).Nodup) : bef (A ++ a :: b :: B) a b = true := by
  have g1 : (A ++ a :: b :: B)[A.length]? = some a := by simp
  have g2 : (A ++ a :: b :: B)[A.length + 1]? = some b := by
    rw [List.getElem?_append_right (by omega), show A.length + 1 - A.length = 1 by omega]
    rfl
  rw [bef_iff nd g1 g2]
  exact decide_eq_true (by omega)
theorem pass_ahead {pre post E : List Cow} {a b : Cow} (t : ∀ x ∈ pre ++ a :: b :: post, 0 ≤ x.2.2) (nd : ((pre ++ a :: b :: post).map (·.1)).Nodup) (hp : b.2.1 - a.2.2 > a.2.1) (sE : Steps (pre ++ (b.1, (b.2.1 - a.2.2, b.2.2)) :: a :: post) E) : bef (E.map (·.1)) b.1 a.1 = true := by
  have s : Step (pre ++ a :: b :: post) (pre ++ (b.1, (b.2.1 - a.2.2, b.2.2)) :: a :: post) := ⟨_, _, _, _, rfl, hp, rfl⟩
  have idE := ((Steps.head s sE).ids)
  have ndE : (E.map (·.1)).Nodup := idE.nodup_iff.mpr nd
  have e1 : (pre ++ a :: b :: post).map (·.1) = pre.map (·.1) ++ a.1 :: b.1 :: post.map (·.1) := by rw [List.map_append]; rfl
  have e2 : (pre ++ (b.1, (b.2.1 - a.2.2, b.2.2)) :: a :: post).map (·.1) = pre.map (·.1) ++ b.1 :: a.1 :: post.map (·.1) := by rw [List.map_append]; rfl
  have nd1 := nd
  rw [e1] at nd1
  have ne : a.1 ≠ b.1 := by
    have := (List.nodup_append.mp nd1).2.1
    intro z
    exact (List.nodup_cons.mp this).1 (by rw [z]; exact List.mem_cons_self ..)
  have ma : a.1 ∈ E.map (·.1) := idE.mem_iff.mpr (by rw [e1]; simp)
  have mb : b.1 ∈ E.map (·.1) := idE.mem_iff.mpr (by rw [e1]; simp)
  rcases bef_totl ndE mb ma (Ne.symm ne) with h | h
  · exact h
  · exfalso
    have := mid_keeps t nd (.one s) sE (a := a.1) (b := b.1) (by rw [e1]; exact bef_adj nd1) h
    have nd2 : (pre.map (·.1) ++ b.1 :: a.1 :: post.map (·.1)).Nodup := by
      rw [← e2]
      exact (s.ids).nodup_iff.mpr nd
    rw [e2] at this
    have z := bef_asy nd2 this
    rw [bef_adj nd2] at z
    cases z
theorem hay_swap {n x y : Nat} {A B e : List Nat} {rs : HH.Row} (nde : e.Nodup) (nd : (A ++ x :: y :: B).Nodup) (hl : ∀ z ∈ A ++ x :: y :: B, z < n) :
    (bef e y x = true → ∀ k, sT e rs (tab (A ++ y :: x :: B) n n) k = sT e rs (tab (A ++ x :: y :: B) n n) k + (if k = x then tlN rs x else 0) ∧ sP e rs (tab (A ++ y :: x :: B) n n) k = sP e rs (tab (A ++ x :: y :: B) n n) k + (if k = y then tlN rs x else 0)) ∧
    (bef e x y = true → ∀ k, sT e rs (tab (A ++ y :: x :: B) n n) k = sT e rs (tab (A ++ x :: y :: B) n n) k - (if k = y then tlN rs y else 0) ∧ sP e rs (tab (A ++ y :: x :: B) n n) k = sP e rs (tab (A ++ x :: y :: B) n n) k - (if k = x then tlN rs y else 0)) := by
  have ne : x ≠ y := by
    have := (List.nodup_append.mp nd).2.1
    intro z
    exact (List.nodup_cons.mp this).1 (by rw [z]; exact List.mem_cons_self ..)
  have pm : (A ++ y :: x :: B).Perm (A ++ x :: y :: B) := List.Perm.append_left A (List.Perm.swap ..)
  rcases Nat.lt_or_gt_of_ne ne with h | h
  · have p := tab_swap h nd hl
    have t := fun k => (sT_perm (e := e) (rs := rs) p k).symm.trans (sT_snoc e rs _ _ k)
    have u := fun k => (sP_perm (e := e) (rs := rs) p k).symm.trans (sP_snoc e rs _ _ k)
    constructor
    · intro hb k
      rw [t, u]
      unfold ctT ctP
      simp only [Int.toNat_natCast, hb, if_true]
      exact ⟨trivial, trivial⟩
    · intro hb k
      rw [t, u]
      unfold ctT ctP
      simp only [Int.toNat_natCast, bef_asy nde hb, Bool.false_eq_true, if_false]
      constructor <;> split <;> omega
  · have p := tab_swap h (pm.nodup_iff.mpr nd) (fun z hz => hl z (pm.mem_iff.mp hz))
    have t := fun k => (sT_perm (e := e) (rs := rs) p k).symm.trans (sT_snoc e rs _ _ k)
    have u := fun k => (sP_perm (e := e) (rs := rs) p k).symm.trans (sP_snoc e rs _ _ k)
    constructor
    · intro hb k
      rw [t, u]
      unfold ctT ctP
      simp only [Int.toNat_natCast, bef_asy nde hb, Bool.false_eq_true, if_false]
      constructor <;> split <;> omega
    · intro hb k
      rw [t, u]
      unfold ctT ctP
      simp only [Int.toNat_natCast, hb, if_true]
      constructor <;> split <;> omega
structure Went (K : PySem.W.Frag) (H : Hp) (v : V) (o : Addr) (rs : HH.Row) (L : List Cow) : Prop where
  row : RowAt K H v rs
  len : rs.length ≤ 30
  tl : ∀ b ∈ rs, 0 ≤ b.2
  ord : SqT K H o (natsV (L.map (·.1)))
  run : ∃ ds, MRun (tag 0 rs) L ds
theorem Went.ex {K : PySem.W.Frag} {H H' : Hp} {v : V} {o : Addr} {rs : HH.Row} {L : List Cow} (h : Went K H v o rs L) (e : Ex H H') : Went K H' v o rs L := ⟨h.row.ex e, h.len, h.tl, ex_t e h.ord, h.run⟩
theorem run_ids {rs : HH.Row} {L : List Cow} {ds : List Deed} (tl : ∀ b ∈ rs, 0 ≤ b.2) (r : MRun (tag 0 rs) L ds) : (L.map (·.1)).Perm (List.range rs.length) := by
  obtain ⟨E, sE, nE⟩ := nf_is (good_tag tl).tl
  obtain ⟨B, sB, nB⟩ := ff_is (good_tag tl).tl
  exact ((r.both (good_tag tl).tl sE nE sB nB).2.1).ids.symm.trans sE.idsT
theorem Went.ids {K : PySem.W.Frag} {H : Hp} {v : V} {o : Addr} {rs : HH.Row} {L : List Cow} (h : Went K H v o rs L) : (L.map (·.1)).Perm (List.range rs.length) := by
  obtain ⟨ds, r⟩ := h.run
  exact run_ids h.tl r
theorem Went.nd {K : PySem.W.Frag} {H : Hp} {v : V} {o : Addr} {rs : HH.Row} {L : List Cow} (h : Went K H v o rs L) : (L.map (·.1)).Nodup := h.ids.nodup_iff.mpr List.nodup_range
theorem Went.lenL {K : PySem.W.Frag} {H : Hp} {v : V} {o : Addr} {rs : HH.Row} {L : List Cow} (h : Went K H v o rs L) : (L.map (·.1)).length = rs.length := by rw [h.ids.length_eq, List.length_range]
theorem Went.all {K : PySem.W.Frag} {H : Hp} {v : V} {o : Addr} {rs : HH.Row} {L : List Cow} (h : Went K H v o rs L) (x : Nat) (hx : x < (L.map (·.1)).length) : x ∈ L.map (·.1) := h.ids.mem_iff.mpr (List.mem_range.mpr (by rw [← h.lenL]; exact hx))
def spNone (K : PySem.W.Frag) : Sp := fun vs H Q _ => ∃ (v : V) (o : Addr) (rs : HH.Row) (L : List Cow), vs = [v, .ref o] ∧ Went K H v o rs L ∧ ∀ H', Ex H H' → Q .non H'
theorem kept_stays {rs : HH.Row} {L E B : List Cow} {ds : List Deed} (tl : ∀ b ∈ rs, 0 ≤ b.2) (r : MRun (tag 0 rs) L ds) (sE : Steps (tag 0 rs) E) (nE : Nf E) (sB : FSteps (tag 0 rs) B) (nB : Ff B) {i j : Nat} (h1 : i < j) (h2 : j < rs.length) (hE : bef (E.map (·.1)) j i = false) (hB : bef (B.map (·.1)) j i = false) : bef (L.map (·.1)) j i = false := by
  have t0 : ∀ x ∈ tag 0 rs, 0 ≤ x.2.2 := (good_tag tl).tl
  obtain ⟨tL, sLE, sLB⟩ := r.both t0 sE nE sB nB
  have tB := sB.tl t0
  have ndL : (L.map (·.1)).Nodup := (run_ids tl r).nodup_iff.mpr List.nodup_range
  have mem : ∀ {M : List Cow}, (M.map (·.1)).Perm (L.map (·.1)) → ∀ x, x < rs.length → x ∈ M.map (·.1) := fun p x hx => p.mem_iff.mpr ((run_ids tl r).mem_iff.mpr (List.mem_range.mpr hx))
  have pB := sLB.ids
  have pE := sLE.ids
  have b1 := bef_tot (mem pB j h2) (mem pB i (by omega)) (by omega) hB
  have e1 := bef_tot (mem pE j h2) (mem pE i (by omega)) (by omega) hE
  exact bef_asym ndL (mid_keeps tB (pB.nodup_iff.mpr ndL) sLB.back sLE b1 e1)
end HH
set_option maxHeartbeats 4000000
namespace HH
open PySem PySem.Spec PyProof.Rows L2 Evl
theorem tlN_eq (rs : HH.Row) (i : Nat) : tlN rs i = tS rs i := rfl
theorem steps_run {L0 M L : List Cow} (h : Steps M L) : ∀ {ds : List Deed}, MRun L0 M ds → ∃ ds', MRun L0 L ds' := by
  induction h with
  | refl => exact fun r => ⟨_, r⟩
  | head s _ ih =>
    intro ds r
    obtain ⟨pre, post, a, b, rfl, hp, rfl⟩ := s
    exact ih (.pass r hp)
section
variable {e : List Nat} {rs ps : HH.Row} {i j n : Nat}
end
end HH
set_option maxHeartbeats 4000000
namespace HH
open PySem PySem.Spec PyProof.Rows L2 Evl RZ
inductive Bk where
  | val
  | run
  | look
  | over
namespace Bk
def nm : Bk → String
  | val => "ValueError"
  | run => "RuntimeError"
  | look => "LookupError"
  | over => "OverflowError"
def st : Bk → Str
  | val => "ValueError"
  | run => "RuntimeError"
  | look => "LookupError"
  | over => "OverflowError"
def nw : Bk → String
  | val => "ValueError.__new__"
  | run => "RuntimeError.__new__"
  | look => "LookupError.__new__"
  | over => "OverflowError.__new__"
def ini : Bk → String
  | val => "ValueError.__init__"
  | run => "RuntimeError.__init__"
  | look => "LookupError.__init__"
  | over => "OverflowError.__init__"
def mro : Bk → List Value
  | val => [.type "ValueError", .type "Exception", .type "BaseException", .type "object"]
  | run => [.type "RuntimeError", .type "Exception", .type "BaseException", .type "object"]
  | look => [.type "LookupError", .type "Exception", .type "BaseException", .type "object"]
  | over => [.type "OverflowError", .type "ArithmeticError", .type "Exception", .type "BaseException", .type "object"]
theorem base : (b : Bk) → ExcBaseFacts b.nm b.nw b.ini b.mro
  | val => F.excBase_ValueError
  | run => F.excBase_RuntimeError
  | look => F.excBase_LookupError
  | over => F.excBase_OverflowError
end Bk
structure ExcTy (K : PySem.W.Frag) (b : Bk) (f : Str) (C fI : Addr) : Prop where
  ok : PySem.W.excInitIn K C b.mro b.nw = true
  ov : PySem.W.excOver K C b.mro = true
  tk : PySem.W.takerIn K C f = some none
  hd : PySem.W.hasDictIn K C = true
  sa : PySem.W.findIn K (.ref C) "__setattr__" = some (some (.builtin "object.__setattr__"))
  ga : PySem.W.findIn K (.ref C) "__getattribute__" = some (some (.builtin "BaseException.__getattribute__"))
  gg : PySem.W.findIn K (.ref C) "__getattr__" = some none
  no : PySem.W.findIn K (.ref C) f = some none
  iC : PySem.W.findIn K (.ref C) "__init__" = some (some (.ref fI))
  ca : PySem.W.findIn K (.ref C) "__class__" = some (some (.builtin "object.__class__"))
  gs : PySem.W.specialIn K (.builtin "object.__class__") "__get__" = some (some (.builtin "getset_descriptor.__get__"))
  tI : PySem.W.typeIn K (.ref fI) = some (.type "function")
  kC : PySem.W.keepIn K (.ref C) = true
  ex : PySem.W.subIn K (.ref C) (.type "BaseException") = some true
  ty : PySem.W.typeIn K (.ref C) = some (.type "type")
  ts : PySem.W.takesIn K (.builtin "object.__class__") = some true
  mo : PySem.W.mroIn K C (.type "object") = some true
  bi : PySem.W.findCls K (.type b.nm) (.type "type") "__init__" = some (.val (.builtin b.ini))
section
variable {X : Cx} {pins : List (Addr × Obj)} {σ : L2.St} {H : Hp} {s : Shared} {a C fI : Addr} {f : Str} {b : Bk} {y : V} {u : Value} {A : Around} {E : Value → Shared → Prop}
end
def spIni (C : Addr) (f : Str) : Sp := fun vs H Q _ => ∃ (a : Addr) (v : V), vs = [.ref a, v] ∧ H a = some (exo a C none) ∧ ∀ dx, H dx = none → dx ≠ a → Q .non (upd (upd H dx (exd dx [(f, v)])) a (exo a C (some dx)))
section
variable {X : Cx} {C fI : Addr} {f : Str} {b : Bk}
end
end HH
set_option maxHeartbeats 4000000
namespace HH
open PySem PySem.Spec PyProof.Rows L2 Evl RZ
section
variable {X : Cx} {pins : List (Addr × Obj)} {σ : L2.St} {H : Hp} {s : Shared} {a : Addr} {oe : Obj} {cls : Value} {d : Option Addr} {vs : Array Value}
end
section
variable {X : Cx} {x1 x2 x3 x4 : Str} {c1 c2 c3 c4 : Value} {p1 p2 p3 p4 tp : Pos} {kk : Nat}
end
section
variable {X : Cx} {t : Expr} {n : Str} {i : Nat} {m : Value → Prop} {body suite : List Stmt} {b0 : Stmt} {pos pos' : Pos} {tb : WX → TS} {ts : Addr → Value → Option Addr → TS}
end
section
variable {X : Cx} {C fI : Addr} {f : Str} {b : Bk}
end
end HH
set_option maxHeartbeats 4000000
namespace HH
open PySem PySem.Spec PyProof.Rows L2 Evl RZ
def putR (rs : HH.Row) (w : Nat) (b : Int × Int) : HH.Row := rs.take w ++ [b] ++ rs.drop (w + 1)
def fedR (rs : HH.Row) (w : Nat) (d : Int) : HH.Row := putR rs w (sS rs w + d, tS rs w)
section
variable {K : PySem.W.Frag} {σ : L2.St} {H : Hp} {ta tb te te2 : TE} {t : TT} {R : PrT} {v : V}
end
end HH
set_option maxHeartbeats 4000000
namespace HH
open PySem PySem.Spec PyProof.Rows L2 Evl RZ
section
variable {K : PySem.W.Frag} {σ : L2.St} {H : Hp} {v : V}
theorem alike_twoT {d : Nat} {a b : Addr} {x1 x2 y1 y2 : V} (h : SqT K H a [x1, x2]) (g : SqT K H b [y1, y2]) (h1 : Alike K H d x1 y1) (h2 : Alike K H d x2 y2) : Alike K H (d + 1) (.ref a) (.ref b) := by
  refine .inr ⟨a, b, _, _, rfl, rfl, .inr ⟨h, g⟩, rfl, by show 2 ≤ 40000; decide, fun i u v hu hv => ?_⟩
  match i, hu, hv with
  | 0, hu, hv => cases hu; cases hv; exact h1
  | 1, hu, hv => cases hu; cases hv; exact h2
  | i + 2, hu, _ => cases hu
theorem rg_nats (n : Nat) : rgV 0 (n : Int) = natsV (List.range n) := by
  have := ord_tag (List.replicate n ((0 : Int), (0 : Int)))
  rw [List.length_replicate] at this
  rw [this, ordL_nats, tag_ids, List.length_replicate]
end
end HH
set_option maxHeartbeats 4000000
namespace HH
open PySem PySem.Spec PyProof.Rows L2 Evl RZ
def aheadP (rs : HH.Row) (w j : Nat) : Bool := if j < w then !decide (barN rs j (w - j - 1) < sS rs w) else if w < j then decide (barN rs w (j - w - 1) < sS rs j) else false
def placeN (rs : HH.Row) (w : Nat) : Nat := (List.range rs.length).countP (aheadP rs w)
structure LeastF (rs : HH.Row) (w k : Nat) (F : Int) : Prop where
  nn : 0 ≤ F
  at' : placeN (fedR rs w F) w ≤ k
  no : ∀ f, 0 ≤ f → f < F → k < placeN (fedR rs w f) w
theorem LeastF.one {rs : HH.Row} {w k : Nat} {F G : Int} (a : LeastF rs w k F) (b : LeastF rs w k G) : F = G := by
  rcases Int.lt_trichotomy F G with h | h | h
  · have := b.no F a.nn h
    have := a.at'
    omega
  · exact h
  · have := a.no G b.nn h
    have := b.at'
    omega
end HH
set_option maxHeartbeats 4000000
namespace HH
open PySem PySem.Spec PyProof.Rows L2 Evl RZ
def CowAt (H : Hp) (v : V) (c : Cow) : Prop := ∃ p, v = .ref p ∧ H p = some (.tup [.int (c.1 : Int), .int c.2.1, .int c.2.2])
theorem CowAt.ex {H H' : Hp} {v : V} {c : Cow} (h : CowAt H v c) (e : Ex H H') : CowAt H' v c := by
  obtain ⟨p, rfl, hp⟩ := h
  exact ⟨p, rfl, e _ _ hp⟩
theorem CowAt.ls {H : Hp} {v : V} {c : Cow} {D : Addr} {xs ys : List V} (h : CowAt H v c) (hD : H D = some (.lst xs)) : CowAt (upd H D (.lst ys)) v c := by
  obtain ⟨p, rfl, hp⟩ := h
  refine ⟨p, rfl, ?_⟩
  rw [upd_ne (ne_of hp hD fun z => nomatch z)]
  exact hp
theorem All2.split {α : Type} {R : V → α → Prop} : ∀ {A B : List α} {us : List V}, All2 R us (A ++ B) → ∃ u1 u2, us = u1 ++ u2 ∧ All2 R u1 A ∧ All2 R u2 B
  | [], B, us, h => ⟨[], us, rfl, .nil, h⟩
  | a :: A, B, _, .cons r h => by
    obtain ⟨u1, u2, rfl, h1, h2⟩ := All2.split (A := A) h
    exact ⟨_ :: u1, u2, rfl, .cons r h1, h2⟩
section
variable {K : PySem.W.Frag} {σ : L2.St} {H : Hp} {tl : TE} {D : Ends} {tz tu : TS} {g : TG}
end
section
variable {K : PySem.W.Frag} {σ : L2.St} {H : Hp} {te te2 : TE} {t : TT} {v : V}
end
end HH
set_option maxHeartbeats 4000000
namespace HH
open PySem PySem.Spec PyProof.Rows L2 Evl RZ
theorem EndAt.ne {K : PySem.W.Frag} {H H' : Hp} {p q ot lp : Addr} {v' : V} {pvs : List V} {L : List Cow} {ps : HH.Row} {n : Nat} (E : EndAt K H H' p q v' ot lp pvs L ps n) : lp ≠ p := fun z => by
  have a := E.lst
  have c := E.prs
  obtain ⟨x, y, z', e, _⟩ := E.bx
  rw [z, e] at a
  cases a
  match ps, c with
  | [], c => exact absurd c.1 (by simp)
  | b0 :: _, c =>
    obtain ⟨u, hu, pp, rfl, _⟩ := c.2 0 b0 rfl
    cases hu
end HH
set_option maxHeartbeats 4000000
namespace HH
open PySem PySem.Spec PyProof.Rows L2 Evl RZ
section
variable {K : PySem.W.Frag} {σ : L2.St} {H : Hp} {ta : TE} {E : XK} {v : V}
end
end HH
set_option maxHeartbeats 4000000
namespace HH
open PySem PySem.Spec PyProof.Rows L2 Evl RZ
end HH
set_option maxHeartbeats 4000000
namespace HH
open PySem PySem.Spec PyProof.Rows L2 Evl RZ
def Lk (a e : HH.Row) : Prop := ∃ M, Steps (tag 0 a) M ∧ rowsOf M = e
theorem Lk.rfl' (a : HH.Row) : Lk a a := ⟨tag 0 a, .refl _, tag_snd 0 a⟩
theorem Lk.trans {a b c : HH.Row} (h : Lk a b) (g : Lk b c) : Lk a c := by
  obtain ⟨M, s, rfl⟩ := h
  obtain ⟨N, t, rfl⟩ := g
  have t' := t.map (HH.ixN (M.map (·.1)))
  rw [rl_tag] at t'
  exact ⟨_, s.trans t', rl_rows _ _⟩
theorem rowsOf_app (L M : List Cow) : rowsOf (L ++ M) = rowsOf L ++ rowsOf M := List.map_append
theorem Lk.under {a e : HH.Row} (p q : HH.Row) (h : Lk a e) : Lk (p ++ a ++ q) (p ++ e ++ q) := by
  obtain ⟨M, s, rfl⟩ := h
  have s1 := (s.map (p.length + ·)).under (tag 0 p) (tag (p.length + a.length) q)
  rw [← tag_rl 0 p.length, Nat.add_zero] at s1
  refine ⟨tag 0 p ++ rlL (p.length + ·) M ++ tag (p.length + a.length) q, ?_, ?_⟩
  · rw [tag_app, tag_app, Nat.zero_add, Nat.zero_add, List.length_append]
    exact s1
  · rw [rowsOf_app, rowsOf_app, rl_rows, show rowsOf (tag 0 p) = p from tag_snd 0 p, show rowsOf (tag (p.length + a.length) q) = q from tag_snd _ q]
theorem Lk.app {a e b f : HH.Row} (h : Lk a e) (g : Lk b f) : Lk (a ++ b) (e ++ f) := by
  have h1 := h.under [] b
  have g1 := g.under e []
  rw [List.nil_append, List.nil_append] at h1
  rw [List.append_nil, List.append_nil] at g1
  exact h1.trans g1
theorem Lk.tl {a e : HH.Row} (h : Lk a e) (ht : ∀ b ∈ a, 0 ≤ b.2) : ∀ b ∈ e, 0 ≤ b.2 := by
  obtain ⟨M, s, rfl⟩ := h
  exact tolls_rows (s.tl (good_tag ht).tl)
def EndR (a e : HH.Row) : Prop := ∃ L, Steps (tag 0 a) L ∧ Nf L ∧ rowsOf L = e
theorem EndR.lk {a e : HH.Row} (h : EndR a e) : Lk a e := by
  obtain ⟨L, s, _, r⟩ := h
  exact ⟨L, s, r⟩
theorem EndR.one {a e f : HH.Row} (ht : ∀ b ∈ a, 0 ≤ b.2) (h : EndR a e) (g : EndR a f) : e = f := by
  obtain ⟨L, s, n, rfl⟩ := h
  obtain ⟨M, t, m, rfl⟩ := g
  rw [nf_any (good_tag ht).tl s n t m]
theorem EndR.is {a : HH.Row} (ht : ∀ b ∈ a, 0 ≤ b.2) : ∃ e, EndR a e := by
  obtain ⟨N, s, n⟩ := nf_is (good_tag ht).tl
  exact ⟨_, N, s, n, rfl⟩
theorem EndR.back {a b e : HH.Row} (h : Lk a b) (g : EndR b e) : EndR a e := by
  obtain ⟨M, s, rfl⟩ := h
  obtain ⟨N, t, n, rfl⟩ := g
  have t' := t.map (HH.ixN (M.map (·.1)))
  rw [rl_tag] at t'
  exact ⟨_, s.trans t', nf_map n, rl_rows _ _⟩
def Jn (a b : HH.Row) : Prop := ∃ e, Lk a e ∧ Lk b e
theorem Jn.same (a : HH.Row) : Jn a a := ⟨a, Lk.rfl' a, Lk.rfl' a⟩
theorem Jn.to {a e : HH.Row} (h : Lk a e) : Jn a e := ⟨e, h, Lk.rfl' e⟩
theorem Jn.of {a e : HH.Row} (h : Lk e a) : Jn a e := ⟨a, Lk.rfl' a, h⟩
theorem Jn.app {a b c d : HH.Row} (h : Jn a b) (g : Jn c d) : Jn (a ++ c) (b ++ d) := by
  obtain ⟨e, h1, h2⟩ := h
  obtain ⟨f, g1, g2⟩ := g
  exact ⟨e ++ f, h1.app g1, h2.app g2⟩
inductive Jns : List HH.Row → List HH.Row → Prop
  | nil : Jns [] []
  | cons {a b : HH.Row} {rr ss : List HH.Row} : Jn a b → Jns rr ss → Jns (a :: rr) (b :: ss)
theorem Jns.len {rr ss : List HH.Row} (h : Jns rr ss) : rr.length = ss.length := by
  induction h with
  | nil => rfl
  | cons _ _ ih => rw [List.length_cons, List.length_cons, ih]
theorem Jns.of : ∀ {rr ss : List HH.Row}, rr.length = ss.length → (∀ (i : Nat) (a b : HH.Row), rr[i]? = some a → ss[i]? = some b → Jn a b) → Jns rr ss
  | [], [], _, _ => .nil
  | a :: rr, b :: ss, hl, h => .cons (h 0 a b rfl rfl) (Jns.of (by simpa using hl) fun i x y hx hy => h (i + 1) x y hx hy)
theorem Jn.flat : ∀ {rr ss : List HH.Row}, Jns rr ss → Jn rr.flatten ss.flatten
  | _, _, .nil => Jn.same []
  | _, _, .cons h t => by
    rw [List.flatten_cons, List.flatten_cons]
    exact h.app (Jn.flat t)
def JnC (L M : List Cow) : Prop := ∃ N, Steps L N ∧ Steps M N
end HH
set_option maxHeartbeats 4000000
namespace HH
open PySem PySem.Spec PyProof.Rows L2 Evl RZ
structure Moved (K : PySem.W.Frag) (H : Hp) (q : Addr) (rs : HH.Row) (L : List Cow) : Prop where
  at_ : LastAt K H q L
  jn : JnC (tag 0 rs) L
  ids : (L.map (·.1)).Perm (List.range rs.length)
  tl : ∀ x ∈ L, 0 ≤ x.2.2
theorem Moved.ex {K : PySem.W.Frag} {H H' : Hp} {q : Addr} {rs : HH.Row} {L : List Cow} (h : Moved K H q rs L) (e : Ex H H') : Moved K H' q rs L := ⟨h.at_.mono e, h.jn, h.ids, h.tl⟩
end HH
set_option maxHeartbeats 4000000
namespace HH
open PySem PySem.Spec PyProof.Rows L2 Evl RZ
end HH
set_option maxHeartbeats 4000000
namespace HH
open PySem PySem.Spec PyProof.Rows L2 Evl RZ
section
variable {K : PySem.W.Frag} {σ : L2.St} {H H' : Hp} {ta tb te : TE} {v : V}
end
structure TabAt (K : PySem.W.Frag) (H : Hp) (t : Addr) (ll : List (List Nat)) : Prop where
  ex : ∃ (us : List V), SqL K H t us ∧ us.length = ll.length ∧ ∀ (i : Nat) (l : List Nat), ll[i]? = some l → ∃ p, us[i]? = some (.ref p) ∧ SqL K H p (natsV l)
theorem TabAt.mono {K : PySem.W.Frag} {H H' : Hp} {t : Addr} {ll : List (List Nat)} (h : TabAt K H t ll) (e : Ex H H') : TabAt K H' t ll := by
  obtain ⟨us, h1, h2, h3⟩ := h.ex
  exact ⟨us, ex_l e h1, h2, fun i l hl => by
    obtain ⟨p, g1, g2⟩ := h3 i l hl
    exact ⟨p, g1, ex_l e g2⟩⟩
theorem TabAt.of {K : PySem.W.Frag} {H0 H : Hp} {t : Addr} {us : List V} {ll : List (List Nat)} (h : SqL K H t us) (f : ListsF H0 H us ll) : TabAt K H t ll := ⟨us, h, f.len, fun i l hl => by
  obtain ⟨p, g1, _, g3⟩ := f.at' i l hl
  exact ⟨p, g1, sq_of g3⟩⟩
section
variable {K : PySem.W.Frag} {σ : L2.St} {H H' : Hp} {ta tb te : TE} {v : V}
theorem TabAt.row {t : Addr} {ll : List (List Nat)} {i : Nat} {l : List Nat} (h : TabAt K H t ll) (hl : ll[i]? = some l) (h1 : Ev ta σ H (.ref t)) (h2 : Ev tb σ H (.int (i : Int))) : ∃ p, Ev (tOp (rIxL K) ta tb) σ H (.ref p) ∧ SqL K H p (natsV l) := by
  obtain ⟨us, g1, g2, g3⟩ := h.ex
  obtain ⟨p, q1, q2⟩ := g3 i l hl
  exact ⟨p, ev_op h1 h2 (rv_ixL (K := K) g1 (atI_nat q1)), q2⟩
end
end HH
set_option maxHeartbeats 4000000
namespace HH
open PySem PySem.Spec PyProof.Rows L2 Evl RZ
structure HasX (P : Program) (w : World) (K : PySem.W.Frag) (mg : Str → Option Value) (base : Heap) (k : Nat) (x : Str) (ps : List Str) (sp : Sp) (f : Addr) (fd : FuncData) : Prop where
  G : FnOk P w K mg base (L2.CX P w) k f fd ps sp
  g : mg x = some (.ref f)
  kp : PySem.W.keepIn K (.ref f) = true
  b : Binds K fd ps []
structure HasE (P : Program) (w : World) (K : PySem.W.Frag) (mg : Str → Option Value) (base : Heap) (bk : Bk) (x f : Str) (C fI : Addr) (fd : FuncData) : Prop where
  T : ExcTy K bk f C fI
  F : FnOk P w K mg base CX0 1 fI fd ["self", f] (spIni C f)
  b : Binds K fd ["self", f] []
  g : mg x = some (.ref C)
theorem Has.imp {P : Program} {w : World} {K : PySem.W.Frag} {mg : Str → Option Value} {base : Heap} {k : Nat} {x : Str} {ps : List Str} {sp sp' : Sp} {f : Addr} {fd : FuncData} (h : Has P w K mg base k x ps sp f fd) (i : ∀ vs H Q E, sp' vs H Q E → sp vs H Q E) : Has P w K mg base k x ps sp' f fd := ⟨h.G.imp i, h.g, h.kp, h.b⟩
section
variable {K : PySem.W.Frag} {σ : L2.St} {H : Hp} {ta : TA} {te : TE} {C a d : Addr} {fs : List (Str × V)}
end
end HH
set_option maxHeartbeats 4000000
namespace HH
open PySem PySem.Spec PyProof.Rows L2 Evl RZ
end HH
set_option maxHeartbeats 4000000
namespace HH
open PySem PySem.Spec PyProof.Rows L2 Evl RZ
end HH
set_option maxHeartbeats 4000000
namespace HH
open PySem PySem.Spec PyProof.Rows L2 Evl RZ
def Shw (n : Nat) (d : PyData) : Prop := d.showable = true ∧ d.shown.length ≤ n
theorem Shw.le {n m : Nat} {d : PyData} (h : Shw n d) (e : n ≤ m) : Shw m d := ⟨h.1, Nat.le_trans h.2 e⟩
end HH
set_option maxHeartbeats 4000000
namespace HH
open PySem PySem.Spec PyProof.Rows L2 Evl
theorem ids_split (pre post : List Cow) (a b : Cow) : (pre ++ a :: b :: post).map (·.1) = pre.map (·.1) ++ a.1 :: b.1 :: post.map (·.1) := by rw [List.map_append]; rfl
theorem rows_split (pre post : List Cow) (a b : Cow) : rowsOf (pre ++ a :: b :: post) = rowsOf pre ++ a.2 :: b.2 :: rowsOf post := by unfold rowsOf; rw [List.map_append]; rfl
theorem ixN_split {A B : List Nat} {a b : Nat} : ixN (A ++ a :: b :: B) A.length = a ∧ ixN (A ++ a :: b :: B) (A.length + 1) = b := by
  unfold ixN
  constructor
  · rw [List.getElem?_append_right (Nat.le_refl _), Nat.sub_self]
    rfl
  · rw [List.getElem?_append_right (by omega), show A.length + 1 - A.length = 1 by omega]
    rfl
theorem adj_last {pre post E : List Cow} {a b : Cow} (t : ∀ x ∈ pre ++ a :: b :: post, 0 ≤ x.2.2) (nd : ((pre ++ a :: b :: post).map (·.1)).Nodup) (sE : Steps (pre ++ a :: b :: post) E) (nE : Nf E) : bef (E.map (·.1)) b.1 a.1 = true ↔ b.2.1 - a.2.2 > a.2.1 := by
  obtain ⟨Y, sY, rfl⟩ := sE.unmap (rl_tag (pre ++ a :: b :: post)).symm
  have nY := nf_un nE
  have tr := tolls_rows t
  have idY := sY.idsT
  have len : (rowsOf (pre ++ a :: b :: post)).length = pre.length + (post.length + 2) := by
    unfold rowsOf
    rw [List.length_map, List.length_append]
    rfl
  have key := never_iff tr sY nY (i := pre.length) (j := pre.length + 1) (by omega) (by omega)
  rw [show pre.length + 1 - pre.length - 1 = 0 by omega] at key
  have e1 : ixN ((pre ++ a :: b :: post).map (·.1)) pre.length = a.1 ∧ ixN ((pre ++ a :: b :: post).map (·.1)) (pre.length + 1) = b.1 := by
    have := ixN_split (A := pre.map (·.1)) (B := post.map (·.1)) (a := a.1) (b := b.1)
    rw [List.length_map] at this
    rw [ids_split]
    exact this
  have lenI : ((pre ++ a :: b :: post).map (·.1)).length = pre.length + (post.length + 2) := by
    rw [List.length_map, List.length_append]
    rfl
  have inj : ∀ k, k < pre.length + (post.length + 2) → ∀ x ∈ Y.map (·.1), ixN ((pre ++ a :: b :: post).map (·.1)) x = ixN ((pre ++ a :: b :: post).map (·.1)) k → x = k := fun k hk x hx e => by
    have := List.mem_range.mp (idY.mem_iff.mp hx)
    exact ixN_inj nd (by omega) (by omega) e
  have bm := bef_map (f := ixN ((pre ++ a :: b :: post).map (·.1))) (j := pre.length + 1) (i := pre.length) (l := Y.map (·.1)) (inj _ (by omega)) (inj _ (by omega))
  rw [e1.1, e1.2, ← rl_ids] at bm
  rw [bm, key]
  have bar : barN (rowsOf (pre ++ a :: b :: post)) pre.length 0 = sS (rowsOf (pre ++ a :: b :: post)) pre.length + tS (rowsOf (pre ++ a :: b :: post)) pre.length := rfl
  have at' := sS_at (pre := rowsOf pre) (post := rowsOf post) (x := a.2) (y := b.2)
  have lp : (rowsOf pre).length = pre.length := List.length_map ..
  rw [lp, ← rows_split] at at'
  rw [bar, at'.1, at'.2.1, at'.2.2.1]
  omega
theorem turnC_split (pre post : List Cow) (a b : Cow) : turnC 0 (pre ++ a :: b :: post) = turnC 0 pre ++ (a.1, (-(a.2.1 - tsumC pre), a.2.2)) :: (b.1, (-(b.2.1 - (tsumC pre + a.2.2)), b.2.2)) :: turnC (tsumC pre + a.2.2 + b.2.2) post := by
  rw [turnC_app, Int.zero_add]
  rfl
theorem turnC_tl {c : Int} : ∀ {L : List Cow}, (∀ x ∈ L, 0 ≤ x.2.2) → ∀ x ∈ turnC c L, 0 ≤ x.2.2
  | [], _, x, hx => by cases hx
  | y :: L, h, x, hx => by
    have hx : x ∈ (y.1, (-(y.2.1 - c), y.2.2)) :: turnC (c + y.2.2) L := hx
    rcases List.mem_cons.mp hx with rfl | hx
    · exact h y (List.mem_cons_self ..)
    · exact turnC_tl (fun z hz => h z (List.mem_cons_of_mem _ hz)) x hx
theorem adj_first {pre post B : List Cow} {a b : Cow} (t : ∀ x ∈ pre ++ a :: b :: post, 0 ≤ x.2.2) (nd : ((pre ++ a :: b :: post).map (·.1)).Nodup) (sB : FSteps (pre ++ a :: b :: post) B) (nB : Ff B) : bef (B.map (·.1)) b.1 a.1 = true ↔ a.2.1 > b.2.1 := by
  have s := fsteps_turn 0 sB
  have n := ff_turn nB
  have t2 := turnC_tl (c := 0) t
  have nd2 : ((turnC 0 (pre ++ a :: b :: post)).map (·.1)).Nodup := by rw [turnC_ids]; exact nd
  rw [turnC_split] at s t2 nd2
  have key := adj_last t2 nd2 s n
  rw [turnC_ids] at key
  rw [key]
  dsimp only
  omega
theorem fsteps_run {L0 M L : List Cow} (h : FSteps M L) : ∀ {ds : List Deed}, MRun L0 M ds → ∃ ds', MRun L0 L ds' := by
  induction h with
  | refl => exact fun r => ⟨_, r⟩
  | head s _ ih =>
    intro ds r
    obtain ⟨pre, post, a, b, rfl, hp, rfl⟩ := s
    exact ih (.fall r hp)
theorem move_of {rs : HH.Row} {pre post M : List Cow} {a b : Cow} {ds ds' : List Deed} (tl : ∀ x ∈ rs, 0 ≤ x.2) (r : MRun (tag 0 rs) (pre ++ a :: b :: post) ds) (r' : MRun (tag 0 rs) M ds') (h : bef (M.map (·.1)) b.1 a.1 = true) : b.2.1 - a.2.2 > a.2.1 ∨ a.2.1 > b.2.1 := by
  have t0 : ∀ x ∈ tag 0 rs, 0 ≤ x.2.2 := (good_tag tl).tl
  obtain ⟨E, sE, nE⟩ := nf_is t0
  obtain ⟨B, sB, nB⟩ := ff_is t0
  obtain ⟨tL, sLE, sLB⟩ := r.both t0 sE nE sB nB
  obtain ⟨tM, sME, sMB⟩ := r'.both t0 sE nE sB nB
  have idL := run_ids tl r
  have idM := run_ids tl r'
  have ndL : ((pre ++ a :: b :: post).map (·.1)).Nodup := idL.nodup_iff.mpr List.nodup_range
  have ndM : (M.map (·.1)).Nodup := idM.nodup_iff.mpr List.nodup_range
  have tB := sB.tl t0
  have idB : (B.map (·.1)).Perm (M.map (·.1)) := sMB.ids
  have idE : (E.map (·.1)).Perm (M.map (·.1)) := sME.ids
  cases hE : bef (E.map (·.1)) b.1 a.1 with
  | true => exact .inl ((adj_last tL ndL sLE nE).mp hE)
  | false =>
    cases hB : bef (B.map (·.1)) b.1 a.1 with
    | true => exact .inr ((adj_first tL ndL sLB nB).mp hB)
    | false =>
      exfalso
      obtain ⟨mb, ma⟩ := bef_mem h
      have ne : b.1 ≠ a.1 := fun z => by
        rw [z] at h
        have := bef_asym ndM h
        rw [h] at this
        cases this
      have e1 := bef_tot (idE.mem_iff.mpr mb) (idE.mem_iff.mpr ma) ne hE
      have b1 := bef_tot (idB.mem_iff.mpr mb) (idB.mem_iff.mpr ma) ne hB
      have z := mid_keeps tB (idB.nodup_iff.mpr ndM) sMB.back sME b1 e1
      rw [bef_asym ndM h] at z
      cases z
structure Keeps (rs : HH.Row) (o : List Nat) : Prop where
  ids : o.Perm (List.range rs.length)
  kp : ∀ E B, Steps (tag 0 rs) E → Nf E → FSteps (tag 0 rs) B → Ff B → ∀ i j, i < j → j < rs.length → bef (E.map (·.1)) j i = false → bef (B.map (·.1)) j i = false → bef o j i = false
theorem Keeps.nd {rs : HH.Row} {o : List Nat} (k : Keeps rs o) : o.Nodup := k.ids.nodup_iff.mpr List.nodup_range
theorem Keeps.len {rs : HH.Row} {o : List Nat} (k : Keeps rs o) : o.length = rs.length := by rw [k.ids.length_eq, List.length_range]
theorem run_keeps {rs : HH.Row} {L : List Cow} {ds : List Deed} (tl : ∀ x ∈ rs, 0 ≤ x.2) (r : MRun (tag 0 rs) L ds) : Keeps rs (L.map (·.1)) := ⟨run_ids tl r, fun E B sE nE sB nB i j h1 h2 h3 h4 => kept_stays tl r sE nE sB nB h1 h2 h3 h4⟩
theorem seen {rs : HH.Row} {o : List Nat} {L : List Cow} {ds : List Deed} {x y : Nat} (tl : ∀ x ∈ rs, 0 ≤ x.2) (k : Keeps rs o) (r : MRun (tag 0 rs) L ds) (h1 : bef (L.map (·.1)) y x = true) (h2 : bef o x y = true) : ∃ M ds', MRun (tag 0 rs) M ds' ∧ bef (M.map (·.1)) x y = true := by
  have t0 : ∀ x ∈ tag 0 rs, 0 ≤ x.2.2 := (good_tag tl).tl
  obtain ⟨E, sE, nE⟩ := nf_is t0
  obtain ⟨B, sB, nB⟩ := ff_is t0
  obtain ⟨dE, rE⟩ := steps_run sE (.nil (L0 := tag 0 rs))
  obtain ⟨dB, rB⟩ := fsteps_run sB (.nil (L0 := tag 0 rs))
  obtain ⟨mx, my⟩ := bef_mem h2
  have hx := List.mem_range.mp (k.ids.mem_iff.mp mx)
  have hy := List.mem_range.mp (k.ids.mem_iff.mp my)
  have ne : x ≠ y := fun z => by
    rw [z] at h2
    have := bef_asym k.nd h2
    rw [h2] at this
    cases this
  rcases Nat.lt_or_gt_of_ne ne with h | h
  · refine ⟨tag 0 rs, [], .nil, ?_⟩
    rw [tag_ids]
    exact bef_range h hy
  · cases cE : bef (E.map (·.1)) x y with
    | true => exact ⟨E, dE, rE, cE⟩
    | false =>
      cases cB : bef (B.map (·.1)) x y with
      | true => exact ⟨B, dB, rB, cB⟩
      | false =>
        have := k.kp E B sE nE sB nB y x h hx cE cB
        rw [h2] at this
        cases this
theorem bef_front {A : List Nat} {x y : Nat} {B : List Nat} (nd : (A ++ x :: B).Nodup) (hy : y ∈ B) : bef (A ++ x :: B) x y = true := by
  obtain ⟨q, hq⟩ := List.getElem?_of_mem hy
  have g1 : (A ++ x :: B)[A.length]? = some x := by simp
  have g2 : (A ++ x :: B)[A.length + 1 + q]? = some y := by
    rw [List.getElem?_append_right (by omega), show A.length + 1 + q - A.length = q + 1 by omega]
    exact hq
  rw [bef_iff nd g1 g2]
  exact decide_eq_true (by omega)
theorem bring {rs : HH.Row} {o : List Nat} (tl : ∀ x ∈ rs, 0 ≤ x.2) (k : Keeps rs o) : ∀ (n : Nat) (A u v : List Cow) (c : Cow) (ds : List Deed), u.length = n → MRun (tag 0 rs) (A ++ u ++ c :: v) ds → (∀ y ∈ u, bef o c.1 y.1 = true) → ∃ (u' : List Cow) (c' : Cow) (ds' : List Deed), MRun (tag 0 rs) (A ++ c' :: u' ++ v) ds' ∧ c'.1 = c.1 ∧ u'.map (·.1) = u.map (·.1)
  | 0, A, u, v, c, ds, hn, r, _ => by
    have : u = [] := List.length_eq_zero_iff.mp hn
    subst this
    exact ⟨[], c, ds, by simpa using r, rfl, rfl⟩
  | n + 1, A, u, v, c, ds, hn, r, hb => by
    obtain ⟨u1, y, rfl⟩ : ∃ u1 y, u = u1 ++ [y] := by
      rcases List.eq_nil_or_concat u with rfl | ⟨u1, y, rfl⟩
      · cases hn
      · exact ⟨u1, y, by rw [List.concat_eq_append]⟩
    have hn1 : u1.length = n := by
      rw [List.length_append] at hn
      have : u1.length + 1 = n + 1 := hn
      omega
    have e0 : A ++ (u1 ++ [y]) ++ c :: v = (A ++ u1) ++ y :: c :: v := by simp
    rw [e0] at r
    have nd := (run_ids tl r).nodup_iff.mpr List.nodup_range
    have b1 : bef (((A ++ u1) ++ y :: c :: v).map (·.1)) y.1 c.1 = true := by
      rw [ids_split] at nd ⊢
      exact bef_adj nd
    obtain ⟨M, dM, rM, hM⟩ := seen tl k r b1 (hb y (by simp))
    rcases move_of tl r rM hM with mv | mv
    · obtain ⟨u', c', ds', r', e1, e2⟩ := bring tl k n A u1 (y :: v) (c.1, (c.2.1 - y.2.2, c.2.2)) _ hn1 (.pass r mv) (fun z hz => hb z (by simp [hz]))
      exact ⟨u' ++ [y], c', ds', by simpa using r', e1, by rw [List.map_append, List.map_append, e2]⟩
    · obtain ⟨u', c', ds', r', e1, e2⟩ := bring tl k n A u1 ((y.1, (y.2.1 + c.2.2, y.2.2)) :: v) c _ hn1 (.fall r mv) (fun z hz => hb z (by simp [hz]))
      exact ⟨u' ++ [(y.1, (y.2.1 + c.2.2, y.2.2))], c', ds', by simpa using r', e1, by rw [List.map_append, List.map_append, e2]; rfl⟩
theorem reach_from {rs : HH.Row} {o : List Nat} (tl : ∀ x ∈ rs, 0 ≤ x.2) (k : Keeps rs o) : ∀ (todo done : List Nat) (A R : List Cow) (ds : List Deed), o = done ++ todo → MRun (tag 0 rs) (A ++ R) ds → A.map (·.1) = done → (R.map (·.1)).Perm todo → ∃ L ds', MRun (tag 0 rs) L ds' ∧ L.map (·.1) = o
  | [], done, A, R, ds, ho, r, hA, hR => by
    have : R = [] := by
      have := hR.length_eq
      rw [List.length_map] at this
      exact List.length_eq_zero_iff.mp this
    subst this
    exact ⟨A, ds, by simpa using r, by rw [hA, ho, List.append_nil]⟩
  | x :: todo, done, A, R, ds, ho, r, hA, hR => by
    have mx : x ∈ R.map (·.1) := hR.mem_iff.mpr (List.mem_cons_self ..)
    obtain ⟨c, hc, rfl⟩ := List.mem_map.mp mx
    obtain ⟨u, v, rfl⟩ := List.append_of_mem hc
    have nd := k.nd
    rw [ho] at nd
    have ndR : ((u ++ c :: v).map (·.1)).Nodup := hR.nodup_iff.mpr (List.nodup_append.mp nd).2.1
    have hb : ∀ y ∈ u, bef o c.1 y.1 = true := fun y hy => by
      rw [ho]
      refine bef_front nd ?_
      have my : y.1 ∈ c.1 :: todo := hR.mem_iff.mp (List.mem_map_of_mem (List.mem_append_left _ hy))
      rcases List.mem_cons.mp my with z | z
      · exfalso
        rw [List.map_append, List.nodup_append] at ndR
        exact ndR.2.2 y.1 (List.mem_map_of_mem hy) c.1 (List.mem_map_of_mem (List.mem_cons_self ..)) z
      · exact z
    obtain ⟨u', c', ds', r', e1, e2⟩ := bring tl k u.length A u v c ds rfl (by rw [List.append_assoc]; exact r) hb
    refine reach_from tl k todo (done ++ [c.1]) (A ++ [c']) (u' ++ v) ds' (by rw [ho, List.append_assoc]; rfl) (by simpa using r') (by rw [List.map_append, hA]; show done ++ [c'.1] = _; rw [e1]) ?_
    have p : ((u ++ c :: v).map (·.1)).Perm (c.1 :: (u ++ v).map (·.1)) := (List.perm_middle (l₁ := u) (l₂ := v) (a := c)).map _
    have p2 := p.symm.trans hR
    have p3 := List.Perm.cons_inv p2
    rw [List.map_append, e2, ← List.map_append]
    exact p3
theorem reach {rs : HH.Row} {o : List Nat} (tl : ∀ x ∈ rs, 0 ≤ x.2) (k : Keeps rs o) : ∃ L ds, MRun (tag 0 rs) L ds ∧ L.map (·.1) = o := reach_from tl k o [] [] (tag 0 rs) [] rfl .nil rfl (by rw [tag_ids]; exact k.ids.symm)
def standC (e : List Nat) (rs : HH.Row) (o : List Nat) : List Cow := o.map fun x => (x, (sS rs x - sP e rs (tab o rs.length rs.length) x, tS rs x))
theorem tab_none {rs : HH.Row} : tab ((tag 0 rs).map (·.1)) rs.length rs.length = [] := by
  rw [tag_ids]
  exact List.perm_nil.mp (told_tab (told_nil rs.length) (fun x hx => List.mem_range.mp hx)).symm
theorem run_row {rs : HH.Row} {E L : List Cow} {ds : List Deed} (tl : ∀ x ∈ rs, 0 ≤ x.2) (sE : Steps (tag 0 rs) E) (nE : Nf E) (r : MRun (tag 0 rs) L ds) : ∀ c ∈ L, c.2.1 = sS rs c.1 - sP (E.map (·.1)) rs (tab (L.map (·.1)) rs.length rs.length) c.1 ∧ c.2.2 = tS rs c.1 := by
  have t0 : ∀ x ∈ tag 0 rs, 0 ≤ x.2.2 := (good_tag tl).tl
  obtain ⟨B, sB, nB⟩ := ff_is t0
  have ndE : (E.map (·.1)).Nodup := sE.idsT.nodup_iff.mpr List.nodup_range
  induction r with
  | nil =>
    intro c hc
    obtain ⟨i, hi⟩ := List.getElem?_of_mem hc
    rw [tag_at] at hi
    cases hg : rs[i]? with
    | none =>
      rw [hg] at hi
      cases hi
    | some b =>
      rw [hg] at hi
      cases hi
      rw [tab_none, Nat.zero_add]
      have : sS rs i = b.1 ∧ tS rs i = b.2 := by
        unfold sS tS
        rw [hg]
        exact ⟨rfl, rfl⟩
      rw [this.1, this.2]
      exact ⟨(Int.sub_zero _).symm, rfl⟩
  | @pass pre post a b ds r hp ih =>
    have rN := MRun.pass r hp
    obtain ⟨tL, sLE, _⟩ := r.both t0 sE nE sB nB
    obtain ⟨_, sNE, _⟩ := rN.both t0 sE nE sB nB
    have idL := run_ids tl r
    have ndL := idL.nodup_iff.mpr List.nodup_range
    have ba := pass_ahead tL ndL hp sNE
    have lt : ∀ z ∈ (pre ++ a :: b :: post).map (·.1), z < rs.length := fun z hz => List.mem_range.mp (idL.mem_iff.mp hz)
    rw [ids_split] at ndL lt
    have hs := (hay_swap (n := rs.length) (rs := rs) ndE ndL lt).1 ba
    intro c hc
    have e2 : (pre ++ (b.1, (b.2.1 - a.2.2, b.2.2)) :: a :: post).map (·.1) = pre.map (·.1) ++ b.1 :: a.1 :: post.map (·.1) := by rw [List.map_append]; rfl
    rw [e2, (hs c.1).2]
    rw [ids_split] at ih
    have other : ∀ c ∈ pre ++ a :: b :: post, c.1 ≠ b.1 → c.2.1 = sS rs c.1 - (sP (E.map (·.1)) rs (tab (pre.map (·.1) ++ a.1 :: b.1 :: post.map (·.1)) rs.length rs.length) c.1 + (if c.1 = b.1 then tlN rs a.1 else 0)) ∧ c.2.2 = tS rs c.1 := fun c hc hn => by
      rw [if_neg hn]
      have := ih c hc
      exact ⟨by omega, this.2⟩
    have nb : ∀ c ∈ pre ++ a :: post, c.1 ≠ b.1 := fun c hc z => by
      have mem : c.1 ∈ pre.map (·.1) ++ a.1 :: post.map (·.1) := by
        rw [show pre.map (·.1) ++ a.1 :: post.map (·.1) = (pre ++ a :: post).map (·.1) by rw [List.map_append]; rfl]
        exact List.mem_map_of_mem hc
      have p : (pre.map (·.1) ++ a.1 :: b.1 :: post.map (·.1)).Perm (b.1 :: (pre.map (·.1) ++ a.1 :: post.map (·.1))) := by
        have := List.perm_middle (l₁ := pre.map (·.1) ++ [a.1]) (l₂ := post.map (·.1)) (a := b.1)
        simpa using this
      have ndp := p.nodup_iff.mp ndL
      rw [z] at mem
      exact (List.nodup_cons.mp ndp).1 mem
    rcases List.mem_append.mp hc with hc | hc
    · exact other c (List.mem_append_left _ hc) (nb c (List.mem_append_left _ hc))
    · rcases List.mem_cons.mp hc with rfl | hc
      · have ib := ih b (by simp)
        have ia := ih a (by simp)
        dsimp only
        rw [if_pos rfl, tlN_eq]
        exact ⟨by omega, ib.2⟩
      · refine other c ?_ (nb c (List.mem_append_right _ hc))
        rcases List.mem_cons.mp hc with rfl | hc
        · simp
        · simp [hc]
  | @fall pre post a b ds r hp ih =>
    have rN := MRun.fall r hp
    obtain ⟨tL, sLE, _⟩ := r.both t0 sE nE sB nB
    obtain ⟨tN, sNE, _⟩ := rN.both t0 sE nE sB nB
    have idL := run_ids tl r
    have ndL := idL.nodup_iff.mpr List.nodup_range
    have ndN := (run_ids tl rN).nodup_iff.mpr List.nodup_range
    have ba : bef (E.map (·.1)) a.1 b.1 = true := pass_ahead (a := b) (b := (a.1, (a.2.1 + b.2.2, a.2.2))) tN ndN (by dsimp only; omega) (by
      have e : (a.1, (a.2.1 + b.2.2 - b.2.2, a.2.2)) = a := by rw [Int.add_sub_cancel]
      dsimp only
      rw [e]
      exact sLE)
    have lt : ∀ z ∈ (pre ++ a :: b :: post).map (·.1), z < rs.length := fun z hz => List.mem_range.mp (idL.mem_iff.mp hz)
    rw [ids_split] at ndL lt
    have hs := (hay_swap (n := rs.length) (rs := rs) ndE ndL lt).2 ba
    intro c hc
    have e2 : (pre ++ b :: (a.1, (a.2.1 + b.2.2, a.2.2)) :: post).map (·.1) = pre.map (·.1) ++ b.1 :: a.1 :: post.map (·.1) := by rw [List.map_append]; rfl
    rw [e2, (hs c.1).2]
    rw [ids_split] at ih
    have other : ∀ c ∈ pre ++ a :: b :: post, c.1 ≠ a.1 → c.2.1 = sS rs c.1 - (sP (E.map (·.1)) rs (tab (pre.map (·.1) ++ a.1 :: b.1 :: post.map (·.1)) rs.length rs.length) c.1 - (if c.1 = a.1 then tlN rs b.1 else 0)) ∧ c.2.2 = tS rs c.1 := fun c hc hn => by
      rw [if_neg hn]
      have := ih c hc
      exact ⟨by omega, this.2⟩
    have na : ∀ c ∈ pre ++ b :: post, c.1 ≠ a.1 := fun c hc z => by
      have mem : c.1 ∈ pre.map (·.1) ++ b.1 :: post.map (·.1) := by
        rw [show pre.map (·.1) ++ b.1 :: post.map (·.1) = (pre ++ b :: post).map (·.1) by rw [List.map_append]; rfl]
        exact List.mem_map_of_mem hc
      have p : (pre.map (·.1) ++ a.1 :: b.1 :: post.map (·.1)).Perm (a.1 :: (pre.map (·.1) ++ b.1 :: post.map (·.1))) := List.perm_middle
      have ndp := p.nodup_iff.mp ndL
      rw [z] at mem
      exact (List.nodup_cons.mp ndp).1 mem
    rcases List.mem_append.mp hc with hc | hc
    · exact other c (List.mem_append_left _ hc) (na c (List.mem_append_left _ hc))
    · rcases List.mem_cons.mp hc with rfl | hc
      · exact other _ (by simp) (na _ (by simp))
      · rcases List.mem_cons.mp hc with rfl | hc
        · have ib := ih b (by simp)
          have ia := ih a (by simp)
          dsimp only
          rw [if_pos rfl, tlN_eq]
          exact ⟨by omega, ia.2⟩
        · exact other c (by simp [hc]) (na c (by simp [hc]))
theorem run_is {rs : HH.Row} {E L : List Cow} {ds : List Deed} (tl : ∀ x ∈ rs, 0 ≤ x.2) (sE : Steps (tag 0 rs) E) (nE : Nf E) (r : MRun (tag 0 rs) L ds) : L = standC (E.map (·.1)) rs (L.map (·.1)) := by
  unfold standC
  rw [List.map_map]
  refine (List.map_id L).symm.trans (List.map_congr_left fun c hc => ?_)
  obtain ⟨h1, h2⟩ := run_row tl sE nE r c hc
  obtain ⟨x, s, t⟩ := c
  dsimp only at h1 h2
  show (x, (s, t)) = (x, (_, _))
  rw [h1, h2]
end HH
set_option maxHeartbeats 4000000
namespace HH
open PySem PySem.Spec PyProof.Rows L2 Evl
structure CellP (H0 H : Hp) (as : List Addr) (t p : Nat → Int) : Prop where
  nd : as.Nodup
  old : ∀ a ∈ as, H0 a = none
  at' : ∀ (i : Nat) (a : Addr), as[i]? = some a → H a = some (.lst [.int (t i), .int (p i)])
theorem CellP.ex {H0 H H' : Hp} {as : List Addr} {t p : Nat → Int} (h : CellP H0 H as t p) (e : Ex H H') : CellP H0 H' as t p := ⟨h.nd, h.old, fun i a ha => e _ _ (h.at' i a ha)⟩
theorem CellP.app {H0 H : Hp} {as : List Addr} {T : Addr} (h : CellP H0 H as (fun _ => 0) (fun _ => 0)) (h0 : H0 T = none) (hT : H T = none) : CellP H0 (upd H T (.lst [.int 0, .int 0])) (as ++ [T]) (fun _ => 0) (fun _ => 0) := by
  have nT : T ∉ as := fun m => by
    obtain ⟨i, hi⟩ := List.getElem?_of_mem m
    rw [h.at' i T hi] at hT
    cases hT
  refine ⟨List.nodup_append.mpr ⟨h.nd, by simp, fun x hx y hy e => nT (by rw [List.mem_singleton] at hy; rw [← hy, ← e]; exact hx)⟩, fun a ha => ?_, fun i a ha => ?_⟩
  · rcases List.mem_append.mp ha with m | m
    · exact h.old a m
    · rw [List.mem_singleton.mp m]
      exact h0
  · by_cases c : i < as.length
    · rw [List.getElem?_append_left c] at ha
      rw [upd_ne (fun z => nT (by rw [← z]; exact List.mem_of_getElem? ha))]
      exact h.at' i a ha
    · have hlt : i < (as ++ [T]).length := (List.getElem?_eq_some_iff.mp ha).1
      rw [List.length_append] at hlt
      have hlt : i < as.length + 1 := hlt
      have e : i = as.length := by omega
      rw [e, List.getElem?_append_right (Nat.le_refl _), Nat.sub_self] at ha
      cases ha
      exact upd_same
theorem CellP.ne {H0 H : Hp} {as : List Addr} {t p : Nat → Int} (h : CellP H0 H as t p) {i k : Nat} {a c : Addr} (ha : as[i]? = some a) (hc : as[k]? = some c) (n : k ≠ i) : c ≠ a := fun z => by
  subst z
  have h1 := (List.getElem?_eq_some_iff.mp ha).1
  exact n ((List.getElem?_inj h1 h.nd).mp (ha.trans hc.symm)).symm
section
variable {K : PySem.W.Frag} {σ : L2.St} {H : Hp} {te : TE} {v : V} {Q : VK} {j : Nat} {vs : List Nat}
end
section
variable {K : PySem.W.Frag} {σ : L2.St} {H H0 : Hp} {tf tx tv : TE} {D : Ends} {fa a : Addr} {as : List Addr} {t p : Nat → Int} {i : Nat} {d : Int}
end
end HH
set_option maxHeartbeats 4000000
namespace HH
open PySem PySem.Spec PyProof.Rows L2 Evl
section
variable {e : List Nat} {rs ps : HH.Row} {i j n : Nat}
end
section
variable {K : PySem.W.Frag} {σ : L2.St} {H : Hp} {te t1 t2 : TE} {o : Addr} {l : List Nat} {j : Nat} {vs : List Nat}
end
end HH
set_option maxHeartbeats 4000000
namespace HH
open PySem PySem.Spec PyProof.Rows L2
section
variable {w : World} {P : Program} {s : Shared} {A : Around} {E : Value → Shared → Prop}
end
section
variable {X : Cx}
end
end HH
set_option maxHeartbeats 4000000
namespace HH
open PySem PySem.Spec PyProof.Rows L2 Evl RZ
end HH
set_option maxHeartbeats 4000000
namespace HH
open PySem PySem.Spec PyProof.Rows L2 Evl RZ
structure Cells (H0 H : Hp) (as : List Addr) (ll : Nat → List Nat) : Prop where
  nd : as.Nodup
  old : ∀ a ∈ as, H0 a = none
  at' : ∀ (i : Nat) (a : Addr), as[i]? = some a → H a = some (.lst (natsV (ll i)))
theorem Cells.ex {H0 H H' : Hp} {as : List Addr} {ll : Nat → List Nat} (h : Cells H0 H as ll) (e : Ex H H') : Cells H0 H' as ll := ⟨h.nd, h.old, fun i a ha => e _ _ (h.at' i a ha)⟩
theorem Cells.congr {H0 H : Hp} {as : List Addr} {ll lm : Nat → List Nat} (h : Cells H0 H as ll) (e : ∀ i, i < as.length → lm i = ll i) : Cells H0 H as lm := ⟨h.nd, h.old, fun i a ha => by
  rw [e i (List.getElem?_eq_some_iff.mp ha).1]
  exact h.at' i a ha⟩
theorem Cells.put {H0 H : Hp} {as : List Addr} {ll lm : Nat → List Nat} {i : Nat} {a : Addr} {l : List Nat} (h : Cells H0 H as ll) (ha : as[i]? = some a) (h1 : lm i = l) (h2 : ∀ k, k ≠ i → lm k = ll k) : Cells H0 (upd H a (.lst (natsV l))) as lm := ⟨h.nd, h.old, fun k c hc => by
  by_cases z : k = i
  · subst z
    rw [ha] at hc
    cases hc
    rw [h1]
    exact upd_same
  · have ne : c ≠ a := fun e => by
      subst e
      obtain ⟨g1, g2⟩ := List.getElem?_eq_some_iff.mp hc
      exact z ((List.getElem?_inj g1 h.nd).mp (hc.trans ha.symm))
    rw [upd_ne ne, h2 k z]
    exact h.at' k c hc⟩
theorem Cells.app {H0 H : Hp} {as : List Addr} {p : Addr} (h : Cells H0 H as fun _ => []) (h0 : H0 p = none) (hp : H p = none) : Cells H0 (upd H p (.lst [])) (as ++ [p]) fun _ => [] := by
  have np : p ∉ as := fun z => by
    obtain ⟨i, hi⟩ := List.mem_iff_getElem?.mp z
    have := h.at' i p hi
    rw [hp] at this
    cases this
  refine ⟨?_, fun a ha => ?_, fun i a ha => ?_⟩
  · rw [List.nodup_append]
    exact ⟨h.nd, List.pairwise_singleton _ p, fun a ha b hb e => np (by rw [List.mem_singleton.mp hb] at e; rw [← e]; exact ha)⟩
  · rcases List.mem_append.mp ha with ha | ha
    · exact h.old a ha
    · rw [List.mem_singleton.mp ha]
      exact h0
  · by_cases hi : i < as.length
    · rw [List.getElem?_append_left hi] at ha
      have ne : a ≠ p := fun e => np (by rw [← e]; exact List.mem_of_getElem? ha)
      rw [upd_ne ne]
      exact h.at' i a ha
    · rw [List.getElem?_append_right (by omega)] at ha
      match e : i - as.length, ha with
      | 0, ha =>
        cases ha
        exact upd_same
      | k + 1, ha => cases ha
section
variable {K : PySem.W.Frag} {σ : L2.St} {H : Hp} {D : Ends} {tz tu : TS}
end
end HH
set_option maxHeartbeats 4000000
namespace HH
open PySem PySem.Spec PyProof.Rows L2 Evl RZ
structure WantsD (rs : HH.Row) (who m : Nat) (kvs : List (Key × V)) : Prop where
  val : ∀ j : Nat, who ≤ j + m → j < who → valV kvs (.inl (j : Int)) = some (.int (barN rs j (who - j - 1) + 1))
  key : ∀ kv ∈ kvs, ∃ j : Nat, kv.1 = .inl (j : Int) ∧ j < who ∧ who ≤ j + m
  len : kvs.length ≤ m
theorem WantsD.nil (rs : HH.Row) (who : Nat) : WantsD rs who 0 [] := ⟨fun j h1 h2 => by omega, (fun kv h => nomatch h), Nat.le_refl _⟩
theorem WantsD.put {rs : HH.Row} {who m : Nat} {kvs : List (Key × V)} (w : WantsD rs who m kvs) (hm : m < who) : WantsD rs who (m + 1) (putK kvs (.inl ((who - 1 - m : Nat) : Int)) (.int (barN rs (who - 1 - m) m + 1))) := by
  have no : valV kvs (.inl ((who - 1 - m : Nat) : Int)) = none := by
    cases c : valV kvs (.inl ((who - 1 - m : Nat) : Int)) with
    | none => rfl
    | some x =>
      exfalso
      have z := valV_any (Sum.inl ((who - 1 - m : Nat) : Int)) kvs
      rw [c] at z
      obtain ⟨kv, hkv, e⟩ := List.any_eq_true.mp z
      obtain ⟨j, e2, h1, h2⟩ := w.key kv hkv
      have e3 : kv.1 = .inl ((who - 1 - m : Nat) : Int) := of_decide_eq_true e
      rw [e2] at e3
      injection e3 with e3
      omega
  refine ⟨fun j h1 h2 => ?_, fun kv hkv => ?_, ?_⟩
  · rw [valV_put]
    by_cases c : j = who - 1 - m
    · rw [if_pos (by rw [c]), c, show who - (who - 1 - m) - 1 = m by omega]
    · rw [if_neg (fun z => c (by injection z with z; omega))]
      exact w.val j (by omega) h2
  · rw [putK_new _ no] at hkv
    rcases List.mem_append.mp hkv with h | h
    · obtain ⟨j, a, b, c⟩ := w.key kv h
      exact ⟨j, a, b, by omega⟩
    · rw [List.mem_singleton.mp h]
      exact ⟨who - 1 - m, rfl, by omega, by omega⟩
  · rw [putK_new _ no, List.length_append]
    have := w.len
    show kvs.length + 1 ≤ _
    omega
end HH
set_option maxHeartbeats 4000000
namespace HH
open PySem PySem.Spec PyProof.Rows L2 Evl RZ
section
variable {K : PySem.W.Frag} {σ : L2.St} {H H' : Hp} {ta tb te : TE} {v : V} {Q : VK}
end
end HH
set_option maxHeartbeats 4000000
namespace HH
open PySem PySem.Spec PyProof.Rows L2 Evl RZ
section
variable {K : PySem.W.Frag} {σ : L2.St} {H : Hp} {te ta tb : TE} {t : TT}
end
end HH
namespace HH
open PySem PySem.Spec PyProof.Rows L2 Evl RZ
section
variable {K : PySem.W.Frag} {σ : L2.St} {H : Hp} {te : TE}
theorem eu_tupL {xs : List V} (h : EvL te σ H xs) : EvU (tThen te (kTup K)) σ H xs := fun H1 e Q q => h H1 e _ fun l H2 hl e2 g2 => .inl ⟨l, xs, rfl, sq_of g2, fun p hp => q p _ (fresh_back e2 hp) (e2.trans (Ex.new hp)) upd_same⟩
end
end HH
namespace HH
open PySem PySem.Spec PyProof.Rows L2 Evl RZ
end HH
namespace HH
open PySem PySem.Spec PyProof.Rows L2 Evl RZ
end HH
set_option maxHeartbeats 4000000
namespace HH
open PySem PySem.Spec PyProof.Rows L2 Evl
theorem went_of {K : PySem.W.Frag} {H : Hp} {v : V} {o : Addr} {rs : HH.Row} {l : List Nat} (hv : RowAt K H v rs) (hl : rs.length ≤ 30) (tl : ∀ x ∈ rs, 0 ≤ x.2) (ho : SqT K H o (natsV l)) (k : Keeps rs l) : ∃ L, Went K H v o rs L ∧ L.map (·.1) = l := by
  obtain ⟨L, ds, r, rfl⟩ := reach tl k
  exact ⟨L, ⟨hv, hl, tl, ho, ds, r⟩, rfl⟩
end HH
set_option maxHeartbeats 4000000
namespace HH
open PySem PySem.Spec PyProof.Rows Srt SrtO
def IsDeed (h : Heap) (v : Value) (b : Bool) (y : Int) : Prop := ∃ a o t u n, v = .ref a ∧ h.get? a = some o ∧ o.cls = .type "tuple" ∧ o.data = .seq #[.str (wordOf b) t, .int y u] n
theorem IsDeed.keeps {h h' : Heap} {v : Value} {b : Bool} {y : Int} (p : IsDeed h v b y) (k : ∀ b o, h.get? b = some o → o.cls = .type "tuple" → h'.get? b = some o) : IsDeed h' v b y := by
  obtain ⟨a, o, t, u, n, e, ho, hc, hd⟩ := p
  exact ⟨a, o, t, u, n, e, k _ _ ho hc, hc, hd⟩
theorem deed_firsts {h : Heap} : ∀ {vs : List Value}, (∀ v ∈ vs, ∃ x y, IsDeed h v x y) → ∃ fs : List Value, PySem.W.KatTups h vs fs ∧ fs.length = vs.length ∧ ∀ f ∈ fs, ∃ x t, f = Value.str x t
  | [], _ => ⟨[], PySem.W.KatTups.nil, rfl, fun _ hm => by simp at hm⟩
  | v :: vs, hp => by
    obtain ⟨fs, h1, h2, h3⟩ := deed_firsts (vs := vs) fun v' hm => hp v' (List.mem_cons_of_mem _ hm)
    obtain ⟨x, y, a, o, t, u, n, e, ho, hc, hd⟩ := hp v (List.mem_cons_self ..)
    subst e
    refine ⟨.str (wordOf x) t :: fs, PySem.W.KatTups.cons ho hc hd rfl h1, by rw [List.length_cons, List.length_cons, h2], fun f hm => ?_⟩
    rcases List.mem_cons.mp hm with rfl | hm
    · exact ⟨_, t, rfl⟩
    · exact h3 f hm
def deedK (d : Bool × Int) : Int × Int := (if d.1 then 1 else 0, d.2)
theorem word_lt (b c : Bool) : decide ((wordOf b).cps.toList < (wordOf c).cps.toList) = decide ((if b then (1 : Int) else 0) < (if c then 1 else 0)) := by
  cases b <;> cases c <;> decide +kernel
theorem word_eq (b c : Bool) : ((wordOf b == wordOf c) = true) ↔ b = c := by
  cases b <;> cases c <;> decide +kernel
section
variable {prog : Program} {w : World} {A : Around} {E : Value → Shared → Prop} {s : Shared}
theorem deed_cmp {vs : List Value} {k : Value → Bool × Int} (hp : ∀ v ∈ vs, IsDeed s.heap v (k v).1 (k v).2) : Cmp prog w A s (tuples' true) (fun p => p.1 ∈ vs) (lt2 fun v u => lexB (deedK (k v)) (deedK (k u))) := by
  intro p q hm hm'
  have h1 := hp _ hm
  have h2 := hp _ hm'
  show wpAny (model prog w) A (keyLt' (tuples' true) p.1 q.1) (fun r s' => s' = s ∧ r = lexB (deedK (k p.1)) (deedK (k q.1))) (fun _ _ => False) s
  unfold lexB deedK
  dsimp only
  generalize (k p.1).1 = x at h1 ⊢
  generalize (k p.1).2 = y at h1 ⊢
  generalize (k q.1).1 = x' at h2 ⊢
  generalize (k q.1).2 = y' at h2 ⊢
  obtain ⟨a, o, t, u, n, e, ho, hc, hd⟩ := h1
  obtain ⟨a', o', t', u', n', e', ho', hc', hd'⟩ := h2
  rw [e, e']
  refine PySem.W.kat_lt ho hd ho' hd' ?_
  show PySem.W.KatLex prog w A true (decide (2 < 2)) _ [(.str (wordOf x) t, .str (wordOf x') t'), (.int y u, .int y' u')] 0 s
  refine PySem.W.kat_cons (SeqAt.EqAt.str_str (wordOf x) t (wordOf x') t' prog w _ _ ?_)
  refine PySem.W.kat_go (fun e1 => ?_) (fun e1 => ?_)
  · have ex : x = x' := (word_eq x x').mp (by simpa using e1)
    subst ex
    refine PySem.W.kat_yes (PySem.W.kat_cons (SeqAt.EqAt.int_int y u y' u' prog w _ _ ?_))
    refine PySem.W.kat_go (fun e2 => ?_) (fun e2 => ?_)
    · have ey : y = y' := by simpa using e2
      refine PySem.W.kat_yes (PySem.W.kat_nil ⟨rfl, ?_⟩)
      rw [if_pos rfl, ey]
      exact (decide_eq_false (Int.lt_irrefl _)).symm
    · refine PySem.W.kat_no (PySem.W.kat_one _ _ (PyProof.Rows.lt_int ?_))
      exact (show s = s ∧ decide (y < y') = _ from ⟨rfl, (if_pos rfl).symm⟩)
  · have ex : ¬ x = x' := fun z => by
      have := (word_eq x x').mpr z
      rw [this] at e1
      cases e1
    have ex2 : ¬ (if x then (1 : Int) else 0) = (if x' then 1 else 0) := fun z => ex (by cases x <;> cases x' <;> first | rfl | cases z)
    refine PySem.W.kat_no (oneLt_any_str ⟨rfl, ?_⟩)
    rw [if_neg ex2]
    exact word_lt x x'
theorem deeds_sortableO {a : Addr} {vs : List Value} {k : Value → Bool × Int} (h0 : 0 < vs.length) (hp : ∀ v ∈ vs, IsDeed s.heap v (k v).1 (k v).2) (ha : ∀ o, s.heap.get? a = some o → o.cls ≠ .type "tuple") : SortableO prog w A s a vs fun v u => lexB (deedK (k v)) (deedK (k u)) := by
  intro h' keep
  have hp' : ∀ v ∈ vs, IsDeed h' v (k v).1 (k v).2 := fun v hm => (hp v hm).keeps fun b o e c => keep b o (fun z => by subst z; exact ha o e c) e
  obtain ⟨fs, h1, h2, h3⟩ := deed_firsts fun v hm => ⟨_, _, hp' v hm⟩
  refine ⟨tuples' true, fun Q E hq => ?_, deed_cmp hp'⟩
  refine PySem.W.kat_kind (T := .type "str") h1 (by omega) (fun f hm => ?_) (by rfl) ?_
  · obtain ⟨x, t, rfl⟩ := h3 f hm
    exact PySem.W.Looks.now
  · have e : (Value.type "str" != Value.type "tuple") = true := by first | decide +kernel | rfl | decide
    rw [e]
    exact hq
theorem sorted_deedsO {l : Addr} {vs : List Value} {k : Value → Bool × Int} {Q : Value → Shared → Prop} (hl : s.heap.IsList l vs.toArray) (hz : vs.length ≤ sizeLine) (hp : ∀ v ∈ vs, IsDeed s.heap v (k v).1 (k v).2)
    (h : ∀ (h' : Heap) (d : Addr) (out : List Value), Srtd (fun v u => lexB (deedK (k v)) (deedK (k u))) out → out.Perm vs → (∀ b o, s.heap.get? b = some o → h'.get? b = some o) → s.heap.objs.size ≤ d → (∃ n, h'.get? d = some (seqObj "list" out.toArray n)) → Q (.ref d) { s with heap := h' }) :
    wpAny (model prog w) A (call (.builtin "sorted") [.ref l]) Q E s := by
  refine sorted_ord (swo_lex fun v => deedK (k v)) hl hz (fun h2 h₁ a ha kk => ?_) fun out hs hb => ?_
  · refine deeds_sortableO (s := { s with heap := h₁ }) (by omega) (fun v hm => (hp v hm).keeps fun b o e _ => (kk b o e).2) fun o e => ?_
    have e' : some o = some (seqObj "list" vs.toArray 0) := e.symm.trans ha
    cases e'
    intro c
    exact absurd (Value.type.inj c) (by decide)
  · exact h _ _ out hs hb.perm (fun b o e => sortedAll_old e) (Nat.le_succ _) (sortedAll_at s.heap vs out.toArray)
end
open L2 Evl
def deedL (d e : Deed) : Prop := (d.1 = false ∧ e.1 = true) ∨ (d.1 = e.1 ∧ d.2 < e.2)
def rSortedDd (K : PySem.W.Frag) : List V → Hp → VK → Prop := fun vs H Q => ∃ (a : Addr) (xs : List V) (ds : List Deed), vs = [V.ref a] ∧ SqL K H a xs ∧ All2 (DeedAt K H) xs ds ∧
  ∀ (ys : List V) (es : List Deed) (p : Addr), All2 (DeedAt K H) ys es → es.Perm ds → es.Pairwise (fun b c => ¬ deedL c b) → H p = none → Q (.ref p) (upd H p (.lst ys))
open Classical in
noncomputable def deedVal (h : Heap) (v : Value) : Bool × Int := if e : ∃ d : Deed, IsDeed h v d.1 (d.2 : Int) then (e.choose.1, (e.choose.2 : Int)) else (false, 0)
theorem isDeed_inj {h : Heap} {v : Value} {b c : Bool} {x y : Int} (p : IsDeed h v b x) (q : IsDeed h v c y) : b = c ∧ x = y := by
  obtain ⟨a, o, t, u, n, e, ho, hc, hd⟩ := p
  obtain ⟨a', o', t', u', n', e', ho', hc', hd'⟩ := q
  rw [e] at e'
  cases e'
  rw [ho] at ho'
  cases ho'
  rw [hd] at hd'
  have z := (Data.seq.inj hd').1
  have z1 := congrArg (fun (l : Array Value) => l[0]?) z
  have z2 := congrArg (fun (l : Array Value) => l[1]?) z
  have y1 : Value.str (wordOf b) t = Value.str (wordOf c) t' := Option.some.inj z1
  have y2 : Value.int x u = Value.int y u' := Option.some.inj z2
  cases y2
  refine ⟨(word_eq b c).mp ?_, rfl⟩
  have := (Value.str.inj y1).1
  rw [this]
  cases c <;> decide +kernel
theorem deedVal_is {h : Heap} {v : Value} {d : Deed} (p : IsDeed h v d.1 (d.2 : Int)) : deedVal h v = (d.1, (d.2 : Int)) := by
  unfold deedVal
  have e : ∃ d : Deed, IsDeed h v d.1 (d.2 : Int) := ⟨d, p⟩
  rw [dif_pos e]
  obtain ⟨h1, h2⟩ := isDeed_inj e.choose_spec p
  rw [h1, h2]
section
variable {X : Cx}
theorem deed_at {pins : List (Addr × Obj)} {σ : L2.St} {H : Hp} {s : Shared} {x : V} {u : Value} {d : Deed} (I : Inv X pins σ H s) (r : RelV x u) (h : DeedAt X.K H x d) : IsDeed s.heap u d.1 (d.2 : Int) ∧ ∃ p, u = .ref p ∧ x = .ref p := by
  obtain ⟨p, rfl, hp⟩ := h
  obtain rfl : u = Value.ref p := r
  obtain ⟨its, rv, ⟨o, ho, hc, n, hd⟩, hz⟩ := I.tuple hp
  obtain ⟨u1, u2, rfl, ri, rj⟩ := vals2 rv
  obtain ⟨t1, rfl⟩ := ri
  obtain ⟨t2, rfl⟩ := rj
  exact ⟨⟨p, o, t1, t2, n, rfl, ho, hc, hd⟩, p, rfl, rfl⟩
theorem cr_sortedDd {K : PySem.W.Frag} (hK : X.K = K := by rfl) : CallR X (.builtin "sorted") (rSortedDd K) := by
  subst hK
  intro pins s σ H vs us Q I r h
  obtain ⟨a, xs, ds, rfl, hs, hb, q⟩ := h
  obtain ⟨its, rv, hl, hz⟩ := I.list hs
  obtain ⟨u, rfl, ru⟩ := vals1 r
  obtain rfl : u = Value.ref a := ru
  have pr : ∀ (xs : List V) (its : List Value) (ds : List Deed), Vals xs its → All2 (DeedAt X.K H) xs ds → (∀ u ∈ its, ∃ d : Deed, IsDeed s.heap u d.1 (d.2 : Int) ∧ ∃ p, u = Value.ref p ∧ DeedAt X.K H (.ref p) d) ∧ its.map (deedVal s.heap) = ds.map fun d => (d.1, (d.2 : Int)) := by
    intro xs its ds rv hb
    induction hb generalizing its with
    | nil =>
      cases rv
      exact ⟨fun u hu => absurd hu (List.not_mem_nil), rfl⟩
    | cons h1 h2 ih =>
      cases rv with
      | cons r1 r2 =>
        obtain ⟨i1, i2⟩ := ih _ r2
        obtain ⟨e1, p, e2, e3⟩ := deed_at I r1 h1
        refine ⟨fun u hu => ?_, ?_⟩
        · rcases List.mem_cons.mp hu with hu | hu
          · rw [hu]
            exact ⟨_, e1, p, e2, e3 ▸ h1⟩
          · exact i1 u hu
        · rw [List.map_cons, List.map_cons, i2, deedVal_is e1]
  obtain ⟨each, emap⟩ := pr xs its ds rv hb
  refine sorted_deedsO (k := deedVal s.heap) hl.isList (by rw [← rv.length]; exact hz) (fun v hv => ?_) fun h' d out h1 h2 kp hd hn => ?_
  · obtain ⟨e, he, _⟩ := each v hv
    rw [deedVal_is he]
    exact he
  have hmem : ∀ u ∈ out, u ∈ its := fun u hu => h2.mem_iff.mp hu
  obtain ⟨n, hn⟩ := hn
  have h3 : ∀ u ∈ out, ∃ a, u = Value.ref a := fun u hu => by
    obtain ⟨_, _, p, e, _⟩ := each u (hmem u hu)
    exact ⟨p, e⟩
  have hol : out.length = its.length := h2.length_eq
  have pr2 : ∀ out : List Value, (∀ u ∈ out, u ∈ its) → ∃ es : List Deed, All2 (DeedAt X.K H) (out.map backV) es ∧ out.map (deedVal s.heap) = es.map fun d => (d.1, (d.2 : Int)) := by
    intro out
    induction out with
    | nil => exact fun _ => ⟨[], .nil, rfl⟩
    | cons u out ih =>
      intro hm
      obtain ⟨es, g1, g2⟩ := ih fun x hx => hm x (List.mem_cons_of_mem _ hx)
      obtain ⟨e, he, p, rfl, hB⟩ := each u (hm u (List.mem_cons_self ..))
      exact ⟨e :: es, .cons hB g1, by rw [List.map_cons, List.map_cons, g2, deedVal_is he]⟩
  obtain ⟨es, g1, g2⟩ := pr2 out hmem
  refine ⟨.ref d, upd H d (.lst (out.map backV)), I.laid (t' := s.toks) kp hd ⟨?_, out, n, vals_back h3, hn⟩, rfl, q _ es d g1 ?_ ?_ (I.hok.fresh hd)⟩
  · rw [List.length_map, hol, ← rv.length]
    exact hz
  · have p := h2.map (deedVal s.heap)
    rw [emap, g2] at p
    have := p.map fun (d : Bool × Int) => ((d.1, d.2.toNat) : Deed)
    rw [List.map_map, List.map_map] at this
    have e : ((fun (d : Bool × Int) => ((d.1, d.2.toNat) : Deed)) ∘ fun (d : Deed) => (d.1, (d.2 : Int))) = id := funext fun d => rfl
    rw [e, List.map_id, List.map_id] at this
    exact this
  · have h1' : (out.map (deedVal s.heap)).Pairwise (fun v u => lexB (deedK u) (deedK v) = false) := List.pairwise_map.mpr h1
    rw [g2] at h1'
    refine List.Pairwise.imp (fun {u v} hh => ?_) (List.pairwise_map.mp h1')
    have := lexB_no.mp hh
    intro z
    refine this ?_
    unfold deedK
    dsimp only
    rcases z with ⟨z1, z2⟩ | ⟨z1, z2⟩
    · rw [z1, z2]
      exact .inl (by decide)
    · rw [z1]
      exact .inr ⟨rfl, by omega⟩
end
theorem sortDd_one {ps qs : List Deed} (h : qs.Perm ps) (h1 : qs.Pairwise (fun b c => ¬ deedL c b)) (h2 : ps.Pairwise (fun b c => ¬ deedL c b)) : qs = ps := by
  refine h.eq_of_pairwise (fun b c _ _ g1 g2 => ?_) h1 h2
  unfold deedL at g1 g2
  obtain ⟨b1, b2⟩ := b
  obtain ⟨c1, c2⟩ := c
  dsimp only at g1 g2
  have e1 : b1 = c1 := by cases b1 <;> cases c1 <;> simp_all
  subst e1
  have e2 : b2 = c2 := by
    by_cases l : b2 < c2
    · exact absurd (.inr ⟨rfl, l⟩) g2
    · by_cases l2 : c2 < b2
      · exact absurd (.inr ⟨rfl, l2⟩) g1
      · omega
  rw [e2]
end HH
set_option maxHeartbeats 4000000
namespace HH
open PySem PySem.Spec PyProof.Rows L2 Evl
def Again (l1 l2 s : List Nat) : Prop := l2 = s.map (ixN l1) ∧ ∀ x ∈ s, x < l1.length
theorem keeps_again {rs : HH.Row} {L1 L2 : List Cow} {d1 d2 : List Deed} {s : List Nat} (tl : ∀ x ∈ rs, 0 ≤ x.2) (r1 : MRun (tag 0 rs) L1 d1) (r2 : MRun (tag 0 rs) L2 d2) (a : Again (L1.map (·.1)) (L2.map (·.1)) s) : Keeps (rowsOf L1) s := by
  have t0 : ∀ x ∈ tag 0 rs, 0 ≤ x.2.2 := (good_tag tl).tl
  obtain ⟨E, sE, nE⟩ := nf_is t0
  obtain ⟨B, sB, nB⟩ := ff_is t0
  obtain ⟨t1, s1E, s1B⟩ := r1.both t0 sE nE sB nB
  obtain ⟨t2, s2E, s2B⟩ := r2.both t0 sE nE sB nB
  have id1 := run_ids tl r1
  have id2 := run_ids tl r2
  have nd1 : (L1.map (·.1)).Nodup := id1.nodup_iff.mpr List.nodup_range
  have nd2 : (L2.map (·.1)).Nodup := id2.nodup_iff.mpr List.nodup_range
  have len1 : (L1.map (·.1)).length = rs.length := by rw [id1.length_eq, List.length_range]
  have lenR : (rowsOf L1).length = rs.length := by rw [cow_len, ← len1, List.length_map]
  have nds : s.Nodup := by
    have := nd2
    rw [a.1] at this
    exact List.Pairwise.of_map _ (fun x y h e => h (by rw [e])) this
  have ids : s.Perm (List.range (rowsOf L1).length) := by
    refine (List.perm_ext_iff_of_nodup nds List.nodup_range).mpr fun x => ?_
    rw [List.mem_range, lenR]
    constructor
    · intro h
      have := a.2 x h
      omega
    · intro h
      have g := ixN_at (l := L1.map (·.1)) (p := x) (by omega)
      have m1 : ixN (L1.map (·.1)) x ∈ L2.map (·.1) := id2.mem_iff.mpr (id1.mem_iff.mp (List.mem_of_getElem? g))
      rw [a.1] at m1
      obtain ⟨y, hy, e⟩ := List.mem_map.mp m1
      have := ixN_inj nd1 (a.2 y hy) (by omega) e
      rw [← this]
      exact hy
  refine ⟨ids, fun E' B' sE' nE' sB' nB' i j h1 h2 h3 h4 => ?_⟩
  obtain ⟨Y, sY, eY⟩ := s1E.unmap (rl_tag L1).symm
  obtain ⟨Z, sZ, eZ⟩ := s1B.unmap (rl_tag L1).symm
  have tR : ∀ x ∈ tag 0 (rowsOf L1), 0 ≤ x.2.2 := (good_tag (tolls_rows t1)).tl
  have nY : Nf Y := by
    rw [eY] at nE
    exact nf_un nE
  have nZ : Ff Z := by
    rw [eZ] at nB
    exact ff_un nB
  rw [nf_any tR sE' nE' sY nY] at h3
  rw [ff_any tR sB' nB' sZ nZ] at h4
  have idY := sY.ids
  have idZ := sZ.ids
  rw [tag_ids] at idY idZ
  have inj : ∀ (l : List Nat), (∀ x ∈ l, x < rs.length) → ∀ k, k < rs.length → ∀ x ∈ l, ixN (L1.map (·.1)) x = ixN (L1.map (·.1)) k → x = k := fun l hl k hk x hx e => ixN_inj nd1 (by have := hl x hx; omega) (by omega) e
  have inY : ∀ x ∈ Y.map (·.1), x < rs.length := fun x hx => by
    have := List.mem_range.mp (idY.mem_iff.mp hx)
    omega
  have inZ : ∀ x ∈ Z.map (·.1), x < rs.length := fun x hx => by
    have := List.mem_range.mp (idZ.mem_iff.mp hx)
    omega
  have inS : ∀ x ∈ s, x < rs.length := fun x hx => by
    have := a.2 x hx
    omega
  have hj : j < rs.length := by omega
  have hi : i < rs.length := by omega
  have bE : bef (E.map (·.1)) (ixN (L1.map (·.1)) i) (ixN (L1.map (·.1)) j) = true := by
    rw [eY, rl_ids, bef_map (inj _ inY i hi) (inj _ inY j hj)]
    exact bef_tot (idY.mem_iff.mpr (List.mem_range.mpr h2)) (idY.mem_iff.mpr (List.mem_range.mpr (by omega))) (by omega) h3
  have bB : bef (B.map (·.1)) (ixN (L1.map (·.1)) i) (ixN (L1.map (·.1)) j) = true := by
    rw [eZ, rl_ids, bef_map (inj _ inZ i hi) (inj _ inZ j hj)]
    exact bef_tot (idZ.mem_iff.mpr (List.mem_range.mpr h2)) (idZ.mem_iff.mpr (List.mem_range.mpr (by omega))) (by omega) h4
  have ndB : (B.map (·.1)).Nodup := by
    have := sB.ids
    rw [tag_ids] at this
    exact this.nodup_iff.mpr List.nodup_range
  have mid := mid_keeps (sB.tl t0) ndB s2B.back s2E bB bE
  rw [a.1, bef_map (inj _ inS i hi) (inj _ inS j hj)] at mid
  exact bef_asym nds mid
def adjL (l : List Nat) (n : Nat) : List Nat := (List.range n).filter fun p => bef l (p + 1) p
def fallB (rs : HH.Row) (p : Nat) : Bool := decide (p + 1 < rs.length) && fallsN rs p
def nearD (rs : HH.Row) (l : List Nat) : List Deed := ((adjL l (rs.length - 1)).filter (fallB rs)).map (fun p => (false, p)) ++ ((adjL l (rs.length - 1)).filter fun p => letsN rs (p + 1)).map (fun p => (true, p + 1))
def dueD (rs : HH.Row) (l : List Nat) (n : Nat) : List Deed := (adjL l n).map fun p => if letsN rs (p + 1) then (true, p + 1) else (false, p)
theorem one_move {rs : HH.Row} {M : List Cow} {ds : List Deed} {p : Nat} (tl : ∀ x ∈ rs, 0 ≤ x.2) (r : MRun (tag 0 rs) M ds) (hp : p + 1 < rs.length) (h : bef (M.map (·.1)) (p + 1) p = true) : fallB rs p = !letsN rs (p + 1) := by
  have g1 : (tag 0 rs)[p]? = some (p, (sS rs p, tS rs p)) := by
    rw [tag_at, row_get (by omega)]
    show some (0 + p, _) = _
    rw [Nat.zero_add]
  have g2 : (tag 0 rs)[p + 1]? = some (p + 1, (sS rs (p + 1), tS rs (p + 1))) := by
    rw [tag_at, row_get hp]
    show some (0 + (p + 1), _) = _
    rw [Nat.zero_add]
  have sp : tag 0 rs = (tag 0 rs).take p ++ (p, (sS rs p, tS rs p)) :: (p + 1, (sS rs (p + 1), tS rs (p + 1))) :: (tag 0 rs).drop (p + 2) := by
    obtain ⟨h1, e1⟩ := List.getElem?_eq_some_iff.mp g1
    obtain ⟨h2, e2⟩ := List.getElem?_eq_some_iff.mp g2
    have := List.drop_eq_getElem_cons h1
    rw [List.drop_eq_getElem_cons h2, e1, e2] at this
    exact (List.take_append_drop p (tag 0 rs)).symm.trans (by rw [this])
  have rN : MRun (tag 0 rs) ((tag 0 rs).take p ++ (p, (sS rs p, tS rs p)) :: (p + 1, (sS rs (p + 1), tS rs (p + 1))) :: (tag 0 rs).drop (p + 2)) [] := by
    rw [← sp]
    exact .nil
  have mv := move_of tl rN r h
  dsimp only at mv
  have t := tl _ (List.mem_of_getElem? (row_get (rs := rs) (show p < rs.length by omega)))
  dsimp only at t
  unfold fallB letsN fallsN
  rw [decide_eq_true hp, decide_eq_true (Nat.succ_pos p), Bool.true_and, Bool.true_and, Nat.add_sub_cancel]
  rcases mv with mv | mv
  · rw [decide_eq_true mv, decide_eq_false (by omega)]
    rfl
  · rw [decide_eq_true mv, decide_eq_false (by omega)]
    rfl
theorem part_perm {f g : Nat → Bool} {a b : Nat → Deed} : ∀ {l : List Nat}, (∀ p ∈ l, f p = !g p) → ((l.filter f).map a ++ (l.filter g).map b).Perm (l.map fun p => if g p then b p else a p)
  | [], _ => .nil
  | x :: l, h => by
    have ih := part_perm (a := a) (b := b) (l := l) fun p hp => h p (List.mem_cons_of_mem _ hp)
    have hx := h x (List.mem_cons_self ..)
    cases c : g x with
    | true =>
      rw [c] at hx
      rw [List.filter_cons_of_neg (by rw [hx]; decide), List.filter_cons_of_pos c, List.map_cons, List.map_cons, c]
      exact List.perm_middle.trans (.cons _ ih)
    | false =>
      rw [c] at hx
      rw [List.filter_cons_of_pos (by rw [hx]; rfl), List.filter_cons_of_neg (by rw [c]; decide), List.map_cons, List.map_cons, c]
      exact .cons _ ih
theorem mem_adj {l : List Nat} {n p : Nat} : p ∈ adjL l n ↔ p < n ∧ bef l (p + 1) p = true := by
  unfold adjL
  rw [List.mem_filter, List.mem_range]
theorem near_perm {rs : HH.Row} {M : List Cow} {ds : List Deed} (tl : ∀ x ∈ rs, 0 ≤ x.2) (r : MRun (tag 0 rs) M ds) : (nearD rs (M.map (·.1))).Perm (dueD rs (M.map (·.1)) (rs.length - 1)) := part_perm fun p hp => by
  obtain ⟨h1, h2⟩ := mem_adj.mp hp
  exact one_move tl r (by omega) h2
theorem near_pw {rs : HH.Row} {l : List Nat} : (nearD rs l).Pairwise (fun b c => ¬ deedL c b) := by
  have pw : (adjL l (rs.length - 1)).Pairwise (· < ·) := List.Pairwise.filter _ List.pairwise_lt_range
  unfold nearD deedL
  refine List.pairwise_append.mpr ⟨List.pairwise_map.mpr ((pw.filter _).imp fun {a b} h => ?_), List.pairwise_map.mpr ((pw.filter _).imp fun {a b} h => ?_), fun x hx y hy => ?_⟩
  · rintro (⟨_, z⟩ | ⟨_, z⟩)
    · cases z
    · dsimp only at z
      omega
  · rintro (⟨z, _⟩ | ⟨_, z⟩)
    · cases z
    · dsimp only at z
      omega
  · obtain ⟨a, _, rfl⟩ := List.mem_map.mp hx
    obtain ⟨b, _, rfl⟩ := List.mem_map.mp hy
    rintro (⟨z, _⟩ | ⟨z, _⟩) <;> cases z
theorem bef_chain {l : List Nat} {n : Nat} (nd : l.Nodup) (all : ∀ x, x < n → x ∈ l) (h : ∀ p, p + 1 < n → bef l (p + 1) p = false) : ∀ d i : Nat, i + d + 1 < n → bef l i (i + d + 1) = true
  | 0, i, hi => bef_tot (all _ (by omega)) (all _ (by omega)) (by omega) (h i hi)
  | d + 1, i, hi => by
    have a := bef_chain nd all h d i (by omega)
    have b := bef_tot (all (i + d + 1 + 1) (by omega)) (all (i + d + 1) (by omega)) (by omega) (h (i + d + 1) (by omega))
    obtain ⟨p, hp⟩ := List.getElem?_of_mem (all i (by omega))
    obtain ⟨q, hq⟩ := List.getElem?_of_mem (all (i + d + 1) (by omega))
    obtain ⟨t, ht⟩ := List.getElem?_of_mem (all (i + d + 1 + 1) (by omega))
    rw [bef_iff nd hp hq] at a
    rw [bef_iff nd hq ht] at b
    show bef l i (i + d + 1 + 1) = true
    rw [bef_iff nd hp ht]
    have := of_decide_eq_true a
    have := of_decide_eq_true b
    exact decide_eq_true (by omega)
theorem far_none {l : List Nat} {n : Nat} (nd : l.Nodup) (all : ∀ x, x < n → x ∈ l) : tab l n n = [] ↔ adjL l (n - 1) = [] := by
  constructor
  · intro h
    refine List.eq_nil_iff_forall_not_mem.mpr fun p hp => ?_
    obtain ⟨h1, h2⟩ := mem_adj.mp hp
    have : ((p : Int), ((p + 1 : Nat) : Int)) ∈ tab l n n := mem_tab.mpr ⟨p, p + 1, by omega, by omega, rfl, h2⟩
    rw [h] at this
    cases this
  · intro h
    refine List.eq_nil_iff_forall_not_mem.mpr fun x hx => ?_
    obtain ⟨i, j, h1, h2, _, h3⟩ := mem_tab.mp hx
    have := bef_chain nd all (fun p hp => by
      cases c : bef l (p + 1) p with
      | false => rfl
      | true =>
        have : p ∈ adjL l (n - 1) := mem_adj.mpr ⟨by omega, c⟩
        rw [h] at this
        cases this) (j - i - 1) i (by omega)
    rw [show i + (j - i - 1) + 1 = j by omega] at this
    rw [bef_asym nd this] at h3
    cases h3
theorem near_none {rs : HH.Row} {M : List Cow} {ds : List Deed} (tl : ∀ x ∈ rs, 0 ≤ x.2) (r : MRun (tag 0 rs) M ds) : nearD rs (M.map (·.1)) = [] ↔ tab (M.map (·.1)) rs.length rs.length = [] := by
  have ids := run_ids tl r
  rw [far_none (ids.nodup_iff.mpr List.nodup_range) fun x hx => ids.mem_iff.mpr (List.mem_range.mpr hx)]
  have p := near_perm tl r
  constructor
  · intro h
    rw [h] at p
    have := p.symm.eq_nil
    exact List.map_eq_nil_iff.mp this
  · intro h
    unfold nearD
    rw [h]
    rfl
def spHowFar (K : PySem.W.Frag) : Sp := fun vs H Q _ => ∃ (v : V) (o : Addr) (rs : HH.Row) (L : List Cow), vs = [v, .ref o] ∧ Went K H v o rs L ∧ ∀ H', Ex H H' → Q (.int ((tab (L.map (·.1)) rs.length rs.length).length : Int)) H'
def spDeeds (K : PySem.W.Frag) : Sp := fun vs H Q _ => ∃ (v : V) (o : Addr) (rs : HH.Row) (L : List Cow), vs = [v, .ref o] ∧ Went K H v o rs L ∧ 0 < rs.length ∧ ∀ (q : Addr) (us : List V) (H' : Hp), H q = none → Ex H H' → H' q = some (.lst us) → All2 (DeedAt K H') us (nearD rs (L.map (·.1))) → Q (.ref q) H'
end HH
set_option maxHeartbeats 4000000
namespace HH
open PySem PySem.Spec PyProof.Rows L2 Evl
def FrzT (H : Hp) (a : Addr) (xs : List V) : Prop := ∃ o, PlainT o ∧ H a = some (.frz o (.tup xs))
theorem FrzT.ex {H H' : Hp} {a : Addr} {xs : List V} (h : FrzT H a xs) (e : Ex H H') : FrzT H' a xs := by
  obtain ⟨o, h1, h2⟩ := h
  exact ⟨o, h1, e _ _ h2⟩
theorem FrzT.exB {H H' : Hp} {p a : Addr} {xs : List V} {n : Nat} (h : FrzT H a xs) (e : ExB p H H') (hb : Bx H p n) : FrzT H' a xs := by
  obtain ⟨o, h1, h2⟩ := h
  obtain ⟨l, hl⟩ := hb.lst
  refine ⟨o, h1, e _ _ (fun z => ?_) h2⟩
  rw [z, hl] at h2
  cases h2
theorem FrzT.sq {K : PySem.W.Frag} {H : Hp} {a : Addr} {xs : List V} (h : FrzT H a xs) : SqT K H a xs := by
  obtain ⟨o, _, h2⟩ := h
  exact .inl (.inr ⟨o, h2⟩)
section
variable {K : PySem.W.Frag} {σ : L2.St} {H : Hp} {te t1 t2 : TE} {tt : TT} {o : Addr} {l : List Nat} {j : Nat} {vs : List Nat}
theorem edd_lc (w : Bool) (f : Nat → Bool) (g : Nat → Nat) (ho : Ev te σ H (.ref o)) (hs : SqL K H o (natsV l)) (hl : l.length ≤ 1000) (hw : ∀ x, wipe ((wipe σ vs).set j (some x)) vs = wipe σ vs)
    (ht : ∀ x ∈ l, ∀ H1, Ex H H1 → EvT tt ((wipe σ vs).set j (some (.int (x : Int)))) H1 (f x)) (h1 : ∀ x ∈ l, ∀ H1, Ex H H1 → Ev t1 ((wipe σ vs).set j (some (.int (x : Int)))) H1 (.str (wordOf w))) (h2 : ∀ x ∈ l, ∀ H1, Ex H H1 → Ev t2 ((wipe σ vs).set j (some (.int (x : Int)))) H1 (.int (g x : Int))) {H0 : Hp} (e : Ex H H0) (Q : VK)
    (q : ∀ (d : Addr) (us : List V) (H2 : Hp), H0 d = none → Ex H0 H2 → H2 d = some (.lst us) → All2 (DeedAt K H2) us ((l.filter f).map fun x => (w, g x)) → Q (.ref d) H2) : tLc (iList K te) (gName j) tt (tTup (tCons t1 (tCons t2 tNil))) vs σ H0 Q :=
  ho H0 e _ fun H1 e1 => ⟨o, rfl, ⟨_, ex_l (e.trans e1) hs⟩, fun Dl hD => by
    refine lc_it (walk_list (xs := natsV l)) (fun k H2 => Ex H1 H2 ∧ ∃ us, H2 Dl = some (.lst us) ∧ All2 (DeedAt K H2) us (((l.take k).filter f).map fun x => (w, g x))) ⟨Ex.new hD, [], upd_same, .nil⟩ (fun k H2 _ p => ex_l ((e.trans e1).trans p.1) hs) (fun k x H2 H3 hk p y => ?_) (fun H2 p => ?_)
    · obtain ⟨rfl, hx⟩ := y
      obtain ⟨p1, us, p2, p3⟩ := p
      have hk' : k < l.length := by
        rw [natsV_len] at hk
        exact hk
      have hx' : x = .int (l[k] : Int) := by
        unfold natsV at hx
        rw [List.getElem?_map, List.getElem?_eq_getElem hk'] at hx
        exact (Option.some.inj hx).symm
      subst hx'
      have mem : l[k] ∈ l := List.getElem_mem hk'
      have e2 := (e.trans e1).trans p1
      refine ⟨hw _, (ht _ mem H3 e2) H3 (Ex.refl H3) _ fun H4 e4 => ?_⟩
      have tk : l.take (k + 1) = l.take k ++ [l[k]] := by
        rw [List.take_add_one, List.getElem?_eq_getElem hk']
        rfl
      refine ite2 (fun c => ?_) (fun c => ?_)
      · refine (h1 _ mem H3 e2) H4 e4 _ fun H5 e5 => (h2 _ mem H3 e2) H5 (e4.trans e5) _ fun H6 e6 => ⟨by show 2 ≤ sizeLine; decide, fun TT hT => ?_⟩
        have nT := Ex.new (o := .tup [V.str (wordOf w), .int (g l[k] : Int)]) hT
        have e36 := (e4.trans e5).trans (e6.trans nT)
        have g1 := e36 _ _ p2
        have ln : us.length ≤ k := by
          rw [All2.len p3, List.length_map]
          have := List.length_filter_le f (l.take k)
          rw [List.length_take] at this
          omega
        refine ⟨us, g1, sz_lt (by omega), Ex.mut (p1.trans e36) hD, us ++ [.ref TT], upd_same, ?_⟩
        rw [tk, List.filter_append, List.map_append, show [l[k]].filter f = [l[k]] from List.filter_cons_of_pos c]
        exact deeds_exB (ExB.refl _ _).upd g1 (All2.app (deeds_ex e36 p3) (.cons ⟨TT, rfl, st_of upd_same⟩ .nil))
      · refine ⟨p1.trans e4, us, e4 _ _ p2, ?_⟩
        rw [tk, List.filter_append, List.map_append, show [l[k]].filter f = [] from List.filter_cons_of_neg c, List.map_nil, List.append_nil]
        exact deeds_ex e4 p3
    · obtain ⟨p1, us, p2, p3⟩ := p
      rw [natsV_len, List.take_length] at p3
      exact q Dl us H2 (fresh_back e1 hD) (e1.trans p1) p2 p3⟩
end
section
variable {K : PySem.W.Frag} {σ : L2.St} {H : Hp} {te t1 : TE} {o : Addr} {l : List Nat} {j : Nat} {vs : List Nat}
theorem el_mapT (g : Nat → V) (ho : Ev te σ H (.ref o)) (hs : SqT K H o (natsV l)) (hl : l.length ≤ 1000) (hw : ∀ x, wipe ((wipe σ vs).set j (some x)) vs = wipe σ vs)
    (h1 : ∀ x ∈ l, ∀ H1, Ex H H1 → Ev t1 ((wipe σ vs).set j (some (.int (x : Int)))) H1 (g x)) : EvL (tLc (iTup K te) (gName j) tYes t1 vs) σ H (l.map g) := fun H0 e Q q =>
  ho H0 e _ fun H1 e1 => ⟨o, rfl, ⟨_, ex_t (e.trans e1) hs⟩, fun Dl hD => by
    refine lc_it (walk_tup (xs := natsV l)) (fun k H2 => Ex H1 H2 ∧ H2 Dl = some (.lst ((l.take k).map g))) ⟨Ex.new hD, upd_same⟩ (fun k H2 _ p => ex_t ((e.trans e1).trans p.1) hs) (fun k x H2 H3 hk p y => ?_) (fun H2 p => ?_)
    · obtain ⟨rfl, hx⟩ := y
      obtain ⟨p1, p2⟩ := p
      have hk' : k < l.length := by
        rw [natsV_len] at hk
        exact hk
      have hx' : x = .int (l[k] : Int) := by
        unfold natsV at hx
        rw [List.getElem?_map, List.getElem?_eq_getElem hk'] at hx
        exact (Option.some.inj hx).symm
      subst hx'
      have e2 := (e.trans e1).trans p1
      refine ⟨hw _, t_yes ((h1 _ (List.getElem_mem hk') H3 e2) H3 (Ex.refl H3) _ fun H4 e4 => ⟨_, e4 _ _ p2, sz_lt (by rw [List.length_map, List.length_take]; omega), Ex.mut (p1.trans e4) hD, ?_⟩)⟩
      rw [upd_same, List.take_add_one, List.getElem?_eq_getElem hk', List.map_append]
      rfl
    · obtain ⟨p1, p2⟩ := p
      rw [natsV_len, List.take_length] at p2
      exact q Dl H2 (fresh_back e1 hD) (e1.trans p1) p2⟩
end
theorem natsV_int (l : List Nat) : natsV l = (l.map fun (x : Nat) => (x : Int)).map V.int := by
  rw [List.map_map]
  rfl
theorem mt_tup_indexK {X : Cx} {K : PySem.W.Frag} (hK : X.K = K := by rfl) : MtR X "tuple.index" (rTIdx K) := by
  subst hK
  exact mt_tup_indexI
theorem alike_deed {K : PySem.W.Frag} {H : Hp} {v u : V} {d : Deed} (h : DeedAt K H v d) (g : DeedAt K H u d) : Alike K H 2 v u := by
  obtain ⟨a, rfl, ha⟩ := h
  obtain ⟨b, rfl, hb⟩ := g
  exact alike_twoT ha hb (.inl ⟨rfl, True.intro⟩) (.inl ⟨rfl, True.intro⟩)
theorem alike_deeds {K : PySem.W.Frag} {H : Hp} {a b : Addr} {us ws : List V} {ds : List Deed} (ha : SqL K H a us) (hb : SqL K H b ws) (f : All2 (DeedAt K H) us ds) (g : All2 (DeedAt K H) ws ds) (hz : ds.length ≤ 40000) : Alike K H 3 (.ref a) (.ref b) := by
  refine .inr ⟨a, b, us, ws, rfl, rfl, .inl ⟨ha, hb⟩, by rw [All2.len f, All2.len g], by rw [All2.len f]; exact hz, fun i x y hx hy => ?_⟩
  obtain ⟨d, h1, h2⟩ := All2.get f hx
  obtain ⟨d', h3, h4⟩ := All2.get g hy
  rw [h1] at h3
  cases h3
  exact alike_deed h2 h4
theorem ev_eqNil {K : PySem.W.Frag} {σ : L2.St} {H : Hp} {te : TE} {k : Nat} {a : Addr} {xs : List V} {ds : List PyData} (h : Ev te σ H (.ref a)) (ha : SqL K H a xs) (hd : DpAll K H xs ds) (hn : ∀ d ∈ ds, Nice k d) (hk : k < 64) : Ev (tOp (rEqD K) te (tLst tNil)) σ H (.bl xs.isEmpty) := fun H1 e Q q =>
  h H1 e _ fun H2 e2 => ⟨by show 0 ≤ sizeLine; decide, fun p hp => by
    have e3 := (e.trans e2).trans (Ex.new (o := .lst []) hp)
    refine ⟨.list ds, .list [], .lst (ex_l e3 ha) (dps_ex e3 hd), .lst (sq_of upd_same) .nil, (nice_list hn).shaped (by omega), (nice_list (k := 0) (fun d h => by cases h)).shaped (by omega), ?_⟩
    have e4 : PyData.eqv (.list ds) (.list []) = xs.isEmpty := by
      have hl := dps_len hd
      cases ds with
      | nil =>
        have : xs = [] := List.length_eq_zero_iff.mp hl
        subst this
        simp [PyData.eqv, PyData.eqvAll]
      | cons d ds =>
        cases xs with
        | nil => cases hl
        | cons x xs => simp [PyData.eqv, PyData.eqvAll]
    rw [e4]
    exact q _ (e2.trans (Ex.new hp))⟩
end HH
set_option maxHeartbeats 4000000
namespace HH
open PySem PySem.Spec PyProof.Rows L2 Evl
def SqA (K : PySem.W.Frag) (H : Hp) (a : Addr) (xs : List V) : Prop := SqL K H a xs ∨ SqT K H a xs
theorem SqA.ex {K : PySem.W.Frag} {H H' : Hp} {a : Addr} {xs : List V} (h : SqA K H a xs) (e : Ex H H') : SqA K H' a xs := h.imp (ex_l e) (ex_t e)
end HH
namespace L2
open PySem PySem.Spec PyProof.Rows
structure HeldX (P : Program) (w : World) (K : PySem.W.Frag) (mg : Str → Option Value) (base : Heap) (k : Nat) (f : Addr) (sp : Sp) : Prop where
  ex : ∃ (fd : FuncData) (ps : List Str), FnOk P w K mg base (L2.CX P w) k f fd ps sp ∧ PySem.W.keepIn K (.ref f) = true ∧ Binds K fd ps []
section
variable {X : Cx} {k i : Nat} {E : L2.St → XK} {x : Str} {p pos : Pos} {e : Expr} {es : List Expr} {t : TA}
end
end L2
namespace HH
open PySem PySem.Spec PyProof.Rows L2 Evl
abbrev ZD := Bool × Int
def DeedZ (K : PySem.W.Frag) (H : Hp) (v : V) (d : ZD) : Prop := ∃ p, v = .ref p ∧ SqT K H p [.str (wordOf d.1), .int d.2]
theorem DeedZ.ex {K : PySem.W.Frag} {H H' : Hp} {v : V} {d : ZD} (h : DeedZ K H v d) (e : Ex H H') : DeedZ K H' v d := by
  obtain ⟨p, h1, h2⟩ := h
  exact ⟨p, h1, ex_t e h2⟩
abbrev DeedsZ (K : PySem.W.Frag) (H : Hp) : List V → List ZD → Prop := All2 (DeedZ K H)
theorem DeedsZ.ex' {K : PySem.W.Frag} {H H' : Hp} {us : List V} {ds : List ZD} (h : DeedsZ K H us ds) (e : Ex H H') : DeedsZ K H' us ds := All2.mono (fun _ _ r => r.ex e) h
theorem DeedsZ.exB' {K : PySem.W.Frag} {H H' : Hp} {us : List V} {ds : List ZD} {q : Addr} {ys : List V} (e : ExB q H H') (hq : H q = some (.lst ys)) (h : DeedsZ K H us ds) : DeedsZ K H' us ds := All2.mono (fun v d g => by
  obtain ⟨p, h1, h2⟩ := g
  exact ⟨p, h1, e.t hq h2⟩) h
def swapL (l : List Nat) (p : Nat) : List Nat := l.take p ++ [ixN l (p + 1), ixN l p] ++ l.drop (p + 2)
abbrev StZ := HH.Row × List Nat
theorem swapL_len {l : List Nat} {p : Nat} (h : p + 1 < l.length) : (swapL l p).length = l.length := by
  unfold swapL
  rw [List.length_append, List.length_append, List.length_take, List.length_drop]
  show min p l.length + 2 + (l.length - (p + 2)) = l.length
  omega
theorem swap_split {A B : List Nat} {a b : Nat} : swapL (A ++ a :: b :: B) A.length = A ++ b :: a :: B := by
  obtain ⟨h1, h2⟩ := ixN_split (A := A) (B := B) (a := a) (b := b)
  unfold swapL
  rw [h1, h2, List.take_left', List.append_assoc]
  · rw [show A ++ a :: b :: B = (A ++ [a, b]) ++ B by simp, List.drop_left']
    · rfl
    · rw [List.length_append]
      rfl
  · rfl
def Picked (K : PySem.W.Frag) (H : Hp) (pick : Bool) (v : V) (s : StZ) : Prop := if pick then RowAt K H v s.1 else ∃ t, v = .ref t ∧ SqT K H t (natsV s.2)
theorem Picked.ex {K : PySem.W.Frag} {H H' : Hp} {pick : Bool} {v : V} {s : StZ} (h : Picked K H pick v s) (e : Ex H H') : Picked K H' pick v s := by
  unfold Picked at h ⊢
  cases pick with
  | true => exact RowAt.ex h e
  | false =>
    obtain ⟨t, h1, h2⟩ := h
    exact ⟨t, h1, ex_t e h2⟩
end HH
namespace HH
open PySem PySem.Spec PyProof.Rows L2 Evl
section
variable {K : PySem.W.Frag} {σ : L2.St} {H : Hp} {te ta tb tc : TE} {D : Ends}
end
end HH
namespace HH
open PySem PySem.Spec PyProof.Rows L2 Evl
end HH
namespace HH
open PySem PySem.Spec PyProof.Rows L2 Evl
section
variable {K : PySem.W.Frag} {σ : L2.St} {H : Hp} {te to ta tb tc : TE} {D : Ends}
end
end HH
set_option maxHeartbeats 4000000
namespace HH
open PySem PySem.Spec PyProof.Rows L2 Evl RZ
section
variable {K : PySem.W.Frag} {σ : L2.St} {H : Hp} {te ta tb tc td : TE} {D : Ends}
end
end HH
set_option maxHeartbeats 4000000
namespace HH
open PySem PySem.Spec PyProof.Rows L2 Evl RZ
def DueV (K : PySem.W.Frag) (H : Hp) (y : V) : Nat ⊕ StZ → Prop
  | .inr s => ∃ (q : Addr) (v' : V) (t : Addr), y = .ref q ∧ H q = some (.tup [v', .ref t]) ∧ RowAt K H v' s.1 ∧ SqT K H t (natsV s.2)
  | .inl k => y = .int (k : Int)
def ToldV (K : PySem.W.Frag) (H : Hp) (pick : Bool) (y : V) : Nat ⊕ StZ → Prop
  | .inr s => Picked K H pick y s
  | .inl k => y = .int (k : Int)
theorem ToldV.ex {K : PySem.W.Frag} {H H' : Hp} {pick : Bool} {y : V} {r : Nat ⊕ StZ} (h : ToldV K H pick y r) (e : Ex H H') : ToldV K H' pick y r := by
  cases r with
  | inl k => exact h
  | inr s => exact Picked.ex h e
theorem DueV.ex {K : PySem.W.Frag} {H H' : Hp} {y : V} {r : Nat ⊕ StZ} (h : DueV K H y r) (e : Ex H H') : DueV K H' y r := by
  cases r with
  | inl k => exact h
  | inr s =>
    obtain ⟨q, v', t, h1, h2, h3, h4⟩ := h
    exact ⟨q, v', t, h1, e _ _ h2, h3.ex e, ex_t e h4⟩
section
variable {K : PySem.W.Frag} {σ : L2.St} {H : Hp} {te ta tb tc td : TE} {D : Ends}
end
end HH
namespace HH
open PySem PySem.Spec PyProof.Rows L2 Evl RZ
section
variable {K : PySem.W.Frag} {σ : L2.St} {H : Hp} {te ta tb tc td : TE} {D : Ends}
end
end HH
namespace HH
open PySem PySem.Spec PyProof.Rows L2 Evl RZ
end HH
namespace HH
open PySem PySem.Spec PyProof.Rows L2 Evl RZ
theorem q_par2 {i j : Nat} {ta tb : TE} {tz : TS} {D : Ends} {σ : L2.St} {H : Hp} (h : ta σ H fun x H1 => tb σ H1 fun y H2 => ∃ v w, [x, y] = [v, w] ∧ tz D ((σ.set i (some v)).set j (some w)) H2) : tSeq (tPar i j (tCons ta (tCons tb tNil))) tz D σ H := h
end HH
set_option maxHeartbeats 4000000
namespace HH
open PySem PySem.Spec PyProof.Rows L2 Evl RZ
def StrFit (s : Str) : Prop := PyData.strOk s = true ∧ (reprText s).length ≤ 40
def atomOk (c : Nat) : V → PyData → Prop
  | .non, .none => True
  | .bl b, .bool b' => b = b'
  | .int i, .int i' => i = i' ∧ i.natAbs ≤ 10 ^ 30 + c
  | .str s, .str s' => s = s' ∧ StrFit s
  | _, _ => False
def DaS (R : V → PyData → Prop) (xs : List V) (ds : List PyData) : Prop := xs.length = ds.length ∧ ∀ (i : Nat) (x : V) (e : PyData), xs[i]? = some x → ds[i]? = some e → R x e
def Da (P : Addr → Prop) (K : PySem.W.Frag) (c : Nat) (H : Hp) : Nat → V → PyData → Prop
  | 0, v, d => atomOk c v d
  | k + 1, v, d => atomOk c v d ∨ ∃ (a : Addr) (xs : List V) (ds : List PyData), v = .ref a ∧ ((¬ P a ∧ H a = some (.lst xs) ∧ d = .list ds) ∨ (SqT K H a xs ∧ d = .tuple ds)) ∧ DaS (Da P K c H k) xs ds
section
variable {P : Addr → Prop} {K : PySem.W.Frag} {c : Nat} {H H' : Hp}
theorem Da.ex (e : Ex H H') : ∀ {k : Nat} {v : V} {d : PyData}, Da P K c H k v d → Da P K c H' k v d
  | 0, _, _, h => h
  | k + 1, _, _, .inl h => .inl h
  | k + 1, _, _, .inr ⟨a, xs, ds, h1, h2, h3, h4⟩ => .inr ⟨a, xs, ds, h1, h2.imp (fun ⟨q1, q2, q3⟩ => ⟨q1, e _ _ q2, q3⟩) (fun ⟨q1, q2⟩ => ⟨ex_t e q1, q2⟩), h3, fun i x y hx hy => Da.ex e (h4 i x y hx hy)⟩
theorem Da.exB {p : Addr} {ys : List V} (hP : P p) (e : ExB p H H') (hp : H p = some (.lst ys)) : ∀ {k : Nat} {v : V} {d : PyData}, Da P K c H k v d → Da P K c H' k v d
  | 0, _, _, h => h
  | k + 1, _, _, .inl h => .inl h
  | k + 1, _, _, .inr ⟨a, xs, ds, h1, h2, h3, h4⟩ => .inr ⟨a, xs, ds, h1, h2.imp (fun ⟨q1, q2, q3⟩ => ⟨q1, e _ _ (fun z => q1 (by rw [z]; exact hP)) q2, q3⟩) (fun ⟨q1, q2⟩ => ⟨e.t hp q1, q2⟩), h3, fun i x y hx hy => Da.exB hP e hp (h4 i x y hx hy)⟩
theorem Da.sub {P' : Addr → Prop} (hs : ∀ a, P' a → P a) : ∀ {k : Nat} {v : V} {d : PyData}, Da P K c H k v d → Da P' K c H k v d
  | 0, _, _, h => h
  | k + 1, _, _, .inl h => .inl h
  | k + 1, _, _, .inr ⟨a, xs, ds, h1, h2, h3, h4⟩ => .inr ⟨a, xs, ds, h1, h2.imp (fun ⟨q1, q2, q3⟩ => ⟨fun z => q1 (hs a z), q2, q3⟩) (fun q => q), h3, fun i x y hx hy => Da.sub hs (h4 i x y hx hy)⟩
theorem Da.up : ∀ {k : Nat} {v : V} {d : PyData}, Da P K c H k v d → Da P K c H (k + 1) v d
  | 0, _, _, h => .inl h
  | k + 1, _, _, .inl h => .inl h
  | k + 1, _, _, .inr ⟨a, xs, ds, h1, h2, h3, h4⟩ => .inr ⟨a, xs, ds, h1, h2, h3, fun i x y hx hy => Da.up (h4 i x y hx hy)⟩
theorem Da.ups {k : Nat} {v : V} {d : PyData} (h : Da P K c H k v d) : ∀ j, Da P K c H (k + j) v d
  | 0 => h
  | j + 1 => (Da.ups h j).up
theorem Da.to {k k' : Nat} {v : V} {d : PyData} (h : Da P K c H k v d) (e : k ≤ k') : Da P K c H k' v d := by
  have := h.ups (k' - k)
  rw [show k + (k' - k) = k' by omega] at this
  exact this
theorem atomOk.cc {c' : Nat} (e : c ≤ c') {v : V} {d : PyData} (h : atomOk c v d) : atomOk c' v d := by
  unfold atomOk at h
  split at h
  · exact True.intro
  · exact h
  · exact ⟨h.1, by have := h.2; omega⟩
  · exact h
  · exact h.elim
theorem Da.cc {c' : Nat} (e : c ≤ c') : ∀ {k : Nat} {v : V} {d : PyData}, Da P K c H k v d → Da P K c' H k v d
  | 0, _, _, h => atomOk.cc e h
  | k + 1, _, _, .inl h => .inl (atomOk.cc e h)
  | k + 1, _, _, .inr ⟨a, xs, ds, h1, h2, h3, h4⟩ => .inr ⟨a, xs, ds, h1, h2, h3, fun i x y hx hy => Da.cc e (h4 i x y hx hy)⟩
end
mutual
def wtD : PyData → Nat
  | .none => 50
  | .bool _ => 50
  | .int _ => 50
  | .str _ => 50
  | .list xs => 10 + wtDs xs
  | .tuple xs => 10 + wtDs xs
  | .dict _ => 50
def wtDs : List PyData → Nat
  | [] => 0
  | x :: xs => wtD x + 2 + wtDs xs
end
def tyD : PyData → String
  | .none => "NoneType"
  | .bool _ => "bool"
  | .int _ => "int"
  | .str _ => "str"
  | .list _ => "list"
  | .tuple _ => "tuple"
  | .dict _ => "dict"
section
variable {P : Addr → Prop} {K : PySem.W.Frag} {c : Nat} {H H' : Hp}
theorem atomOk.ty {v : V} {d : PyData} (h : atomOk c v d) : TyN K H v (tyD d) := by
  unfold atomOk at h
  split at h
  · exact .non
  · exact .bl _
  · exact .int _
  · exact .str _
  · exact h.elim
theorem Da.ty {k : Nat} {v : V} {d : PyData} (h : Da P K c H k v d) : TyN K H v (tyD d) := by
  cases k with
  | zero => exact atomOk.ty h
  | succ k =>
    rcases h with h | ⟨a, xs, ds, rfl, h2, _⟩
    · exact atomOk.ty h
    · rcases h2 with ⟨_, h2, rfl⟩ | ⟨h2, rfl⟩
      · exact .lst (K := K) (sq_of h2)
      · exact .tup h2
theorem daS_all {R : V → PyData → Prop} (hR : ∀ v d, R v d → Dp K H v d) : ∀ {xs : List V} {ds : List PyData}, DaS R xs ds → DpAll K H xs ds
  | [], [], _ => .nil
  | [], _ :: _, h => by cases h.1
  | _ :: _, [], h => by cases h.1
  | x :: xs, d :: ds, h => .cons (hR _ _ (h.2 0 x d rfl rfl)) (daS_all hR ⟨Nat.succ.inj h.1, fun i y e hy he => h.2 (i + 1) y e hy he⟩)
theorem atomOk.dp {v : V} {d : PyData} (h : atomOk c v d) : Dp K H v d ∧ Nice 0 d := by
  unfold atomOk at h
  split at h
  · exact ⟨.non, by simp [PyData.canLay0], by simp [PyData.depth]⟩
  · subst h
    exact ⟨.bl _, by simp [PyData.canLay0], by simp [PyData.depth]⟩
  · obtain ⟨rfl, _⟩ := h
    exact ⟨.int _, by simp [PyData.canLay0], by simp [PyData.depth]⟩
  · obtain ⟨rfl, h⟩ := h
    exact ⟨.str _, by simp only [PyData.canLay0]; exact h.1, by simp [PyData.depth]⟩
  · exact h.elim
theorem Da.dp : ∀ {k : Nat} {v : V} {d : PyData}, Da P K c H k v d → Dp K H v d
  | 0, _, _, h => (atomOk.dp h).1
  | k + 1, _, _, .inl h => (atomOk.dp h).1
  | k + 1, _, _, .inr ⟨a, xs, ds, h1, h2, h3⟩ => by
    subst h1
    have := daS_all (K := K) (H := H) (fun v d h => Da.dp h) h3
    rcases h2 with ⟨_, h2, rfl⟩ | ⟨h2, rfl⟩
    · exact .lst (sq_of h2) this
    · exact .tup h2 this
end
end HH
set_option maxHeartbeats 4000000
namespace HH
open PySem PySem.Spec PyProof.Rows L2 Evl RZ
def isListB : PyData → Bool
  | .list _ => true
  | _ => false
def isTupB : PyData → Bool
  | .tuple _ => true
  | _ => false
section
variable {P : Addr → Prop} {K : PySem.W.Frag} {c k : Nat} {H H' : Hp} {σ : L2.St} {te ta tb : TE} {D : Ends} {v : V} {d : PyData}
theorem Da.cont (hd : Da P K c H (k + 1) v d) (h : (isListB d || isTupB d) = true) : ∃ (a : Addr) (xs : List V) (ds : List PyData), v = .ref a ∧ ((¬ P a ∧ H a = some (.lst xs) ∧ d = .list ds) ∨ (SqT K H a xs ∧ d = .tuple ds)) ∧ DaS (Da P K c H k) xs ds := by
  rcases hd with hd | hd
  · unfold atomOk at hd
    split at hd
    · cases h
    · cases h
    · cases h
    · cases h
    · exact hd.elim
  · exact hd
end
section
variable {P : Addr → Prop} {K : PySem.W.Frag} {c k : Nat} {H H' : Hp} {σ : L2.St} {te ta tb : TE} {D : Ends} {v : V} {d : PyData}
theorem DaS.ex {xs : List V} {ds : List PyData} (h : DaS (Da P K c H k) xs ds) (e : Ex H H') : DaS (Da P K c H' k) xs ds := ⟨h.1, fun i x y hx hy => (h.2 i x y hx hy).ex e⟩
theorem DaS.exB {p : Addr} {xs ys : List V} {ds : List PyData} (h : DaS (Da P K c H k) xs ds) (hP : P p) (e : ExB p H H') (hp : H p = some (.lst ys)) : DaS (Da P K c H' k) xs ds := ⟨h.1, fun i x y hx hy => (h.2 i x y hx hy).exB hP e hp⟩
theorem DaS.sub {P' : Addr → Prop} {xs : List V} {ds : List PyData} (h : DaS (Da P K c H k) xs ds) (hs : ∀ a, P' a → P a) : DaS (Da P' K c H k) xs ds := ⟨h.1, fun i x y hx hy => (h.2 i x y hx hy).sub hs⟩
theorem DaS.to {c' k' : Nat} {xs : List V} {ds : List PyData} (h : DaS (Da P K c H k) xs ds) (e : k ≤ k') (e2 : c ≤ c') : DaS (Da P K c' H k') xs ds := ⟨h.1, fun i x y hx hy => ((h.2 i x y hx hy).to e).cc e2⟩
theorem DaS.nil {R : V → PyData → Prop} : DaS R [] [] := ⟨rfl, fun i x e h => by simp at h⟩
theorem DaS.cons {R : V → PyData → Prop} {x : V} {d : PyData} {xs : List V} {ds : List PyData} (h : R x d) (g : DaS R xs ds) : DaS R (x :: xs) (d :: ds) := ⟨by rw [List.length_cons, List.length_cons, g.1], fun i y e hy he => by
  cases i with
  | zero =>
    cases hy
    cases he
    exact h
  | succ i => exact g.2 i y e hy he⟩
theorem DaS.app {R : V → PyData → Prop} {xs ys : List V} {ds es : List PyData} (h : DaS R xs ds) (g : DaS R ys es) : DaS R (xs ++ ys) (ds ++ es) := ⟨by rw [List.length_append, List.length_append, h.1, g.1], fun i y e hy he => by
  by_cases hi : i < xs.length
  · rw [List.getElem?_append_left hi] at hy
    rw [List.getElem?_append_left (by rw [← h.1]; exact hi)] at he
    exact h.2 i y e hy he
  · rw [List.getElem?_append_right (by omega)] at hy
    rw [List.getElem?_append_right (by rw [← h.1]; omega)] at he
    rw [← h.1] at he
    exact g.2 _ y e hy he⟩
theorem DaS.set {R : V → PyData → Prop} {xs : List V} {ds : List PyData} {i : Nat} {x : V} {d : PyData} (h : DaS R xs ds) (g : R x d) : DaS R (xs.set i x) (ds.set i d) := ⟨by rw [List.length_set, List.length_set, h.1], fun j y e hy he => by
  rw [List.getElem?_set] at hy he
  by_cases c : i = j
  · rw [if_pos c] at hy he
    by_cases c2 : j < xs.length
    · rw [if_pos (by omega)] at hy
      rw [if_pos (by rw [← h.1]; omega)] at he
      cases hy
      cases he
      exact g
    · rw [if_neg (by omega)] at hy
      cases hy
  · rw [if_neg c] at hy he
    exact h.2 j y e hy he⟩
theorem DaS.erase {R : V → PyData → Prop} {xs : List V} {ds : List PyData} (i : Nat) (h : DaS R xs ds) : DaS R (xs.eraseIdx i) (ds.eraseIdx i) := ⟨by rw [List.length_eraseIdx, List.length_eraseIdx, h.1], fun j y e hy he => by
  rw [List.getElem?_eraseIdx] at hy he
  by_cases c : j < i
  · rw [if_pos c] at hy he
    exact h.2 j y e hy he
  · rw [if_neg c] at hy he
    exact h.2 _ y e hy he⟩
theorem DaS.take {R : V → PyData → Prop} {xs : List V} {ds : List PyData} (n : Nat) (h : DaS R xs ds) : DaS R (xs.take n) (ds.take n) := ⟨by rw [List.length_take, List.length_take, h.1], fun j y e hy he => by
  rw [List.getElem?_take] at hy he
  by_cases c : j < n
  · rw [if_pos c] at hy he
    exact h.2 j y e hy he
  · rw [if_neg c] at hy
    cases hy⟩
theorem DaS.drop {R : V → PyData → Prop} {xs : List V} {ds : List PyData} (n : Nat) (h : DaS R xs ds) : DaS R (xs.drop n) (ds.drop n) := ⟨by rw [List.length_drop, List.length_drop, h.1], fun j y e hy he => by
  rw [List.getElem?_drop] at hy he
  exact h.2 _ y e hy he⟩
theorem DaS.at' {R : V → PyData → Prop} {xs : List V} {ds : List PyData} {i : Nat} (h : DaS R xs ds) (hi : i < xs.length) : ∃ x d, xs[i]? = some x ∧ ds[i]? = some d ∧ R x d := by
  have h2 : i < ds.length := by rw [← h.1]; exact hi
  exact ⟨_, _, List.getElem?_eq_getElem hi, List.getElem?_eq_getElem h2, h.2 i _ _ (List.getElem?_eq_getElem hi) (List.getElem?_eq_getElem h2)⟩
end
end HH
namespace HH
open PySem PySem.Spec PyProof.Rows L2 Evl RZ
section
variable {P : Addr → Prop} {K : PySem.W.Frag} {c k : Nat} {H H' : Hp} {σ : L2.St} {te te2 ta tb : TE} {D : Ends} {v : V} {d : PyData}
end
end HH
namespace HH
open PySem PySem.Spec PyProof.Rows L2 Evl RZ
end HH
namespace HH
open PySem PySem.Spec PyProof.Rows L2 Evl RZ
end HH
namespace HH
open PySem PySem.Spec PyProof.Rows L2 Evl RZ
section
variable {K : PySem.W.Frag} {σ : L2.St} {H : Hp} {t u : TT} {tu tw tz : TS} {D : Ends} {QB : Bool → Hp → Prop}
end
end HH
namespace HH
open PySem PySem.Spec PyProof.Rows L2 Evl RZ
end HH
set_option maxHeartbeats 4000000
namespace HH
open PySem PySem.Spec PyProof.Rows L2 Evl RZ
def ItA (P : Addr → Prop) (K : PySem.W.Frag) (H : Hp) (v : V) : Prop := ∃ d, Da P K 2 H 6 v d ∧ wtD d ≤ 20000
section
variable {P : Addr → Prop} {K : PySem.W.Frag} {c k n : Nat} {H H' : Hp} {σ : L2.St} {te ta tb : TE} {D : Ends} {v : V} {d : PyData} {rs : HH.Row}
theorem ItA.ex (e : Ex H H') (h : ItA P K H v) : ItA P K H' v := by
  obtain ⟨d, h, w⟩ := h
  exact ⟨d, h.ex e, w⟩
theorem ItA.exB {p : Addr} {ys : List V} (hP : P p) (e : ExB p H H') (hp : H p = some (.lst ys)) (h : ItA P K H v) : ItA P K H' v := by
  obtain ⟨d, h, w⟩ := h
  exact ⟨d, h.exB hP e hp, w⟩
theorem ItA.sub {P' : Addr → Prop} (hs : ∀ a, P' a → P a) (h : ItA P K H v) : ItA P' K H v := by
  obtain ⟨d, h, w⟩ := h
  exact ⟨d, h.sub hs, w⟩
end
end HH
namespace HH
end HH
set_option maxHeartbeats 4000000
namespace HH
open PySem PySem.Spec PyProof.Rows L2 Evl
end HH
set_option maxHeartbeats 4000000
namespace HH
open PySem PySem.Spec PyProof.Rows L2 Evl
structure OrdAt (K : PySem.W.Frag) (H : Hp) (v : V) (o : Addr) (rs : HH.Row) (l : List Nat) : Prop where
  row : RowAt K H v rs
  len : rs.length ≤ 30
  tl : ∀ b ∈ rs, 0 ≤ b.2
  ord : SqT K H o (natsV l)
  ids : l.Perm (List.range rs.length)
section
variable {K : PySem.W.Frag} {H H' : Hp} {v : V} {o : Addr} {rs : HH.Row} {l : List Nat}
theorem OrdAt.ex (h : OrdAt K H v o rs l) (e : Ex H H') : OrdAt K H' v o rs l := ⟨h.row.ex e, h.len, h.tl, ex_t e h.ord, h.ids⟩
theorem OrdAt.nd (h : OrdAt K H v o rs l) : l.Nodup := h.ids.nodup_iff.mpr List.nodup_range
theorem OrdAt.lenL (h : OrdAt K H v o rs l) : l.length = rs.length := by rw [h.ids.length_eq, List.length_range]
theorem OrdAt.all (h : OrdAt K H v o rs l) (x : Nat) (hx : x < l.length) : x ∈ l := h.ids.mem_iff.mpr (List.mem_range.mpr (by rw [← h.lenL]; exact hx))
end
end HH
set_option maxHeartbeats 4000000
namespace HH
open PySem PySem.Spec PyProof.Rows L2 Evl
section
variable {K : PySem.W.Frag} {σ : L2.St} {H : Hp} {te t1 t2 : TE} {tt : TT} {l : List Nat} {j : Nat} {vs : List Nat}
end
end HH
set_option maxHeartbeats 4000000
namespace HH
open PySem PySem.Spec PyProof.Rows L2 Evl
section
variable {K : PySem.W.Frag} {σ : L2.St} {H H0 : Hp} {tf tx tv : TE} {D : Ends} {fa a : Addr} {as : List Addr} {t p : Nat → Int} {i : Nat} {d : Int}
end
end HH
set_option maxHeartbeats 4000000
namespace HH
open PySem PySem.Spec PyProof.Rows L2 Evl
section
variable {K : PySem.W.Frag} {σ : L2.St} {H : Hp} {te te2 : TE} {i j : Nat} {vs : List Nat} {a : Addr} {us : List V} {ps : HH.Row}
end
end HH
set_option maxHeartbeats 4000000
namespace HH
open PySem PySem.Spec PyProof.Rows L2 Evl
structure WanF (K : PySem.W.Frag) (H H' : Hp) (p : Addr) (q : Addr) (v' : V) (ot lp : Addr) (us : List V) (L : List Cow) (ds : List Deed) (n m : Nat) : Prop where
  ex : ExB p H H'
  bx : Bx H' p (n + m)
  q : H' q = some (.tup [v', .ref ot, .ref lp])
  row : RowAt K H' v' (rowsOf L)
  ord : FrzT H' ot (natsV (L.map (·.1)))
  lst : H' lp = some (.lst us)
  prs : All2 (DeedAt K H') us ds
end HH
set_option maxHeartbeats 4000000
namespace HH
open PySem PySem.Spec PyProof.Rows L2 Evl RZ
def Sm0 : PyData → Prop
  | .none => True
  | .bool _ => True
  | .int i => i.natAbs ≤ 10 ^ 30
  | _ => False
theorem Sm0.at' {d : PyData} (h : Sm0 d) : ∃ v, atomOk 0 v d := by
  unfold Sm0 at h
  split at h
  · exact ⟨.non, True.intro⟩
  · exact ⟨.bl _, rfl⟩
  · exact ⟨.int _, rfl, h⟩
  · exact h.elim
def NLst (K : PySem.W.Frag) (H : Hp) (v : V) : Prop := Flat v ∨ ∃ a xs, v = .ref a ∧ SqT K H a xs
def lenD : PyData → Nat
  | .list ds => ds.length
  | _ => 0
def AskIt (K : PySem.W.Frag) (H1 H2 : Hp) (v : V) (d : PyData) : Prop := Dp K H2 v d ∧ ((∃ a xs, v = .ref a ∧ H1 a = none ∧ H2 a = some (.lst xs) ∧ xs.length = lenD d) ∨ NLst K H2 v)
section
variable {K : PySem.W.Frag} {H H' H0 H1 H2 : Hp} {σ : L2.St} {te ta tb : TE} {D : Ends} {v : V} {d : PyData} {rs : HH.Row}
theorem NLst.ex (e : Ex H H') (h : NLst K H v) : NLst K H' v := h.imp id fun ⟨a, xs, h1, h2⟩ => ⟨a, xs, h1, ex_t e h2⟩
theorem AskIt.ex (e : Ex H2 H') (h : AskIt K H1 H2 v d) : AskIt K H1 H' v d := ⟨dp_ex e h.1, h.2.imp (fun ⟨a, xs, h1, h2, h3, h4⟩ => ⟨a, xs, h1, h2, e _ _ h3, h4⟩) (NLst.ex e)⟩
theorem AskIt.back (e : Ex H0 H1) (h : AskIt K H1 H2 v d) : AskIt K H0 H2 v d := ⟨h.1, h.2.imp (fun ⟨a, xs, h1, h2, h3, h4⟩ => ⟨a, xs, h1, fresh_back e h2, h3, h4⟩) id⟩
def flatD : V → PyData
  | .int i => .int i
  | .bl b => .bool b
  | _ => .none
end
def AskP (K : PySem.W.Frag) (H1 H3 : Hp) (q : Addr) (v : V) (d : PyData) : Prop := Dp K H3 v d ∧ ((∃ a xs, v = .ref a ∧ a ≠ q ∧ H1 a = none ∧ H3 a = some (.lst xs) ∧ xs.length = lenD d) ∨ NLst K H3 v)
def AskQ (K : PySem.W.Frag) (H1 : Hp) (q : Addr) (H2 : Hp) (v : V) (d : PyData) : Prop := ∀ H3, ExB q H2 H3 → AskP K H1 H3 q v d
section
variable {K : PySem.W.Frag} {H H' H0 H1 H2 : Hp} {σ : L2.St} {te ta tb : TE} {D : Ends} {v : V} {d : PyData} {rs : HH.Row} {q : Addr}
theorem AskIt.put {o : HO} (h : AskIt K H1 H2 v d) (hq : H2 q = none) : AskQ K H1 q (upd H2 q o) v d := fun H3 x => by
  have e : Ex H2 H3 := fun a u ha => x a u (ne_of_none ha hq) (by rw [upd_ne (ne_of_none ha hq)]; exact ha)
  refine ⟨dp_ex e h.1, h.2.imp (fun ⟨a, xs, h1, h2, h3, h4⟩ => ⟨a, xs, h1, ne_of_none h3 hq, h2, e _ _ h3, h4⟩) (NLst.ex e)⟩
theorem AskQ.x (h : AskQ K H1 q H2 v d) (x : ExB q H2 H') : AskQ K H1 q H' v d := fun H3 y => h H3 (x.trans y)
theorem AskQ.it (h : AskQ K H1 q H2 v d) : AskIt K H1 H2 v d := by
  obtain ⟨h1, h2⟩ := h H2 (ExB.refl _ _)
  exact ⟨h1, h2.imp (fun ⟨a, xs, g1, _, g2, g3, g4⟩ => ⟨a, xs, g1, g2, g3, g4⟩) id⟩
end
structure Knows (rs : HH.Row) (L F : List Cow) (z : V) (i : Nat) : Prop where
  len : rs.length ≤ 30
  lt : i < rs.length
  tl : ∀ b ∈ rs, 0 ≤ b.2
  low : ∀ b ∈ rs, Low b
  last : ∀ M, Steps (tag 0 rs) M → NfR M → M = L
  first : ∀ M, FSteps (tag 0 rs) M → FfR M → M = F
  stop : ∀ (M : List Cow) (j : Nat), Steps (tag 0 (rs.take (i + 1))) M → Nf M → (M.map (·.1))[j]? = some i → stopAt (M.map (·.1)) j = z
  flat : Flat z
  dp : ∀ (K : PySem.W.Frag) H', Dp K H' z (flatD z)
section
variable {K : PySem.W.Frag} {H : Hp} {σ : L2.St} {te ta tb tc : TE} {v : V} {rs : HH.Row}
end
end HH
set_option maxHeartbeats 4000000
namespace HH
open PySem PySem.Spec PyProof.Rows L2 Evl RZ
section
variable {P : Addr → Prop} {K : PySem.W.Frag} {c k : Nat} {H : Hp}
end
end HH
namespace HH
open PySem PySem.Spec PyProof.Rows L2 Evl RZ
end HH
namespace HH
open PySem PySem.Spec PyProof.Rows L2 Evl RZ
end HH
set_option maxHeartbeats 4000000
namespace HH
open PySem PySem.Spec PyProof.Rows L2 Evl RZ
def LB (b : Int × Int) : Prop := -(10 ^ 13) ≤ b.1 ∧ b.1 ≤ 10 ^ 13 ∧ 0 ≤ b.2 ∧ b.2 ≤ 10 ^ 12
end HH
namespace HH
open PySem PySem.Spec PyProof.Rows L2 Evl RZ
end HH
set_option maxHeartbeats 4000000
namespace HH
open PySem PySem.Spec PyProof.Rows L2 Evl RZ
section
variable {K : PySem.W.Frag} {H H' H0 H1 H2 : Hp} {σ : L2.St} {te ta tb : TE} {D : Ends} {v : V} {d : PyData} {rs : HH.Row} {tz : TS}
def Spt (K : PySem.W.Frag) (H0 : Hp) (q : Addr) (n : Nat) (H : Hp) (v : V) : Prop := (∃ a xs, v = .ref a ∧ a ≠ q ∧ H0 a = none ∧ H a = some (.lst xs) ∧ xs.length ≤ n) ∨ NLst K H v
theorem NLst.mut {b : Addr} {xs ys : List V} (h : NLst K H v) (hb : H b = some (.lst xs)) : NLst K (upd H b (.lst ys)) v := h.imp id fun ⟨a, zs, h1, h2⟩ => ⟨a, zs, h1, ((ExB.refl b H).upd (o := .lst ys)).t hb h2⟩
theorem Spt.mut {b q : Addr} {n : Nat} {xs ys : List V} (h : Spt K H0 q n H v) (hb : H b = some (.lst xs)) (hy : ys.length ≤ n + 1) : Spt K H0 q (n + 1) (upd H b (.lst ys)) v := by
  rcases h with ⟨a, zs, rfl, h1, h2, h3, h4⟩ | h
  · by_cases e : a = b
    · subst e
      exact .inl ⟨a, ys, rfl, h1, h2, upd_same, hy⟩
    · exact .inl ⟨a, zs, rfl, h1, h2, by rw [upd_ne e]; exact h3, by omega⟩
  · exact .inr (h.mut hb)
theorem Spt.up {q : Addr} {n : Nat} (h : Spt K H0 q n H v) (e : Ex H H') : Spt K H0 q (n + 1) H' v := by
  rcases h with ⟨a, zs, rfl, h1, h2, h3, h4⟩ | h
  · exact .inl ⟨a, zs, rfl, h1, h2, e _ _ h3, by omega⟩
  · exact .inr (h.ex e)
theorem NLst.ty (h : NLst K H v) : ∃ T, TyN K H v T ∧ kitB T "list" = some false := by
  rcases h with h | ⟨a, xs, rfl, h⟩
  · unfold Flat at h
    split at h
    · exact ⟨"int", .int _, rfl⟩
    · exact ⟨"bool", .bl _, rfl⟩
    · exact ⟨"str", .str _, rfl⟩
    · exact ⟨"NoneType", .non, rfl⟩
    · exact h.elim
  · exact ⟨"tuple", .tup h, rfl⟩
end
end HH
set_option maxHeartbeats 4000000
namespace HH
open PySem PySem.Spec PyProof.Rows L2 Evl RZ
end HH
set_option maxHeartbeats 4000000
namespace HH
open PySem PySem.Spec PyProof.Rows L2 Evl RZ
theorem ListsF.exB {H0 H H' : Hp} {us : List V} {ll : List (List Nat)} {p : Addr} {o : HO} (h : ListsF H0 H us ll) (e : ExB p H H') (hp : H0 p = some o) : ListsF H0 H' us ll := ⟨h.len, fun i l hl => by
  obtain ⟨c, h1, h2, h3⟩ := h.at' i l hl
  exact ⟨c, h1, h2, e _ _ (Ne.symm (ne_of_none hp h2)) h3⟩⟩
end HH
set_option maxHeartbeats 4000000
namespace HH
open PySem PySem.Spec PyProof.Rows L2 Evl RZ
section
variable {K : PySem.W.Frag} {σ : L2.St} {H H' : Hp} {ta tb te te2 : TE} {t : TT} {v : V}
end
end HH
set_option maxHeartbeats 4000000
namespace HH
open PySem PySem.Spec PyProof.Rows L2 Evl RZ
section
variable {K : PySem.W.Frag} {H H' H0 H1 H2 : Hp} {σ : L2.St} {te ta tb tc : TE} {D : Ends} {v : V} {d : PyData} {rs : HH.Row} {tz : TS}
end
end HH
set_option maxHeartbeats 4000000
namespace HH
open PySem PySem.Spec PyProof.Rows L2 Evl
end HH
set_option maxHeartbeats 4000000
namespace HH
open PySem PySem.Spec PyProof.Rows L2 Evl
section
variable {K : PySem.W.Frag} {σ : L2.St} {H H' : Hp} {ta tb te to ts : TE} {v : V}
section
variable {rs : HH.Row} {L E Y M : List Cow} {d1 d2 : List Deed} {px : Nat → Nat} {tT tB tO tN t8 t9 : TE} {vT : V} {bk oT : Addr}
end
end
end HH
set_option maxHeartbeats 4000000
namespace HH
open PySem PySem.Spec PyProof.Rows L2 Evl RZ
theorem FrzT.exL {H H' : Hp} {p a : Addr} {xs ys : List V} (h : FrzT H a xs) (e : ExB p H H') (hp : H p = some (.lst ys)) : FrzT H' a xs := by
  obtain ⟨o, po, h⟩ := h
  refine ⟨o, po, e _ _ (fun z => ?_) h⟩
  rw [z, hp] at h
  cases h
def tTupF (t : TA) : TE := fun σ H Q => t σ H fun xs H1 => xs.length ≤ sizeLine ∧ ∀ (p : Addr) (o : Obj), PlainT o → H1 p = none → Q (.ref p) (upd H1 p (.frz o (.tup xs)))
def rCatF (K : PySem.W.Frag) : R2 := fun x y H Q => ∃ a b xs ys, x = .ref a ∧ y = .ref b ∧ SqT K H a xs ∧ SqT K H b ys ∧ xs ≠ [] ∧ ys ≠ [] ∧ xs.length + ys.length ≤ sizeLine ∧ ∀ (p : Addr) (o : Obj), PlainT o → H p = none → Q (.ref p) (upd H p (.frz o (.tup (xs ++ ys))))
def tTupRgF (te : L2.St → Hp → (Int → Int → Hp → Prop) → Prop) : TE := fun σ H Q => te σ H fun a b H1 => RgOk a b ∧ ∀ (q : Addr) (o : Obj), PlainT o → H1 q = none → Q (.ref q) (upd H1 q (.frz o (.tup (rgV a b))))
section
variable {X : Cx} {es : List Expr} {t : TA} {pos : Pos}
theorem pe_tupF {x1} (h : PA X es t) : PE X (.Tuple es x1 pos) (tTupF t) := by
  refine ⟨fun pins s σ H Q I hq => ?_⟩
  refine wpAny_Tuple_spliced (thn (h.run pos pins s σ H _ I hq) fun us s1 ⟨xs, H1, I1, r, z, q⟩ => ⟨by rw [← r.length]; exact z, ?_⟩)
  have hf : H1 s1.heap.objs.size = none := I1.hok.fresh (Nat.le_refl _)
  have okF : ObjOk X.prog X.w (upd H1 s1.heap.objs.size (.frz { cls := .type "tuple", data := .seq us.toArray } (.tup xs))) (s1.heap.push { cls := .type "tuple", data := .seq us.toArray }) s1.heap.objs.size (.frz { cls := .type "tuple", data := .seq us.toArray } (.tup xs)) :=
    ⟨Heap.get?_push_size _ rfl, z, us, r, IsTup.new _ _⟩
  exact ⟨.ref s1.heap.objs.size, _, I1.laid (t' := s1.toks) (fun b u e => Heap.get?_push_of_some _ e) (Nat.le_refl _) okF, rfl, q _ _ ⟨rfl, rfl⟩ hf⟩
theorem op_catF : OpR X (binaryOp .Add) (rCatF X.K) := by
  intro pins s σ H x y v u Q I rx ry h
  obtain ⟨a, b, xs, ys, rfl, rfl, ha, hb, hx, hy, hz, q⟩ := h
  cases rx
  cases ry
  obtain ⟨its, r1, p1, _⟩ := I.tuple ha
  obtain ⟨its2, r2, p2, _⟩ := I.tuple hb
  refine HT.cat_tup p1 p2 (fun z => hx (r1.nil_iff.mp z)) (fun z => (hy (r2.nil_iff.mp z)).elim) (fun z => ?_) (by rw [← r1.length, ← r2.length]; exact hz)
  exact ⟨.ref s.heap.objs.size, _, I.laid (t' := s.toks) (fun b ob q => Heap.get?_push_of_some _ q) (Nat.le_refl _) (show ObjOk X.prog X.w (upd H s.heap.objs.size (.frz { cls := .type "tuple", data := .seq (its ++ its2).toArray } (.tup (xs ++ ys)))) _ _ (.frz { cls := .type "tuple", data := .seq (its ++ its2).toArray } (.tup (xs ++ ys))) from ⟨Heap.get?_push_size _ rfl, by rw [List.length_append]; exact hz, its ++ its2, r1.append r2, IsTup.new _ _⟩), rfl, q _ _ ⟨rfl, rfl⟩ (I.hok.fresh (Nat.le_refl _))⟩
theorem pe_tupRgF {e : Expr} {te : L2.St → Hp → (Int → Int → Hp → Prop) → Prop} {p pos : Pos} (hc : X.calm = true) (hg : Gl X "tuple") (hm : X.mg "tuple" = none) (he : PRg X e te) (na : starEach [e] X.env = (false, eval e X.env) :: starEach [] X.env := by rfl) : PE X (.Call (.Name "tuple" p) [e] [] pos) (tTupRgF te) := by
  refine ⟨fun pins s σ H Q I h => ?_⟩
  refine Call_ (ld_blt I hg hm boot_tuple (PyProof.Rows.callWith_type1 (args_cons (thn (he pins s σ H _ I h) fun x s1 ⟨r, a, b, t, u, v, H1, ex, hr, I1, ok, q⟩ => args_nil ?_) na) na))
  subst ex
  obtain ⟨b1, b2, b3, b4, b5⟩ := ok
  refine call_tuple_range (n := (b - a).toNat) (I1.ok.hd hc) hr (small_one b1 b2 b3 b4) (rangeSize_nat a b) b5 fun h' tk acc hk hi => ?_
  have I2 : Inv X pins σ H1 { s1 with heap := h', toks := tk } := I1.kept hk
  have okF : ObjOk X.prog X.w (upd H1 h'.objs.size (.frz { cls := .type "tuple", data := .seq acc } (.tup (rgV a b)))) (h'.push { cls := .type "tuple", data := .seq acc }) h'.objs.size (.frz { cls := .type "tuple", data := .seq acc } (.tup (rgV a b))) :=
    ⟨Heap.get?_push_size _ rfl, by rw [rgV_length, sizeLine_eq]; omega, acc.toList, vals_rg hi, by rw [Array.toArray_toList]; exact IsTup.new _ _⟩
  exact ⟨.ref h'.objs.size, _, I2.laid (t' := tk) (fun c o e => Heap.get?_push_of_some _ e) (Nat.le_refl _) okF, rfl, q _ _ ⟨rfl, rfl⟩ (I2.hok.fresh (Nat.le_refl _))⟩
end
end HH
namespace HH
open PySem PySem.Spec PyProof.Rows L2 Evl RZ
end HH
set_option maxHeartbeats 4000000
namespace HH
open PySem PySem.Spec PyProof.Rows L2 Evl RZ
structure KnownEnd (r e : HH.Row) (o : List Nat) (tb : List (List Nat)) : Prop where
  len : r.length ≤ 10
  tl : ∀ b ∈ r, 0 ≤ b.2
  end_ : ∃ L, Steps (tag 0 r) L ∧ NfR L ∧ rowsOf L = e ∧ L.map (·.1) = o
  nev : nevT r = tb
  prs : tabP (fun i k => !decide ((i + 1 + k) ∈ tb.getD i [])) r.length r.length = tab o r.length r.length
section
variable {K : PySem.W.Frag} {H H' H0 H1 H2 : Hp} {σ : L2.St} {te ta tb tc : TE} {D : Ends} {v : V} {d : PyData} {rs : HH.Row} {tz : TS}
def ListsA (K : PySem.W.Frag) (H : Hp) : List V → List (List Nat) → Prop := fun us ll => us.length = ll.length ∧ ∀ (i : Nat) (l : List Nat), ll[i]? = some l → ∃ p, us[i]? = some (.ref p) ∧ SqL K H p (natsV l)
theorem ListsA.ex {us : List V} {ll : List (List Nat)} (h : ListsA K H us ll) (e : Ex H H') : ListsA K H' us ll := ⟨h.1, fun i l hl => by
  obtain ⟨p, p1, p2⟩ := h.2 i l hl
  exact ⟨p, p1, ex_l e p2⟩⟩
theorem ListsA.cons {us : List V} {ll : List (List Nat)} {a : Addr} {l : List Nat} (h : ListsA K H us ll) (g : SqL K H a (natsV l)) : ListsA K H (.ref a :: us) (l :: ll) := ⟨by rw [List.length_cons, List.length_cons, h.1], fun i m hm => by
  cases i with
  | zero =>
    cases Option.some.inj hm
    exact ⟨a, rfl, g⟩
  | succ i => exact h.2 i m hm⟩
end
def dear : HH.Row := [(0, 10), (5, 1), (20, 2)]
abbrev Item := Int × HH.Row × List Nat × List (List Nat)
section
variable {K : PySem.W.Frag} {H H' H0 H1 H2 : Hp} {σ : L2.St} {te ta tb tc td : TE} {D : Ends} {v : V} {d : PyData} {rs : HH.Row} {tz : TS}
def ItemAt (K : PySem.W.Frag) (H : Hp) (x : V) (it : Item) : Prop := ∃ a ve oa ta, x = .ref a ∧ SqT K H a [.int it.1, ve, .ref oa, .ref ta] ∧ RowAt K H ve it.2.1 ∧ FrzT H oa (natsV it.2.2.1) ∧ TabAt K H ta it.2.2.2
theorem ItemAt.ex {x : V} {it : Item} (h : ItemAt K H x it) (e : Ex H H') : ItemAt K H' x it := by
  obtain ⟨a, ve, oa, ta, rfl, h1, h2, ⟨o, h3, h4⟩, h5⟩ := h
  exact ⟨a, ve, oa, ta, rfl, ex_t e h1, h2.ex e, ⟨o, h3, e _ _ h4⟩, h5.mono e⟩
end
end HH
set_option maxHeartbeats 4000000
namespace HH
open PySem PySem.Spec PyProof.Rows L2 Evl RZ
abbrev Lot := Int × Int × Int
def LotAt (K : PySem.W.Frag) (H : Hp) (v : V) (l : Lot) : Prop := ∃ p, v = .ref p ∧ SqT K H p [.int l.1, .int l.2.1, .int l.2.2]
abbrev LotsA (K : PySem.W.Frag) (H : Hp) : List V → List Lot → Prop := All2 (LotAt K H)
def HerdAt (K : PySem.W.Frag) (H : Hp) (v : V) (ls : List Lot) : Prop := ∃ a us, v = .ref a ∧ SqT K H a us ∧ LotsA K H us ls
section
variable {K : PySem.W.Frag} {H H' : Hp} {v : V} {l : Lot} {ls : List Lot} {us : List V}
theorem LotAt.ex (h : LotAt K H v l) (e : Ex H H') : LotAt K H' v l := by
  obtain ⟨p, h1, h2⟩ := h
  exact ⟨p, h1, ex_t e h2⟩
theorem LotAt.exB {q : Addr} {ys : List V} (h : LotAt K H v l) (e : ExB q H H') (hq : H q = some (.lst ys)) : LotAt K H' v l := by
  obtain ⟨p, h1, h2⟩ := h
  exact ⟨p, h1, e.t hq h2⟩
theorem LotsA.ex' (h : LotsA K H us ls) (e : Ex H H') : LotsA K H' us ls := All2.mono (fun _ _ r => r.ex e) h
theorem LotsA.exB' {q : Addr} {ys : List V} (h : LotsA K H us ls) (e : ExB q H H') (hq : H q = some (.lst ys)) : LotsA K H' us ls := All2.mono (fun _ _ r => r.exB e hq) h
theorem HerdAt.ex (h : HerdAt K H v ls) (e : Ex H H') : HerdAt K H' v ls := by
  obtain ⟨a, us, h1, h2, h3⟩ := h
  exact ⟨a, us, h1, ex_t e h2, LotsA.ex' h3 e⟩
theorem HerdAt.exB {q : Addr} {n : Nat} (h : HerdAt K H v ls) (e : ExB q H H') (hq : Bx H q n) : HerdAt K H' v ls := by
  obtain ⟨a, us, h1, h2, h3⟩ := h
  obtain ⟨xs, hx⟩ := hq.lst
  exact ⟨a, us, h1, e.t hx h2, LotsA.exB' h3 e hx⟩
end
def alikeB (acc : List Lot) (s t : Int) : Bool := match acc.getLast? with
  | some l => decide (l.1 = s ∧ l.2.1 = t)
  | none => false
def popL (acc : List Lot) (s t : Int) : List Lot := if alikeB acc s t = true then acc.dropLast else acc
def befL (acc : List Lot) (s t : Int) : Int := if alikeB acc s t = true then (acc.getLast?.getD (0, 0, 0)).2.2 else 0
def packStep (acc : List Lot) (l : Lot) : List Lot := popL acc l.1 l.2.1 ++ [(l.1, l.2.1, befL acc l.1 l.2.1 + l.2.2)]
def packL (ls : List Lot) : List Lot := ls.foldl packStep []
def ones (rs : HH.Row) : List Lot := rs.map fun b => (b.1, b.2, 1)
def sprR (ls : List Lot) : HH.Row := ls.flatMap fun l => List.replicate l.2.2.toNat (l.1, l.2.1)
theorem alike_snoc (acc : List Lot) (l : Lot) (s t : Int) : alikeB (acc ++ [l]) s t = decide (l.1 = s ∧ l.2.1 = t) := by
  unfold alikeB
  rw [List.getLast?_concat]
theorem spr_app (a b : List Lot) : sprR (a ++ b) = sprR a ++ sprR b := List.flatMap_append ..
theorem alike_ex {acc : List Lot} {s t : Int} (h : alikeB acc s t = true) : ∃ pre m, acc = pre ++ [(s, t, m)] := by
  unfold alikeB at h
  cases c : acc.getLast? with
  | none => rw [c] at h; cases h
  | some l =>
    rw [c] at h
    have h := of_decide_eq_true h
    have hne : acc ≠ [] := fun z => by rw [z] at c; cases c
    refine ⟨acc.dropLast, l.2.2, ?_⟩
    have e := List.dropLast_concat_getLast hne
    rw [List.getLast?_eq_some_getLast hne] at c
    have c := Option.some.inj c
    rw [c] at e
    rw [← h.1, ← h.2]
    exact e.symm
theorem step_alike (pre : List Lot) (s t m k : Int) : packStep (pre ++ [(s, t, m)]) (s, t, k) = pre ++ [(s, t, m + k)] := by
  unfold packStep popL befL
  have e : alikeB (pre ++ [(s, t, m)]) s t = true := by rw [alike_snoc]; exact decide_eq_true ⟨rfl, rfl⟩
  show (if alikeB (pre ++ [(s, t, m)]) s t = true then _ else _) ++ [(s, t, (if alikeB (pre ++ [(s, t, m)]) s t = true then _ else _) + k)] = _
  rw [if_pos e, if_pos e, List.dropLast_concat, List.getLast?_concat]
  rfl
theorem step_other {acc : List Lot} {s t k : Int} (h : alikeB acc s t = false) : packStep acc (s, t, k) = acc ++ [(s, t, k)] := by
  unfold packStep popL befL
  show (if alikeB acc s t = true then _ else _) ++ [(s, t, (if alikeB acc s t = true then _ else _) + k)] = _
  rw [if_neg (by rw [h]; exact Bool.false_ne_true), if_neg (by rw [h]; exact Bool.false_ne_true), Int.zero_add]
def PosL (ls : List Lot) : Prop := ∀ l ∈ ls, 1 ≤ l.2.2
theorem step_pos {acc : List Lot} {l : Lot} (h : PosL acc) (hl : 1 ≤ l.2.2) : PosL (packStep acc l) := by
  obtain ⟨s, t, k⟩ := l
  cases c : alikeB acc s t with
  | true =>
    obtain ⟨pre, m, rfl⟩ := alike_ex c
    rw [step_alike]
    intro x hx
    rcases List.mem_append.mp hx with g | g
    · exact h x (List.mem_append_left _ g)
    · rw [List.mem_singleton.mp g]
      have := h (s, t, m) (by simp)
      show 1 ≤ m + k
      have hl : 1 ≤ k := hl
      have this : 1 ≤ m := this
      omega
  | false =>
    rw [step_other c]
    intro x hx
    rcases List.mem_append.mp hx with g | g
    · exact h x g
    · rw [List.mem_singleton.mp g]
      exact hl
theorem fold_pos : ∀ (ls acc : List Lot), PosL acc → PosL ls → PosL (ls.foldl packStep acc)
  | [], acc, h, _ => h
  | l :: ls, acc, h, g => fold_pos ls (packStep acc l) (step_pos h (g l (List.mem_cons_self ..))) fun x hx => g x (List.mem_cons_of_mem _ hx)
theorem packL_pos {ls : List Lot} (h : PosL ls) : PosL (packL ls) := fold_pos ls [] (fun x hx => nomatch hx) h
theorem step_spr {acc : List Lot} {l : Lot} (h : PosL acc) (hl : 1 ≤ l.2.2) : sprR (packStep acc l) = sprR acc ++ List.replicate l.2.2.toNat (l.1, l.2.1) := by
  obtain ⟨s, t, k⟩ := l
  have one : ∀ m : Int, sprR [(s, t, m)] = List.replicate m.toNat (s, t) := fun m => by
    unfold sprR
    simp
  cases c : alikeB acc s t with
  | true =>
    obtain ⟨pre, m, rfl⟩ := alike_ex c
    have hm : 1 ≤ m := h (s, t, m) (by simp)
    have hk : 1 ≤ k := hl
    rw [step_alike, spr_app, spr_app, one, one, List.append_assoc, List.replicate_append_replicate, show m.toNat + k.toNat = (m + k).toNat by omega]
  | false =>
    rw [step_other c, spr_app, one]
theorem fold_spr : ∀ (ls acc : List Lot), PosL acc → PosL ls → sprR (ls.foldl packStep acc) = sprR acc ++ sprR ls
  | [], acc, _, _ => by
    show sprR acc = sprR acc ++ []
    rw [List.append_nil]
  | l :: ls, acc, h, g => by
    have hl := g l (List.mem_cons_self ..)
    rw [List.foldl_cons, fold_spr ls _ (step_pos h hl) (fun x hx => g x (List.mem_cons_of_mem _ hx)), step_spr h hl, List.append_assoc]
    congr 1
theorem packL_spr {ls : List Lot} (h : PosL ls) : sprR (packL ls) = sprR ls := by
  have := fold_spr ls [] (fun x hx => nomatch hx) h
  exact this
theorem ones_pos (rs : HH.Row) : PosL (ones rs) := fun l hl => by
  obtain ⟨b, _, rfl⟩ := List.mem_map.mp hl
  exact Int.le_refl 1
theorem ones_spr : ∀ rs : HH.Row, sprR (ones rs) = rs
  | [] => rfl
  | b :: rs => by
    have := ones_spr rs
    unfold ones sprR at this ⊢
    rw [List.map_cons, List.flatMap_cons, this]
    rfl
section
variable {K : PySem.W.Frag} {σ : L2.St} {H H' : Hp} {te : TE} {v : V} {Q : VK}
end
section
variable {X : Cx}
end
end HH
set_option maxHeartbeats 4000000
namespace HH
open PySem PySem.Spec PyProof.Rows L2 Evl RZ
def manyP (spare toll many : Int) : Int := if spare ≤ 0 then 0 else if toll = 0 then many else if (spare - 1) / toll < many then (spare - 1) / toll else many
def lS (ls : List Lot) (i : Nat) : Int := (ls[i]?.getD (0, 0, 0)).1
def lT (ls : List Lot) (i : Nat) : Int := (ls[i]?.getD (0, 0, 0)).2.1
def lM (ls : List Lot) (i : Nat) : Int := (ls[i]?.getD (0, 0, 0)).2.2
def goL (st : List Int) (ls : List Lot) (w : Nat) : HH.Row → HH.Row → Int → Int → HH.Row × Int × Int
  | [], B, s, t => (((w : Int), lM ls w) :: B, s, t)
  | x :: r, B, s, t =>
    if manyP (s - st.getD x.1.toNat 0) (lT ls x.1.toNat) x.2 < x.2 then
      (if manyP (s - st.getD x.1.toNat 0) (lT ls x.1.toNat) x.2 > 0 then r.reverse ++ (x.1, x.2 - manyP (s - st.getD x.1.toNat 0) (lT ls x.1.toNat) x.2) :: ((w : Int), lM ls w) :: (x.1, manyP (s - st.getD x.1.toNat 0) (lT ls x.1.toNat) x.2) :: B else r.reverse ++ x :: ((w : Int), lM ls w) :: B,
        s - manyP (s - st.getD x.1.toNat 0) (lT ls x.1.toNat) x.2 * lT ls x.1.toNat, t + manyP (s - st.getD x.1.toNat 0) (lT ls x.1.toNat) x.2)
    else goL st ls w r (x :: B) (s - manyP (s - st.getD x.1.toNat 0) (lT ls x.1.toNat) x.2 * lT ls x.1.toNat) (t + manyP (s - st.getD x.1.toNat 0) (lT ls x.1.toNat) x.2)
def endG (ls : List Lot) : Nat → HH.Row × List Int × List Int
  | 0 => ([], ls.map (·.1), [])
  | w + 1 => let e := endG ls w; let R := goL e.2.1 ls w e.1.reverse [] (e.2.1.getD w 0) 0; (R.1, e.2.1.set w R.2.1, e.2.2 ++ [R.2.2])
def Fit (ls : List Lot) : Prop := ls.length ≤ 100 ∧ ∀ l ∈ ls, 0 ≤ l.2.1 ∧ l.2.1 < 1152921504606846976 ∧ 0 ≤ l.2.2 ∧ l.2.2 < 1152921504606846976
theorem lot_get {ls : List Lot} {i : Nat} (h : i < ls.length) : ls[i]? = some (lS ls i, lT ls i, lM ls i) := by
  unfold lS lT lM
  rw [List.getElem?_eq_getElem h]
  rfl
theorem Fit.at' {ls : List Lot} (h : Fit ls) {i : Nat} (hi : i < ls.length) : 0 ≤ lT ls i ∧ lT ls i < 1152921504606846976 ∧ 0 ≤ lM ls i ∧ lM ls i < 1152921504606846976 := h.2 _ (List.mem_of_getElem? (lot_get hi))
def Bel (w : Nat) (line : HH.Row) : Prop := ∀ x ∈ line, ∃ j : Nat, x.1 = (j : Int) ∧ j < w
theorem Bel.app {w : Nat} {a b : HH.Row} (h : Bel w a) (g : Bel w b) : Bel w (a ++ b) := fun x hx => (List.mem_append.mp hx).elim (h x) (g x)
theorem Bel.up {w : Nat} {a : HH.Row} (h : Bel w a) : Bel (w + 1) a := fun x hx => by
  obtain ⟨j, e, hj⟩ := h x hx
  exact ⟨j, e, by omega⟩
def goF (st : List Int) (ls : List Lot) (w : Nat) : List Nat → List Nat → Int → List Nat × Int
  | pre, [], s => (pre ++ [w], s)
  | pre, x :: r, s => if s > st.getD x 0 then goF st ls w (pre ++ [x]) r (s + lM ls x * lT ls x) else (pre ++ w :: x :: r, s)
def begG (ls : List Lot) (n : Nat) : Nat → List Nat × List Int
  | 0 => ([], ls.map (·.1))
  | k + 1 => let e := begG ls n k; let R := goF e.2 ls (n - (k + 1)) [] e.1 (e.2.getD (n - (k + 1)) 0); (R.1, e.2.set (n - (k + 1)) R.2)
def lastLots (ls : List Lot) : List Lot := (endG ls ls.length).1.map fun x => ((endG ls ls.length).2.1.getD x.1.toNat 0, lT ls x.1.toNat, x.2)
def firstLots (ls : List Lot) : List Lot := (begG ls ls.length ls.length).1.map fun x => ((begG ls ls.length ls.length).2.getD x 0, lT ls x, lM ls x)
end HH
set_option maxHeartbeats 4000000
namespace HH
open PySem PySem.Spec PyProof.Rows L2 Evl RZ
section
variable {K : PySem.W.Frag} {H H' H0 H1 H2 : Hp} {σ : L2.St} {te ta tb tc ti : TE} {D : Ends} {v : V} {ls : List Lot} {tz : TS}
theorem HerdAt.exL {q : Addr} {ys : List V} (h : HerdAt K H v ls) (e : ExB q H H') (hq : H q = some (.lst ys)) : HerdAt K H' v ls := by
  obtain ⟨a, us, h1, h2, h3⟩ := h
  exact ⟨a, us, h1, e.t hq h2, LotsA.exB' h3 e hq⟩
theorem sqt_ex2 {a b c : Addr} {xs ys zs : List V} (h : SqT K H c zs) (e : ExB2 a b H H') (ha : H a = some (.lst xs)) (hb : H b = some (.lst ys)) : SqT K H' c zs := by
  rcases h with h | h
  · refine .inl ?_
    rcases h with h | ⟨o, h⟩
    · exact .inl (e c _ (fun z => by rw [z, ha] at h; cases h) (fun z => by rw [z, hb] at h; cases h) h)
    · exact .inr ⟨o, e c _ (fun z => by rw [z, ha] at h; cases h) (fun z => by rw [z, hb] at h; cases h) h⟩
  · exact .inr h
theorem HerdAt.ex2 {a b : Addr} {xs ys : List V} (h : HerdAt K H v ls) (e : ExB2 a b H H') (ha : H a = some (.lst xs)) (hb : H b = some (.lst ys)) : HerdAt K H' v ls := by
  obtain ⟨c, us, h1, h2, h3⟩ := h
  exact ⟨c, us, h1, sqt_ex2 h2 e ha hb, All2.mono (fun _ _ ⟨p, g1, g2⟩ => ⟨p, g1, sqt_ex2 g2 e ha hb⟩) h3⟩
theorem ExB2.of {a b : Addr} (e : Ex H H') : ExB2 a b H H' := fun c o _ _ h => e c o h
theorem ExB2.trans {a b : Addr} (x : ExB2 a b H H1) (y : ExB2 a b H1 H2) : ExB2 a b H H2 := fun c o n1 n2 h => y c o n1 n2 (x c o n1 n2 h)
theorem ExB2.fst {a b : Addr} {o : HO} (x : ExB2 a b H H') : ExB2 a b H (upd H' a o) := fun c u n1 n2 h => by
  rw [upd_ne n1]
  exact x c u n1 n2 h
theorem ExB2.snd {a b : Addr} {o : HO} (x : ExB2 a b H H') : ExB2 a b H (upd H' b o) := fun c u n1 n2 h => by
  rw [upd_ne n2]
  exact x c u n1 n2 h
end
end HH
set_option maxHeartbeats 4000000
namespace HH
open PySem PySem.Spec PyProof.Rows L2 Evl RZ
def stepA (ah : List Nat) (pr : Int × Int) : List Nat := ah.set pr.2.toNat (putB (ah.getD pr.2.toNat 0) pr.1.toNat)
def aheadF (kp : HH.Row) (n : Nat) : List Nat := kp.foldl stepA (List.replicate n 0)
theorem stepA_len (ah : List Nat) (pr : Int × Int) : (stepA ah pr).length = ah.length := List.length_set ..
theorem foldA_len : ∀ (kp : HH.Row) (ah : List Nat), (kp.foldl stepA ah).length = ah.length
  | [], _ => rfl
  | pr :: kp, ah => by
    rw [List.foldl_cons, foldA_len kp, stepA_len]
theorem ahead_len (kp : HH.Row) (n : Nat) : (aheadF kp n).length = n := by
  unfold aheadF
  rw [foldA_len, List.length_replicate]
def keptT (E B : List Cow) (n : Nat) : HH.Row := tabP (keepP (E.map (·.1)) (B.map (·.1))) n n
theorem valV_put {κ : Type} [DecidableEq κ] {kvs : List (κ × V)} {k : κ} {v : V} : valV (putK kvs k v) k = some v := by
  unfold putK
  split
  · rename_i h
    rw [valV_map]
    rw [valV_any] at h
    obtain ⟨x, hx⟩ := Option.isSome_iff_exists.mp h
    rw [hx, Option.map_some, if_pos rfl]
  · rename_i h
    rw [valV_any] at h
    have : valV kvs k = none := by
      cases e : valV kvs k with
      | none => rfl
      | some x => rw [e] at h; exact absurd rfl h
    rw [valV_snoc k k v kvs this, if_pos rfl]
section
variable {K : PySem.W.Frag} {σ : L2.St} {H H' : Hp} {ta tb tc ti te : TE} {D : Ends} {tz : TS}
end
end HH
set_option maxHeartbeats 4000000
namespace HH
open PySem PySem.Spec PyProof.Rows L2 Evl RZ
def extB (ah : List Nat) : Nat → Nat → List (List Nat)
  | 0, s => if s = 2 ^ ah.length - 1 then [[]] else []
  | k + 1, s => (nextB ah s).flatMap fun w => (extB ah k (putB s w)).map (w :: ·)
def extF (ah : List Nat) (s : Nat) : List (List Nat) := extB ah (leftB ah.length s) s
theorem ext_lenB {ah : List Nat} : ∀ (k s : Nat), s < 2 ^ ah.length → leftB ah.length s = k → (extB ah k s).length = cntB ah k s
  | 0, s, hs, hk => by
    have := (left_0 hs).mp hk
    show (if s = _ then _ else _ : List (List Nat)).length = if s = _ then 1 else 0
    rw [if_pos this, if_pos this]
    rfl
  | k + 1, s, hs, hk => by
    have nf : ¬ s = 2 ^ ah.length - 1 := fun z => by
      have := (left_0 hs).mpr z
      omega
    show ((nextB ah s).flatMap fun w => (extB ah k (putB s w)).map (w :: ·)).length = (if s = _ then 1 else 0) + _
    rw [if_neg nf, List.length_flatMap, Nat.zero_add]
    congr 1
    refine List.map_congr_left fun w hw => ?_
    obtain ⟨h1, h2, _⟩ := mem_nextB.mp hw
    have hl := left_put h1 h2
    rw [List.length_map, ext_lenB k (putB s w) (put_lt hs h1) (by omega)]
theorem ext_len {ah : List Nat} {s : Nat} (hs : s < 2 ^ ah.length) : (extF ah s).length = cntF ah s := ext_lenB _ _ hs rfl
theorem extF_at {ah : List Nat} {s k : Nat} (hk : leftB ah.length s = k + 1) : extF ah s = (nextB ah s).flatMap fun w => (extF ah (putB s w)).map (w :: ·) := by
  unfold extF
  rw [hk]
  show List.flatMap _ _ = _
  rw [List.flatMap_def, List.flatMap_def]
  congr 1
  refine List.map_congr_left fun w hw => ?_
  obtain ⟨h1, h2, _⟩ := mem_nextB.mp hw
  have hl := left_put h1 h2
  rw [show leftB ah.length (putB s w) = k by omega]
theorem ext_full {ah : List Nat} {s : Nat} (hs : s < 2 ^ ah.length) (hk : leftB ah.length s = 0) : extF ah s = [[]] := by
  unfold extF
  rw [hk]
  exact if_pos ((left_0 hs).mp hk)
end HH
set_option maxHeartbeats 4000000
namespace HH
open PySem PySem.Spec PyProof.Rows L2 Evl RZ
def PairsLt (kp : HH.Row) (n : Nat) : Prop := ∀ x ∈ kp, ∃ i j : Nat, i < j ∧ j < n ∧ x = ((i : Int), (j : Int))
theorem keptT_lt (E B : List Cow) (n : Nat) : PairsLt (keptT E B n) n := fun x hx => by
  obtain ⟨i, j, h1, h2, h3, _⟩ := mem_tabP.mp hx
  exact ⟨i, j, h1, h2, h3⟩
theorem getD_setN {l : List Nat} {i w v : Nat} (hi : i < l.length) : (l.set i v).getD w 0 = if w = i then v else l.getD w 0 := by
  rw [List.getD_eq_getElem?_getD, List.getD_eq_getElem?_getD, List.getElem?_set]
  by_cases c : i = w
  · rw [if_pos c, if_pos c.symm, if_pos (by omega)]
    rfl
  · rw [if_neg c, if_neg fun z => c z.symm]
theorem fold_bits {n : Nat} : ∀ {kp : HH.Row} {ah : List Nat}, PairsLt kp n → ah.length = n → ∀ w j : Nat, ((kp.foldl stepA ah).getD w 0).testBit j = ((ah.getD w 0).testBit j || decide ((((j : Int), (w : Int)) : Int × Int) ∈ kp))
  | [], ah, _, _, w, j => by simp
  | x :: kp, ah, h, hl, w, j => by
    obtain ⟨i, k, h1, h2, rfl⟩ := h _ (List.mem_cons_self ..)
    rw [List.foldl_cons, fold_bits (fun y hy => h y (List.mem_cons_of_mem _ hy)) (by rw [stepA_len]; exact hl)]
    unfold stepA
    rw [Int.toNat_natCast, Int.toNat_natCast, getD_setN (by omega)]
    by_cases c : w = k
    · subst c
      rw [if_pos rfl, put_bit, Bool.or_assoc]
      congr 1
      have e : decide ((((j : Int), (w : Int)) : Int × Int) ∈ (((i : Int), (w : Int)) : Int × Int) :: kp) = (decide (j = i) || decide ((((j : Int), (w : Int)) : Int × Int) ∈ kp)) := by
        rw [← Bool.decide_or]
        refine decide_eq_decide.mpr ?_
        rw [List.mem_cons]
        constructor
        · rintro (z | z)
          · exact .inl (by have := congrArg Prod.fst z; dsimp only at this; omega)
          · exact .inr z
        · rintro (z | z)
          · exact .inl (by rw [z])
          · exact .inr z
      rw [e]
    · rw [if_neg c]
      congr 1
      refine decide_eq_decide.mpr ?_
      rw [List.mem_cons]
      constructor
      · exact .inr
      · rintro (z | z)
        · exact absurd (by have := congrArg Prod.snd z; dsimp only at this; omega) c
        · exact z
theorem ahead_bit {n : Nat} {kp : HH.Row} (h : PairsLt kp n) (w j : Nat) : ((aheadF kp n).getD w 0).testBit j = decide ((((j : Int), (w : Int)) : Int × Int) ∈ kp) := by
  unfold aheadF
  rw [fold_bits h (List.length_replicate ..)]
  have : (List.replicate n 0).getD w 0 = 0 := by
    rw [List.getD_eq_getElem?_getD, List.getElem?_replicate]
    split <;> rfl
  rw [this, Nat.zero_testBit, Bool.false_or]
def maskL (P : List Nat) : Nat := P.foldl putB 0
theorem mask_snoc (P : List Nat) (w : Nat) : maskL (P ++ [w]) = putB (maskL P) w := by
  unfold maskL
  rw [List.foldl_append]
  rfl
theorem fold_put : ∀ (P : List Nat) (s j : Nat), (P.foldl putB s).testBit j = (s.testBit j || decide (j ∈ P))
  | [], s, j => by simp
  | w :: P, s, j => by
    rw [List.foldl_cons, fold_put P, put_bit, Bool.or_assoc]
    congr 1
    rw [← Bool.decide_or]
    exact decide_eq_decide.mpr List.mem_cons.symm
theorem mask_bit (P : List Nat) (j : Nat) : (maskL P).testBit j = decide (j ∈ P) := by
  unfold maskL
  rw [fold_put, Nat.zero_testBit, Bool.false_or]
def OkT (ah : List Nat) : Nat → List Nat → Prop
  | s, [] => leftB ah.length s = 0
  | s, w :: t => w ∈ nextB ah s ∧ OkT ah (putB s w) t
theorem okT_mem {ah : List Nat} : ∀ (k : Nat) {s : Nat} {l : List Nat}, s < 2 ^ ah.length → leftB ah.length s = k → (l ∈ extF ah s ↔ OkT ah s l)
  | 0, s, l, hs, hk => by
    rw [ext_full hs hk, List.mem_singleton]
    cases l with
    | nil => exact ⟨fun _ => hk, fun _ => rfl⟩
    | cons w t =>
      refine ⟨fun z => (nomatch z), fun z => ?_⟩
      obtain ⟨m1, m2, _⟩ := mem_nextB.mp z.1
      have := left_put m1 m2
      omega
  | k + 1, s, l, hs, hk => by
    rw [extF_at hk, List.mem_flatMap]
    cases l with
    | nil =>
      refine ⟨fun ⟨w, _, h⟩ => ?_, fun z => ?_⟩
      · obtain ⟨_, _, z⟩ := List.mem_map.mp h
        cases z
      · have z : leftB ah.length s = 0 := z
        omega
    | cons w t =>
      constructor
      · rintro ⟨w', hw, h⟩
        obtain ⟨t', ht, z⟩ := List.mem_map.mp h
        cases z
        obtain ⟨m1, m2, _⟩ := mem_nextB.mp hw
        have := left_put m1 m2
        exact ⟨hw, (okT_mem k (put_lt hs m1) (by omega)).mp ht⟩
      · rintro ⟨hw, ht⟩
        obtain ⟨m1, m2, _⟩ := mem_nextB.mp hw
        have := left_put m1 m2
        exact ⟨w, hw, List.mem_map.mpr ⟨t, (okT_mem k (put_lt hs m1) (by omega)).mpr ht, rfl⟩⟩
theorem okT_of {n : Nat} {kp : HH.Row} (hk : PairsLt kp n) : ∀ {l P : List Nat}, (P ++ l).Perm (List.range n) → (∀ i j : Nat, (((i : Int), (j : Int)) : Int × Int) ∈ kp → j ∈ l → i ∈ P ∨ bef l i j = true) → OkT (aheadF kp n) (maskL P) l
  | [], P, pm, _ => by
    show leftB _ _ = 0
    unfold leftB
    rw [ahead_len, List.length_eq_zero_iff, List.filter_eq_nil_iff]
    intro x hx
    rw [List.append_nil] at pm
    rw [mask_bit, decide_eq_true (pm.mem_iff.mpr hx)]
    decide
  | w :: t, P, pm, h => by
    have nd : (P ++ w :: t).Nodup := pm.nodup_iff.mpr List.nodup_range
    have nd' := List.nodup_append.mp nd
    have wn : w < n := List.mem_range.mp (pm.mem_iff.mp (List.mem_append_right _ (List.mem_cons_self ..)))
    have wP : w ∉ P := fun z => nd'.2.2 w z w (List.mem_cons_self ..) rfl
    refine ⟨mem_nextB.mpr ⟨by rw [ahead_len]; exact wn, by rw [mask_bit]; exact decide_eq_false wP, Nat.eq_of_testBit_eq fun j => ?_⟩, ?_⟩
    · rw [Nat.testBit_and, mask_bit, ahead_bit hk]
      by_cases c : (((j : Int), (w : Int)) : Int × Int) ∈ kp
      · rcases h j w c (List.mem_cons_self ..) with z | z
        · rw [decide_eq_true z, Bool.and_true]
        · rcases bef_cons.mp z with ⟨z1, z2⟩ | z1
          · subst z1
            exact absurd z2 (List.nodup_cons.mp nd'.2.1).1
          · exact absurd (bef_mem z1).2 (List.nodup_cons.mp nd'.2.1).1
      · rw [decide_eq_false c, Bool.false_and]
    · rw [← mask_snoc]
      refine okT_of hk (by rw [List.append_assoc]; exact pm) fun i j hij hj => ?_
      rcases h i j hij (List.mem_cons_of_mem _ hj) with z | z
      · exact .inl (List.mem_append_left _ z)
      · rcases bef_cons.mp z with ⟨z1, _⟩ | z1
        · exact .inl (List.mem_append_right _ (by rw [z1]; exact List.mem_singleton_self _))
        · exact .inr z1
theorem okT_to {n : Nat} {kp : HH.Row} (hk : PairsLt kp n) : ∀ {l P : List Nat}, P.Nodup → (∀ x ∈ P, x < n) → OkT (aheadF kp n) (maskL P) l → (P ++ l).Perm (List.range n) ∧ ∀ i j : Nat, (((i : Int), (j : Int)) : Int × Int) ∈ kp → j ∈ l → i ∈ P ∨ bef l i j = true
  | [], P, nd, lt, h => by
    have h : leftB _ _ = 0 := h
    unfold leftB at h
    rw [ahead_len, List.length_eq_zero_iff, List.filter_eq_nil_iff] at h
    refine ⟨?_, fun i j _ z => nomatch z⟩
    rw [List.append_nil]
    refine (List.perm_ext_iff_of_nodup nd List.nodup_range).mpr fun x => ⟨fun hx => List.mem_range.mpr (lt x hx), fun hx => ?_⟩
    have := h x hx
    rw [mask_bit] at this
    simpa using this
  | w :: t, P, nd, lt, ⟨hw, ht⟩ => by
    obtain ⟨m1, m2, m3⟩ := mem_nextB.mp hw
    rw [ahead_len] at m1
    rw [mask_bit] at m2
    have wP : w ∉ P := of_decide_eq_false m2
    rw [← mask_snoc] at ht
    have ih := okT_to hk (P := P ++ [w]) (List.nodup_append.mpr ⟨nd, List.pairwise_singleton _ _, fun a ha b hb z => wP (by rw [← List.mem_singleton.mp hb, ← z]; exact ha)⟩) (fun x hx => by
      rcases List.mem_append.mp hx with z | z
      · exact lt x z
      · rw [List.mem_singleton.mp z]
        exact m1) ht
    refine ⟨by have := ih.1; rw [List.append_assoc] at this; exact this, fun i j hij hj => ?_⟩
    rcases List.mem_cons.mp hj with z | z
    · subst z
      refine .inl ?_
      have b : ((aheadF kp n).getD j 0).testBit i = true := by rw [ahead_bit hk]; exact decide_eq_true hij
      have : ((aheadF kp n).getD j 0 &&& maskL P).testBit i = ((aheadF kp n).getD j 0).testBit i := by rw [m3]
      rw [Nat.testBit_and, b, mask_bit, Bool.true_and] at this
      exact of_decide_eq_true this
    · rcases ih.2 i j hij z with y | y
      · rcases List.mem_append.mp y with x | x
        · exact .inl x
        · rw [List.mem_singleton.mp x]
          exact .inr (bef_cons.mpr (.inl ⟨rfl, z⟩))
      · exact .inr (bef_cons.mpr (.inr y))
theorem ext_mem {n : Nat} {kp : HH.Row} (hk : PairsLt kp n) {l : List Nat} : l ∈ extF (aheadF kp n) 0 ↔ l.Perm (List.range n) ∧ ∀ i j : Nat, (((i : Int), (j : Int)) : Int × Int) ∈ kp → bef l j i = false := by
  rw [okT_mem _ (Nat.two_pow_pos _) rfl]
  have z : (0 : Nat) = maskL [] := rfl
  rw [z]
  constructor
  · intro h
    obtain ⟨h1, h2⟩ := okT_to hk List.nodup_nil (fun x hx => nomatch hx) h
    rw [List.nil_append] at h1
    have nd : l.Nodup := h1.nodup_iff.mpr List.nodup_range
    refine ⟨h1, fun i j hij => ?_⟩
    obtain ⟨i', j', a1, a2, a3⟩ := hk _ hij
    have e1 : (i : Int) = (i' : Int) := congrArg Prod.fst a3
    have e2 : (j : Int) = (j' : Int) := congrArg Prod.snd a3
    rcases h2 i j hij (h1.mem_iff.mpr (List.mem_range.mpr (by omega))) with y | y
    · cases y
    · exact bef_asym nd y
  · rintro ⟨h1, h2⟩
    have nd : l.Nodup := h1.nodup_iff.mpr List.nodup_range
    refine okT_of hk (by rw [List.nil_append]; exact h1) fun i j hij hj => .inr ?_
    obtain ⟨i', j', a1, a2, a3⟩ := hk _ hij
    have e1 : (i : Int) = (i' : Int) := congrArg Prod.fst a3
    have e2 : (j : Int) = (j' : Int) := congrArg Prod.snd a3
    exact bef_tot hj (h1.mem_iff.mpr (List.mem_range.mpr (by omega))) (by omega) (h2 i j hij)
theorem ext_keeps {rs : HH.Row} {E B : List Cow} (tl : ∀ x ∈ rs, 0 ≤ x.2) (sE : Steps (tag 0 rs) E) (nE : Nf E) (sB : FSteps (tag 0 rs) B) (nB : Ff B) {l : List Nat} : l ∈ extF (aheadF (keptT E B rs.length) rs.length) 0 ↔ Keeps rs l := by
  rw [ext_mem (keptT_lt E B _)]
  constructor
  · rintro ⟨h1, h2⟩
    refine ⟨h1, fun E' B' sE' nE' sB' nB' i j a1 a2 a3 a4 => ?_⟩
    have t0 : ∀ x ∈ tag 0 rs, 0 ≤ x.2.2 := (good_tag tl).tl
    rw [nf_any t0 sE' nE' sE nE] at a3
    rw [ff_any t0 sB' nB' sB nB] at a4
    exact h2 i j (mem_tabP.mpr ⟨i, j, a1, a2, rfl, (keep_iff a1).mpr ⟨a3, a4⟩⟩)
  · intro k
    refine ⟨k.ids, fun i j hij => ?_⟩
    obtain ⟨i', j', a1, a2, a3, a4⟩ := mem_tabP.mp hij
    have e1 : (i : Int) = (i' : Int) := congrArg Prod.fst a3
    have e2 : (j : Int) = (j' : Int) := congrArg Prod.snd a3
    obtain ⟨b1, b2⟩ := (keep_iff a1).mp a4
    rw [show i = i' by omega, show j = j' by omega]
    exact k.kp E B sE nE sB nB i' j' a1 a2 b1 b2
theorem MRun.cat {L0 L1 L2 : List Cow} {d1 d2 : List Deed} (r1 : MRun L0 L1 d1) (r2 : MRun L1 L2 d2) : MRun L0 L2 (d1 ++ d2) := by
  induction r2 with
  | nil => rw [List.append_nil]; exact r1
  | pass r h ih => rw [← List.append_assoc]; exact ih.pass h
  | fall r h ih => rw [← List.append_assoc]; exact ih.fall h
theorem MRun.maps {f : Nat → Nat} {L0 L : List Cow} {ds : List Deed} (r : MRun L0 L ds) : MRun (rlL f L0) (rlL f L) ds := by
  induction r with
  | nil => exact .nil
  | @pass pre post a b ds r h ih =>
    have e1 : rlL f (pre ++ a :: b :: post) = rlL f pre ++ rl f a :: rl f b :: rlL f post := by unfold rlL; rw [List.map_append]; rfl
    have e2 : rlL f (pre ++ (b.1, (b.2.1 - a.2.2, b.2.2)) :: a :: post) = rlL f pre ++ (f b.1, (b.2.1 - a.2.2, b.2.2)) :: rl f a :: rlL f post := by unfold rlL; rw [List.map_append]; rfl
    rw [e1] at ih
    rw [e2]
    have := ih.pass (a := rl f a) (b := rl f b) h
    rw [show (rlL f pre).length = pre.length from List.length_map ..] at this
    exact this
  | @fall pre post a b ds r h ih =>
    have e1 : rlL f (pre ++ a :: b :: post) = rlL f pre ++ rl f a :: rl f b :: rlL f post := by unfold rlL; rw [List.map_append]; rfl
    have e2 : rlL f (pre ++ b :: (a.1, (a.2.1 + b.2.2, a.2.2)) :: post) = rlL f pre ++ rl f b :: (f a.1, (a.2.1 + b.2.2, a.2.2)) :: rlL f post := by unfold rlL; rw [List.map_append]; rfl
    rw [e1] at ih
    rw [e2]
    have := ih.fall (a := rl f a) (b := rl f b) h
    rw [show (rlL f pre).length = pre.length from List.length_map ..] at this
    exact this
theorem tolls_run {rs : HH.Row} {L : List Cow} {ds : List Deed} (tl : ∀ x ∈ rs, 0 ≤ x.2) (r : MRun (tag 0 rs) L ds) : ∀ b ∈ rowsOf L, 0 ≤ b.2 := by
  have t0 : ∀ x ∈ tag 0 rs, 0 ≤ x.2.2 := (good_tag tl).tl
  obtain ⟨E, sE, nE⟩ := nf_is t0
  obtain ⟨B, sB, nB⟩ := ff_is t0
  exact tolls_rows (r.both t0 sE nE sB nB).1
end HH
set_option maxHeartbeats 4000000
namespace HH
open PySem PySem.Spec PyProof.Rows L2 Evl RZ
abbrev ahOf (E B : List Cow) (rs : HH.Row) : List Nat := aheadF (keptT E B rs.length) rs.length
structure EndsOf (rs : HH.Row) (E B : List Cow) : Prop where
  sE : Steps (tag 0 rs) E
  nE : Nf E
  sB : FSteps (tag 0 rs) B
  nB : Ff B
section
variable {K : PySem.W.Frag} {σ : L2.St} {H : Hp} {tl : TE}
end
end HH
set_option maxHeartbeats 4000000
namespace HH
open PySem PySem.Spec PyProof.Rows L2 Evl
end HH
set_option maxHeartbeats 4000000
namespace HH
open PySem PySem.Spec PyProof.Rows Srt SrtO
theorem lexLt_asym : ∀ {a b : List Int}, HT.lexLt a b = true → HT.lexLt b a = false
  | [], [], h => nomatch h
  | [], _ :: _, _ => rfl
  | _ :: _, [], h => nomatch h
  | x :: xs, y :: ys, h => by
    rw [HT.lexLt_cons] at h ⊢
    by_cases e : x = y
    · subst e
      rw [if_pos rfl] at h ⊢
      exact lexLt_asym h
    · rw [if_neg e] at h
      rw [if_neg fun z => e z.symm]
      have := of_decide_eq_true h
      exact decide_eq_false (by omega)
theorem lexLt_tr : ∀ {a b c : List Int}, HT.lexLt b a = false → HT.lexLt c b = false → HT.lexLt c a = false
  | [], b, c, _, _ => by cases c <;> rfl
  | x :: xs, [], _, h, _ => nomatch h
  | x :: xs, y :: ys, [], _, h => nomatch h
  | x :: xs, y :: ys, z :: zs, h1, h2 => by
    rw [HT.lexLt_cons] at h1 h2 ⊢
    by_cases e1 : y = x
    · subst e1
      rw [if_pos rfl] at h1
      by_cases e2 : z = y
      · subst e2
        rw [if_pos rfl] at h2 ⊢
        exact lexLt_tr h1 h2
      · rw [if_neg e2] at h2 ⊢
        exact h2
    · rw [if_neg e1] at h1
      have a1 := of_decide_eq_false h1
      by_cases e2 : z = y
      · subst e2
        rw [if_neg e1]
        exact h1
      · rw [if_neg e2] at h2
        have a2 := of_decide_eq_false h2
        rw [if_neg (by omega)]
        exact decide_eq_false (by omega)
theorem swo_lexI (k : Value → List Int) : Swo fun v u => HT.lexLt (k v) (k u) := ⟨fun _ _ h => lexLt_asym h, fun _ _ _ h1 h2 => lexLt_tr h1 h2⟩
def IsInts (h : Heap) (v : Value) (ns : List Int) : Prop := ∃ a o its n, v = .ref a ∧ h.get? a = some o ∧ o.cls = .type "tuple" ∧ o.data = .seq its n ∧ IntsAre its.toList ns ∧ ns ≠ []
theorem IsInts.keeps {h h' : Heap} {v : Value} {ns : List Int} (p : IsInts h v ns) (k : ∀ b o, h.get? b = some o → o.cls = .type "tuple" → h'.get? b = some o) : IsInts h' v ns := by
  obtain ⟨a, o, t, n, e, ho, hc, hd, hi⟩ := p
  exact ⟨a, o, t, n, e, k _ _ ho hc, hc, hd, hi⟩
theorem ints_firsts {h : Heap} : ∀ {vs : List Value}, (∀ v ∈ vs, ∃ ns, IsInts h v ns) → ∃ fs : List Value, PySem.W.KatTups h vs fs ∧ fs.length = vs.length ∧ ∀ f ∈ fs, ∃ x t, f = Value.int x t
  | [], _ => ⟨[], PySem.W.KatTups.nil, rfl, fun _ hm => by simp at hm⟩
  | v :: vs, hp => by
    obtain ⟨fs, h1, h2, h3⟩ := ints_firsts (vs := vs) fun v' hm => hp v' (List.mem_cons_of_mem _ hm)
    obtain ⟨ns, a, o, its, n, e, ho, hc, hd, hi, hn⟩ := hp v (List.mem_cons_self ..)
    subst e
    obtain ⟨l⟩ := its
    cases hi with
    | nil => exact absurd rfl hn
    | cons x t hi =>
      refine ⟨.int x t :: fs, PySem.W.KatTups.cons ho hc hd rfl h1, by rw [List.length_cons, List.length_cons, h2], fun f hm => ?_⟩
      rcases List.mem_cons.mp hm with rfl | hm
      · exact ⟨_, t, rfl⟩
      · exact h3 f hm
section
variable {prog : Program} {w : World} {A : Around} {E : Value → Shared → Prop} {s : Shared}
theorem ints_lex {fin : Bool} {r : Bool} : ∀ {xs ys : List Value} {ns ms : List Int} {i : Nat}, IntsAre xs ns → IntsAre ys ms → (fin = decide (ns.length < ms.length)) → (r = HT.lexLt ns ms) →
    PySem.W.KatLex prog w A true fin (fun r' s' => s' = s ∧ r' = r) (xs.zip ys) i s
  | _, _, _, _, i, .nil, .nil, hf, hr => PySem.W.kat_nil ⟨rfl, by rw [hf, hr]; rfl⟩
  | _, _, _, _, i, .nil, .cons y u hj, hf, hr => PySem.W.kat_nil ⟨rfl, by rw [hf, hr]; exact decide_eq_true (Nat.succ_pos _)⟩
  | _, _, _, _, i, .cons x t hi, .nil, hf, hr => PySem.W.kat_nil ⟨rfl, by rw [hf, hr]; exact decide_eq_false (Nat.not_lt_zero _)⟩
  | _, _, _, _, i, .cons x t hi, .cons y u hj, hf, hr => by
    refine PySem.W.kat_cons (SeqAt.EqAt.int_int x t y u prog w _ _ ?_)
    refine PySem.W.kat_go (fun e1 => ?_) (fun e1 => ?_)
    · have ex : x = y := by simpa using e1
      subst ex
      refine PySem.W.kat_yes (ints_lex hi hj (by rw [hf]; simp) ?_)
      rw [hr, HT.lexLt_cons, if_pos rfl]
    · have ex : ¬ x = y := fun z => by rw [z] at e1; simp at e1
      refine PySem.W.kat_no (oneLt_any_int ⟨rfl, ?_⟩)
      rw [hr, HT.lexLt_cons, if_neg ex]
theorem ints_cmp {vs : List Value} {k : Value → List Int} (hp : ∀ v ∈ vs, IsInts s.heap v (k v)) : Cmp prog w A s (tuples' true) (fun p => p.1 ∈ vs) (lt2 fun v u => HT.lexLt (k v) (k u)) := by
  intro p q hm hm'
  have h1 := hp _ hm
  have h2 := hp _ hm'
  show wpAny (model prog w) A (keyLt' (tuples' true) p.1 q.1) (fun r s' => s' = s ∧ r = HT.lexLt (k p.1) (k q.1)) (fun _ _ => False) s
  generalize k p.1 = ns at h1 ⊢
  generalize k q.1 = ms at h2 ⊢
  obtain ⟨a, o, xs, n, e, ho, hc, hd, hi, _⟩ := h1
  obtain ⟨a', o', ys, n', e', ho', hc', hd', hj, _⟩ := h2
  rw [e, e']
  refine PySem.W.kat_lt ho hd ho' hd' ?_
  exact ints_lex hi hj (by rw [← Array.length_toList, ← Array.length_toList, hi.length, hj.length]) rfl
theorem ints_sortableT {a : Addr} {vs : List Value} {k : Value → List Int} (h0 : 0 < vs.length) (hp : ∀ v ∈ vs, IsInts s.heap v (k v)) (ha : ∀ o, s.heap.get? a = some o → o.cls ≠ .type "tuple") : SortableO prog w A s a vs fun v u => HT.lexLt (k v) (k u) := by
  intro h' keep
  have hp' : ∀ v ∈ vs, IsInts h' v (k v) := fun v hm => (hp v hm).keeps fun b o e c => keep b o (fun z => by subst z; exact ha o e c) e
  obtain ⟨fs, h1, h2, h3⟩ := ints_firsts fun v hm => ⟨_, hp' v hm⟩
  refine ⟨tuples' true, fun Q E hq => ?_, ints_cmp hp'⟩
  refine PySem.W.kat_kind (T := .type "int") h1 (by omega) (fun f hm => ?_) (by rfl) ?_
  · obtain ⟨x, t, rfl⟩ := h3 f hm
    exact PySem.W.Looks.now
  · have e : (Value.type "int" != Value.type "tuple") = true := by first | decide +kernel | rfl | decide
    rw [e]
    exact hq
end
end HH
set_option maxHeartbeats 4000000
namespace HH
open PySem PySem.Spec PyProof.Rows Srt SrtO L2
open Classical in
noncomputable def intsVal (h : Heap) (v : Value) : List Int := if e : ∃ ns, IsInts h v ns then e.choose else []
theorem isInts_inj {h : Heap} {v : Value} {ns ms : List Int} (p : IsInts h v ns) (q : IsInts h v ms) : ns = ms := by
  obtain ⟨a, o, its, n, e, ho, hc, hd, hi, _⟩ := p
  obtain ⟨a', o', its', n', e', ho', hc', hd', hi', _⟩ := q
  rw [e] at e'
  cases e'
  rw [ho] at ho'
  cases ho'
  rw [hd] at hd'
  cases (Data.seq.inj hd').1
  have : ∀ {xs : List Value} {ns ms : List Int}, IntsAre xs ns → IntsAre xs ms → ns = ms := by
    intro xs ns ms h1
    induction h1 generalizing ms with
    | nil => intro h2; cases h2; rfl
    | cons x t h ih => intro h2; cases h2 with | cons _ _ h3 => rw [ih h3]
  exact this hi hi'
theorem intsVal_is {h : Heap} {v : Value} {ns : List Int} (p : IsInts h v ns) : intsVal h v = ns := by
  have e : ∃ ns, IsInts h v ns := ⟨ns, p⟩
  unfold intsVal
  rw [dif_pos e]
  exact isInts_inj e.choose_spec p
def keyI (ns : List Int) : List Key := ns.map Sum.inl
theorem keyI_V (ns : List Int) : (keyI ns).map kV = ns.map V.int := by
  unfold keyI
  rw [List.map_map]
  rfl
end HH
set_option maxHeartbeats 4000000
namespace HH
open PySem PySem.Spec PyProof.Rows L2 Evl RZ
theorem left_zero (n : Nat) : leftB n 0 = n := by
  unfold leftB
  rw [List.filter_eq_self.mpr fun x _ => by rw [Nat.zero_testBit]; rfl, List.length_range]
section
variable {K : PySem.W.Frag} {σ : L2.St} {H : Hp}
end
end HH
set_option maxHeartbeats 4000000
namespace HH
open PySem PySem.Spec PyProof.Rows L2 Evl RZ
end HH
set_option maxHeartbeats 4000000
namespace HH
open PySem PySem.Spec PyProof.Rows L2 Evl RZ
def facB : Nat → Nat
  | 0 => 1
  | k + 1 => (k + 1) * facB k
theorem sum_bound {l : List Nat} {c : Nat} (h : ∀ x ∈ l, x ≤ c) : l.sum ≤ l.length * c := by
  induction l with
  | nil => exact Nat.zero_le _
  | cons a l ih =>
    rw [List.sum_cons, List.length_cons, Nat.add_mul, Nat.one_mul]
    have := h a (List.mem_cons_self ..)
    have := ih fun x hx => h x (List.mem_cons_of_mem _ hx)
    omega
theorem cnt_fact {ah : List Nat} : ∀ (k : Nat) {s : Nat}, s < 2 ^ ah.length → leftB ah.length s = k → cntF ah s ≤ facB k
  | 0, s, hs, hk => by
    rw [← ext_len hs, ext_full hs hk]
    exact Nat.le_refl _
  | k + 1, s, hs, hk => by
    have nf : ¬ s = 2 ^ ah.length - 1 := fun z => by
      have := (left_0 hs).mpr z
      omega
    rw [cnt_at hs, if_neg nf, Nat.zero_add]
    have b := sum_bound (l := (nextB ah s).map fun w => cntF ah (putB s w)) (c := facB k) fun x hx => by
      obtain ⟨w, hw, rfl⟩ := List.mem_map.mp hx
      obtain ⟨m1, m2, _⟩ := mem_nextB.mp hw
      have := left_put m1 m2
      exact cnt_fact k (put_lt hs m1) (by omega)
    rw [List.length_map] at b
    have nl : (nextB ah s).length ≤ k + 1 := by
      rw [← hk]
      unfold nextB leftB
      rw [← List.filter_filter (p := fun w => !s.testBit w) (q := fun w => decide (ah.getD w 0 &&& s = ah.getD w 0))] <;> try skip
      refine List.Sublist.length_le ?_
      first
        | exact List.filter_sublist
        | exact List.Sublist.filter _ (List.filter_sublist ..)
    exact Nat.le_trans b (Nat.mul_le_mul_right _ nl)
section
variable {K : PySem.W.Frag} {σ : L2.St} {H : Hp} {ta tb : TE}
end
end HH
set_option maxHeartbeats 4000000
namespace HH
open PySem PySem.Spec PyProof.Rows L2 Evl RZ
section
variable {K : PySem.W.Frag} {σ : L2.St} {H : Hp} {ta tb te : TE} {x y : V}
end
def keyN (l : List Nat) : List Key := keyI (l.map fun (k : Nat) => (k : Int))
theorem keyN_V (l : List Nat) : (keyN l).map kV = natsV l := by
  unfold keyN
  rw [keyI_V, ← natsV_int]
theorem keyN_inj {l m : List Nat} (h : keyN l = keyN m) : l = m := by
  have h2 : natsV l = natsV m := by rw [← keyN_V, ← keyN_V, h]
  unfold natsV at h2
  exact List.map_inj_right (fun a b e => by injection e with e; omega) |>.mp h2
structure GoneD (K : PySem.W.Frag) (H : Hp) (rs : HH.Row) (kvs : List (List Key × V)) (G : List (List Nat)) : Prop where
  keys : kvs.map (·.1) = G.map keyN
  nd : G.Nodup
  rows : ∀ l ∈ G, ∃ v L ds, valV kvs (keyN l) = some v ∧ MRun (tag 0 rs) L ds ∧ L.map (·.1) = l ∧ RowAt K H v (rowsOf L)
theorem GoneD.ex {K : PySem.W.Frag} {H H' : Hp} {rs : HH.Row} {kvs : List (List Key × V)} {G : List (List Nat)} (h : GoneD K H rs kvs G) (e : Ex H H') : GoneD K H' rs kvs G := ⟨h.keys, h.nd, fun l hl => by
  obtain ⟨v, L, ds, h1, h2, h3, h4⟩ := h.rows l hl
  exact ⟨v, L, ds, h1, h2, h3, h4.ex e⟩⟩
theorem GoneD.has {K : PySem.W.Frag} {H : Hp} {rs : HH.Row} {kvs : List (List Key × V)} {G : List (List Nat)} (h : GoneD K H rs kvs G) (l : List Nat) : (valV kvs (keyN l)).isSome = decide (l ∈ G) := by
  by_cases c : l ∈ G
  · obtain ⟨v, _, _, h1, _⟩ := h.rows l c
    rw [h1, decide_eq_true c]
    rfl
  · rw [decide_eq_false c, ← valV_any]
    rw [List.any_eq_false]
    intro kv hkv z
    have z := of_decide_eq_true z
    have : kv.1 ∈ G.map keyN := by rw [← h.keys]; exact List.mem_map.mpr ⟨kv, hkv, rfl⟩
    obtain ⟨m, hm, em⟩ := List.mem_map.mp this
    rw [z] at em
    exact c (keyN_inj em ▸ hm)
theorem GoneD.put {K : PySem.W.Frag} {H : Hp} {rs : HH.Row} {kvs : List (List Key × V)} {G : List (List Nat)} (h : GoneD K H rs kvs G) {l : List Nat} (hl : l ∉ G) {v : V} {L : List Cow} {ds : List Deed} (r : MRun (tag 0 rs) L ds) (e : L.map (·.1) = l) (hv : RowAt K H v (rowsOf L)) : GoneD K H rs (putK kvs (keyN l) v) (G ++ [l]) := by
  have h0 : valV kvs (keyN l) = none := by
    have := h.has l
    rw [decide_eq_false hl] at this
    cases c : valV kvs (keyN l) with
    | none => rfl
    | some x => rw [c] at this; cases this
  rw [put_new h0]
  refine ⟨by rw [List.map_append, h.keys, List.map_append]; rfl, List.nodup_append.mpr ⟨h.nd, List.pairwise_singleton _ _, fun a ha b hb z => hl (by rw [← List.mem_singleton.mp hb, ← z]; exact ha)⟩, fun m hm => ?_⟩
  rw [valV_snoc _ _ _ _ h0]
  by_cases c : m = l
  · subst c
    rw [if_pos rfl]
    exact ⟨v, L, ds, rfl, r, e, hv⟩
  · rw [if_neg fun z => c (keyN_inj z)]
    rcases List.mem_append.mp hm with z | z
    · exact h.rows m z
    · exact absurd (List.mem_singleton.mp z) c
def movesB (rs : HH.Row) (p : Nat) : Bool := letsN rs p || fallsN rs (p - 1)
theorem GoneD.exL {K : PySem.W.Frag} {d : Addr} {H H' : Hp} {xs : List V} {rs : HH.Row} {kvs : List (List Key × V)} {G : List (List Nat)} (h : GoneD K H rs kvs G) (e : ExB d H H') (hd : H d = some (.lst xs)) : GoneD K H' rs kvs G := ⟨h.keys, h.nd, fun l hl => by
  obtain ⟨v, L, ds, h1, h2, h3, h4⟩ := h.rows l hl
  exact ⟨v, L, ds, h1, h2, h3, RowAt.exL h4 e hd⟩⟩
theorem q_ifJ {b : Bool} {t : TT} {tu tv tz : TS} {D : Ends} {σ : L2.St} {H : Hp} {M : L2.St → Hp → Prop} (h : EvT t σ H b) (h1 : b = true → ∀ H1, Ex H H1 → ∀ T : L2.St → Hp → Prop, (∀ σ' H', M σ' H' → T σ' H') → tu { D with nx := T } σ H1) (h2 : b = false → ∀ H1, Ex H H1 → ∀ T : L2.St → Hp → Prop, (∀ σ' H', M σ' H' → T σ' H') → tv { D with nx := T } σ H1) (k : ∀ σ' H', M σ' H' → tz D σ' H') : tSeq (tIfS t tu tv) tz D σ H :=
  s_if (D := { D with nx := tz D }) h (fun hb H1 e => h1 hb H1 e _ k) (fun hb H1 e => h2 hb H1 e _ k)
theorem ids_swap {pre post : List Cow} {ca cb cb' ca' : Cow} (h1 : cb'.1 = cb.1) (h2 : ca'.1 = ca.1) : (pre ++ cb' :: ca' :: post).map (·.1) = swapL ((pre ++ ca :: cb :: post).map (·.1)) pre.length := by
  have := swap_split (A := pre.map (·.1)) (B := post.map (·.1)) (a := ca.1) (b := cb.1)
  rw [List.length_map] at this
  rw [List.map_append, List.map_append, List.map_cons, List.map_cons, List.map_cons, List.map_cons, this, h1, h2]
def TupsN (H : Hp) (us : List V) (ls : List (List Nat)) : Prop := All2 (fun v l => ∃ b, v = .ref b ∧ H b = some (.tup (natsV l))) us ls
theorem TupsN.exB {d : Addr} {H H' : Hp} {us : List V} {ls : List (List Nat)} (h : TupsN H us ls) (e : ExB d H H') (hd : ∀ xs, H d ≠ some (.tup xs)) : TupsN H' us ls := All2.mono (fun v l ⟨b, h1, h2⟩ => ⟨b, h1, e _ _ (fun z => hd _ (by rw [← z]; exact h2)) h2⟩) h
theorem TupsN.dp {K : PySem.W.Frag} {H : Hp} : ∀ {us : List V} {ls : List (List Nat)}, TupsN H us ls → DpAll K H us (ls.map natsD)
  | _, _, .nil => .nil
  | _, _, .cons ⟨b, h1, h2⟩ t => by rw [h1]; exact .cons (dp_nats (st_of h2)) (TupsN.dp t)
theorem TupsN.ex {H H' : Hp} {us : List V} {ls : List (List Nat)} (h : TupsN H us ls) (e : Ex H H') : TupsN H' us ls := All2.mono (fun v l ⟨b, h1, h2⟩ => ⟨b, h1, e _ _ h2⟩) h
theorem TupsN.at {H : Hp} {us : List V} {ls : List (List Nat)} (h : TupsN H us ls) {k : Nat} {l : List Nat} (hk : ls[k]? = some l) : ∃ b, us[k]? = some (.ref b) ∧ H b = some (.tup (natsV l)) := by
  have hl := (List.getElem?_eq_some_iff.mp hk).1
  have hu : us[k]? = some (us[k]'(by rw [All2.len h]; exact hl)) := List.getElem?_eq_getElem _
  obtain ⟨l', h1, b, h2, h3⟩ := All2.get h hu
  rw [hk] at h1
  cases h1
  exact ⟨b, by rw [hu, h2], h3⟩
section
variable {K : PySem.W.Frag} {σ : L2.St} {H : Hp} {ta tb te : TE}
end
end HH
set_option maxHeartbeats 4000000
namespace HH
open PySem PySem.Spec PyProof.Rows L2 Evl RZ
section
variable {rs : HH.Row} {E B : List Cow} {w : Nat}
end
end HH
set_option maxHeartbeats 4000000
namespace HH
open PySem PySem.Spec PyProof.Rows L2 Evl
abbrev KB := List (List Key × Addr × V)
def kvX (kb : KB) : List (List Key × V) := kb.map fun p => (p.1, p.2.2)
abbrev KX : KB → List (List Key × Addr × Value) → Prop := Paired fun p q => p.1 = q.1 ∧ p.2.1 = q.2.1 ∧ RelV p.2.2 q.2.2
theorem KX.val {kb : KB} {xs : List (List Key × Addr × Value)} (r : KX kb xs) (k : List Key) : RelO (valV (kvX kb) k) ((atKey xs k).map (·.2)) := by
  induction r with
  | nil => exact True.intro
  | @cons p q ps qs h t ih =>
    obtain ⟨h1, _, h2⟩ := h
    by_cases e : p.1 = k
    · have e' : q.1 = k := h1.symm.trans e
      have b : atKey (q :: qs) k = some q.2 := by simp [atKey, List.find?_cons, e']
      rw [b, show kvX (p :: ps) = (p.1, p.2.2) :: kvX ps from rfl, valV_pos (p := (p.1, p.2.2)) (r := kvX ps) e]
      exact h2
    · have e' : ¬ q.1 = k := fun z => e (h1.trans z)
      have b : atKey (q :: qs) k = atKey qs k := by simp [atKey, List.find?_cons, e']
      rw [b, show kvX (p :: ps) = (p.1, p.2.2) :: kvX ps from rfl, valV_neg (p := (p.1, p.2.2)) (r := kvX ps) e]
      exact ih
theorem KX.put {kb : KB} {xs : List (List Key × Addr × Value)} (r : KX kb xs) {k : List Key} {b : Addr} {y : V} {u : Value} (hn : valV (kvX kb) k = none) (ry : RelV y u) : KX (kb ++ [(k, b, y)]) (storedH xs k b u) := by
  have h0 := r.val k
  rw [hn] at h0
  have h1 : atKey xs k = none := by
    have := RelO.none_of h0
    cases c : atKey xs k with
    | none => rfl
    | some p => rw [c] at this; cases this
  rw [storedH_new h1]
  exact Paired.snoc r ⟨rfl, rfl, ry⟩
def dxP (P : Program) (w : World) (d : Addr) (kb : KB) (h : Heap) : Prop := kb.length ≤ sizeLine ∧ (d == sysModules) = false ∧ ∃ xs, KX kb xs ∧ ∃ o es ep, h.get? d = some o ∧ o.ExactDict ∧ o.data = .dict es ep ∧ es.toList = xs.map (entryOfKey (tupleKind (mixKind P w))) ∧ (xs.map (·.1)).Nodup
structure DX (P : Program) (w : World) (H : Hp) (d : Addr) (kb : KB) : Prop where
  ob : H d = some (.ext (dxP P w d kb))
  ks : ∀ p ∈ kb, FrzT H p.2.1 (p.1.map kV)
section
variable {P : Program} {w : World} {H : Hp} {h : Heap} {d b : Addr} {kb : KB}
theorem DX.ex {H' : Hp} (g : DX P w H d kb) (e : Ex H H') : DX P w H' d kb := ⟨e _ _ g.ob, fun p hp => (g.ks p hp).ex e⟩
theorem DX.exB {H' : Hp} {a : Addr} (g : DX P w H d kb) (e : ExB a H H') (hd : d ≠ a) (ha : ∀ o u, H a ≠ some (.frz o u)) : DX P w H' d kb := ⟨e _ _ hd g.ob, fun p hp => by
  obtain ⟨o, h1, h2⟩ := g.ks p hp
  exact ⟨o, h1, e _ _ (fun z => ha _ _ (by rw [← z]; exact h2)) h2⟩⟩
theorem dxP_ext {h : Heap} (ho : ∃ o, h.get? d = some o) (g : dxP P w d kb h) : ObjOk P w H h d (.ext (dxP P w d kb)) := ⟨g, ho, fun h1 h2 g k => by
  obtain ⟨z, y, xs, r, o, es, ep, e, c⟩ := g
  exact ⟨z, y, xs, r, o, es, ep, k o e, c⟩⟩
theorem keyF_of {ks : List Key} (ok : HOk P w H h) (e : FrzT H b (ks.map kV)) : (tupleKind (mixKind P w)).is h ks b := by
  obtain ⟨o0, _, e⟩ := e
  obtain ⟨_, _, its, r, o, h1, h2, n, h3⟩ := (show ObjOk P w H h b (.frz o0 (.tup (ks.map kV))) from ok b _ e)
  exact ⟨o, its.toArray, n, h1, h2, h3, by simpa using items_are r⟩
theorem DX.rd (ok : HOk P w H h) (e : DX P w H d kb) : kb.length ≤ sizeLine ∧ (d == sysModules) = false ∧ ∃ xs, KX kb xs ∧ h.DictOfH (tupleKind (mixKind P w)) d xs := by
  obtain ⟨⟨z, y, xs, r, o, es, ep, h1, h2, h3, h4, h5⟩, _⟩ := (show ObjOk P w H h d (.ext (dxP P w d kb)) from ok d _ e.ob)
  refine ⟨z, y, xs, r, o, es, ep, h1, h2, h3, h4, fun x hx => ?_, h5⟩
  have all : ∀ {l : KB} {m : List (List Key × Addr × Value)}, KX l m → (∀ p ∈ l, FrzT H p.2.1 (p.1.map kV)) → ∀ x ∈ m, (tupleKind (mixKind P w)).is h x.1 x.2.1 := by
    intro l m q
    induction q with
    | nil => intro _ x hx; exact nomatch hx
    | @cons p q ps qs hq t ih =>
      intro hk x hx
      rcases List.mem_cons.mp hx with e | hx
      · subst e
        have := keyF_of ok (hk p (List.mem_cons_self ..))
        rw [hq.1, hq.2.1] at this
        exact this
      · exact ih (fun p hp => hk p (List.mem_cons_of_mem _ hp)) x hx
  exact all r e.ks x hx
def XGet (P : Program) (w : World) (H : Hp) (a : Addr) (y : V) (r : Option V) : Prop := ∃ kb k b, DX P w H a kb ∧ y = .ref b ∧ FrzT H b (k.map kV) ∧ r = valV (kvX kb) k
end
section
variable {X : Cx} {pins : List (Addr × Obj)} {σ : L2.St} {H : Hp} {s : Shared} {a : Addr} {y v : V} {u r : Value} {o : Option V} {A : Around} {E : Value → Shared → Prop}
theorem x_getItem {Q : Value → Shared → Prop} (hu : A.units + 1 < cLine) (I : Inv X pins σ H s) (g : XGet X.prog X.w H a y (some v)) (ry : RelV y u) (h : ∀ w' s', Inv X pins σ H s' → RelV v w' → Q w' s') :
    wpAny (model X.prog X.w) A (getItem (.ref a) u) Q E s := by
  obtain ⟨kb, k, b, e, rfl, eb, l⟩ := g
  cases (show u = Value.ref b from ry)
  obtain ⟨z, hd, xs, rel, dd⟩ := e.rd I.hok
  obtain ⟨w', hw, rw'⟩ := RelO.some_of (v := v) (o := (atKey xs k).map (·.2)) (by rw [l]; exact rel.val k)
  obtain ⟨p, hp, hp2⟩ := Option.map_eq_some_iff.mp hw
  refine wpAny_getItem_heap (tupleKind_room_in1 hu) (keyF_of I.hok eb) dd hp ?_
  rw [hp2]
  exact h w' _ (I.tok _) rw'
theorem x_notIn {Q : Value → Shared → Prop} (hu : A.units + 1 < cLine) (I : Inv X pins σ H s) (g : XGet X.prog X.w H a y o) (ry : RelV y u) (h : ∀ s', Inv X pins σ H s' → Q (.bool (!o.isSome)) s') :
    wpAny (model X.prog X.w) A (compareOp .NotIn u (.ref a)) Q E s := by
  obtain ⟨kb, k, b, e, rfl, eb, l⟩ := g
  cases (show u = Value.ref b from ry)
  obtain ⟨z, hd, xs, rel, dd⟩ := e.rd I.hok
  refine wpAny_notIn_heap (tupleKind_room_in1 hu) (keyF_of I.hok eb) hd dd ?_
  have q := (rel.val k).isSome_eq
  rw [Option.isSome_map] at q
  rw [← q, ← l]
  exact h _ (I.tok _)
theorem x_typeIs (I : Inv X pins σ H s) (g : XGet X.prog X.w H a y o) : s.TypeIs (.ref a) "dict" := by
  obtain ⟨kb, k, b, e, _⟩ := g
  obtain ⟨_, _, xs, _, dd⟩ := e.rd I.hok
  exact dd.typeIs
def tXGet (P : Program) (w : World) (td ty : TE) : TE := fun σ H Q => td σ H fun x H1 => ty σ H1 fun y H2 => ∃ a v, x = .ref a ∧ XGet P w H2 a y (some v) ∧ Q v H2
def tXNotIn (P : Program) (w : World) (ty td : TE) : TE := fun σ H Q => ty σ H fun y H1 => td σ H1 fun x H2 => ∃ a o, x = .ref a ∧ XGet P w H2 a y o ∧ Q (.bl (!o.isSome)) H2
def rSetX (P : Program) (w : World) : TSet := fun o i v H Q => ∃ d kb k b, o = .ref d ∧ i = .ref b ∧ DX P w H d kb ∧ FrzT H b (k.map kV) ∧ valV (kvX kb) k = none ∧ kb.length < sizeLine ∧ Q (upd H d (.ext (dxP P w d (kb ++ [(k, b, v)]))))
end
section
variable {X : Cx} {o i e value : Expr} {pos pos' tpos : Pos} {td ty tv : TE}
theorem pe_xget {P : Program} {w : World} (hu : X.A.units + 1 < cLine) (ho : PE X o td) (hi : PE X i ty) (hs : NoSl i) (hP : X.prog = P := by rfl) (hw : X.w = w := by rfl) : PE X (.Subscript o i pos) (tXGet P w td ty) := by
  subst hP hw
  refine ⟨fun pins s σ H Q I h => ?_⟩
  refine subD_of PySem.F.slot_dict_getitem.lookup hs (thn (ho.run pins s σ H _ I h) fun u s1 ⟨x, H1, I1, rx, q1⟩ => thn (hi.run pins s1 σ H1 _ I1 q1) fun iv s2 ⟨y, H2, I2, ry, a, v, ex, g, q2⟩ => ?_)
  subst ex
  obtain rfl : u = Value.ref a := rx
  exact ⟨x_typeIs I2 g, x_getItem hu I2 g ry fun w' s3 I3 rw' => ⟨v, H2, I3, rw', q2⟩⟩
theorem pc_xnotin {P : Program} {w : World} (hu : X.A.units + 1 < cLine) (hi : PE X i ty) (ho : PE X o td) (hP : X.prog = P := by rfl) (hw : X.w = w := by rfl) : PC X .NotIn i o (tXNotIn P w ty td) := by
  subst hP hw
  refine ⟨fun pins s σ H Q I h => ?_⟩
  refine thn (hi.run pins s σ H _ I h) fun iv s1 ⟨y, H1, I1, ry, q1⟩ => thn (ho.run pins s1 σ H1 _ I1 q1) fun u s2 ⟨x, H2, I2, rx, a, ov, ex, g, q2⟩ => ?_
  subst ex
  obtain rfl : u = Value.ref a := rx
  exact x_notIn hu I2 g ry fun s3 I3 => ⟨.bl (!ov.isSome), H2, I3, rfl, q2⟩
theorem set_x {P : Program} {w : World} (hu : X.A.units + 1 < cLine) (hP : X.prog = P := by rfl) (hw : X.w = w := by rfl) : PSet X (rSetX P w) := by
  subst hP hw
  intro pins s σ H o i v ov iv u Q I ro ri rv h
  obtain ⟨d, kb, k, b, rfl, rfl, g, eb, hn, hl, q⟩ := h
  cases (show ov = Value.ref d from ro)
  cases (show iv = Value.ref b from ri)
  obtain ⟨z, hd, xs, rel, dd⟩ := g.rd I.hok
  have hz : xs.length ≤ sizeLine := by rw [← Paired.length rel]; exact z
  refine wpAny_setItem_heap (hsz := hz) (tupleKind_room_in1 hu) (keyF_of I.hok eb) dd fun h' dd' hs => ⟨_, ?_, q⟩
  obtain ⟨ob, es, ep, hq, h2, h3, h4, _, h5⟩ := dd'
  exact d_write I (by rw [g.ob]; exact True.intro) hs ⟨ob, hq⟩ (dxP_ext ⟨ob, hq⟩ ⟨by rw [List.length_append]; show kb.length + 1 ≤ sizeLine; omega, hd, _, rel.put hn rv, ob, es, ep, hq, h2, h3, h4, h5⟩)
def tDispX1 (P : Program) (w : World) (tk tv : TE) : TE := fun σ H Q => ∀ p, H p = none → tPairs [(tk, tv)] σ (upd H p (.ext (dxP P w p []))) fun ps H2 => DX P w H2 p [] ∧ ∃ (b : Addr) (k : List Key) (y : V), ps = [(.ref b, y)] ∧ FrzT H2 b (k.map kV) ∧ Q (.ref p) (upd H2 p (.ext (dxP P w p [(k, b, y)])))
theorem dx_empty {P : Program} {w : World} {H : Hp} (h : Heap) (hb : sysModules < h.objs.size) : ObjOk P w H (h.push { cls := .type "dict", data := .dict #[] }) h.objs.size (.ext (dxP P w h.objs.size [])) :=
  dxP_ext ⟨_, Heap.get?_push_size _ rfl⟩ ⟨Nat.zero_le _, beq_eq_false_iff_ne.mpr (Ne.symm (Nat.ne_of_lt hb)), [], .nil, _, #[], 0, Heap.get?_push_size _ rfl, ⟨rfl, rfl, rfl⟩, rfl, rfl, List.nodup_nil⟩
theorem pe_dispX1 {P : Program} {w : World} {ke ve : Expr} {tk tv : TE} (hu : X.A.units + 1 < cLine) (hk : PE X ke tk) (hv : PE X ve tv) (hP : X.prog = P := by rfl) (hw : X.w = w := by rfl) : PE X (.Dict [some ke] [ve] pos) (tDispX1 P w tk tv) := by
  subst hP hw
  refine ⟨fun pins s σ H Q I q => ?_⟩
  have hn := I.hok.fresh (Nat.le_refl s.heap.objs.size)
  have I1 := I.laid (a := s.heap.objs.size) (o := .ext (dxP X.prog X.w s.heap.objs.size [])) (h' := s.heap.push { cls := .type "dict", data := .dict #[] }) (t' := s.toks) (fun _ _ q => Heap.get?_push_of_some _ q) (Nat.le_refl _) (dx_empty s.heap I.big)
  have pp : PPs X pos [some ke] [ve] [(tk, tv)] := pps_cons hk hv pps_nil
  refine wpAny_Dict_any rfl rfl (fun h => nomatch h) (by show 1 ≤ 15; decide) (thn (pp.run pins _ σ _ _ I1 (q _ hn)) fun ws s2 ⟨ps, H2, I2, rel, e, b, k, y, eps, eb, q2⟩ => ?_)
  subst eps
  cases rel with
  | @cons _ w1 _ ws1 r1 r2 =>
    cases r2
    obtain ⟨r1, r3⟩ := r1
    obtain ⟨wk, wv⟩ := w1
    cases (show wk = Value.ref b from r1)
    obtain ⟨z, hd, xs, rel, dd⟩ := e.rd I2.hok
    cases rel
    unfold storeAll
    refine wpAny_storeAllH (knd := tupleKind (mixKind X.prog X.w)) (show (tupleKind (mixKind X.prog X.w)).room X.A from Nat.lt_of_succ_lt hu) [(Value.ref b, wv)] [(k, b, wv)] [] s2 _ ⟨rfl, rfl, keyF_of I2.hok eb, True.intro⟩ dd (by show 0 + 1 ≤ sizeLine; decide) fun h' tk' dd' hs => ?_
    refine ⟨.ref s.heap.objs.size, _, ?_, rfl, q2⟩
    obtain ⟨o, es, ep, hq, h2, h3, h4, _, h5⟩ := dd'
    have kt : KX [(k, b, y)] (storedH [] k b wv) := KX.put (.nil : KX [] []) (by rfl) r3
    exact d_write I2 (by rw [e.ob]; exact True.intro) hs ⟨o, hq⟩ (dxP_ext ⟨o, hq⟩ ⟨by show 1 ≤ sizeLine; decide, hd, _, kt, o, es, ep, hq, h2, h3, h4, h5⟩)
end
end HH
set_option maxHeartbeats 4000000
namespace HH
open PySem PySem.Spec PyProof.Rows L2 Evl RZ
section
variable {K : PySem.W.Frag} {σ : L2.St} {H : Hp} {ta tb te : TE}
end
end HH
set_option maxHeartbeats 4000000
namespace HH
open PySem PySem.Spec PyProof.Rows L2 Evl RZ
def rCatAF (K : PySem.W.Frag) : R2 := fun x y H Q => ∃ a b xs ys, x = .ref a ∧ y = .ref b ∧ SqT K H a xs ∧ SqT K H b ys ∧ xs.length + ys.length ≤ sizeLine ∧
  (xs = [] → Q (.ref b) H) ∧ (xs ≠ [] → ys = [] → Q (.ref a) H) ∧ (xs ≠ [] → ys ≠ [] → ∀ (p : Addr) (o : Obj), PlainT o → H p = none → Q (.ref p) (upd H p (.frz o (.tup (xs ++ ys)))))
theorem op_catAF {X : Cx} : OpR X (binaryOp .Add) (rCatAF X.K) := by
  intro pins s σ H x y v u Q I rx ry h
  obtain ⟨a, b, xs, ys, rfl, rfl, ha, hb, hz, q0, q1, q2⟩ := h
  by_cases hx : xs = []
  · exact op_catA pins s σ H _ _ v u Q I rx ry ⟨a, b, xs, ys, rfl, rfl, ha, hb, hz, q0, fun z => absurd hx z, fun z => absurd hx z⟩
  · by_cases hy : ys = []
    · exact op_catA pins s σ H _ _ v u Q I rx ry ⟨a, b, xs, ys, rfl, rfl, ha, hb, hz, q0, q1, fun _ z => absurd hy z⟩
    · exact op_catF pins s σ H _ _ v u Q I rx ry ⟨a, b, xs, ys, rfl, rfl, ha, hb, hx, hy, hz, q2 hx hy⟩
def EvTf (te : TE) (σ : L2.St) (H : Hp) (xs : List V) : Prop := ∀ H1, Ex H H1 → ∀ Q : VK, (∀ t H2, Ex H1 H2 → FrzT H2 t xs → Q (.ref t) H2) → te σ H1 Q
section
variable {K : PySem.W.Frag} {σ : L2.St} {H : Hp} {ta tb te : TE} {x y : V}
theorem FrzT.ofNew {p : Addr} {o : Obj} {xs : List V} (h : PlainT o) : FrzT (upd H p (.frz o (.tup xs))) p xs := ⟨o, h, upd_same⟩
theorem ef_two (h1 : Ev ta σ H x) (h2 : Ev tb σ H y) : EvTf (tTupF (tCons ta (tCons tb tNil))) σ H [x, y] := fun H1 e Q q =>
  h1 H1 e _ fun H2 e2 => h2 H2 (e.trans e2) _ fun H3 e3 => ⟨by show 2 ≤ sizeLine; decide, fun p o ho hp => q _ _ ((e2.trans e3).trans (Ex.new hp)) (.ofNew ho)⟩
theorem ef_catL {xs ys : List V} (ha : EvTp K ta σ H xs) (hb : EvTf tb σ H ys) (hy : ys ≠ []) (hl : xs.length + ys.length ≤ 100000) : EvTf (tOp (rCatAF K) ta tb) σ H (xs ++ ys) := fun H1 e Q q =>
  ha H1 e _ fun a H2 e2 h1 => hb H2 (e.trans e2) _ fun b H3 e3 g1 => by
    refine ⟨a, b, xs, ys, rfl, rfl, ex_t e3 h1, g1.sq, sz_of hl, fun z => ?_, fun _ z => absurd z hy, fun _ _ p o ho hp => ?_⟩
    · subst z
      exact q _ H3 (e2.trans e3) g1
    · exact q _ _ ((e2.trans e3).trans (Ex.new hp)) (.ofNew ho)
theorem ef_catR {xs ys : List V} (ha : EvTf ta σ H xs) (hb : EvTp K tb σ H ys) (hx : xs ≠ []) (hl : xs.length + ys.length ≤ 100000) : EvTf (tOp (rCatAF K) ta tb) σ H (xs ++ ys) := fun H1 e Q q =>
  ha H1 e _ fun a H2 e2 h1 => hb H2 (e.trans e2) _ fun b H3 e3 g1 => by
    refine ⟨a, b, xs, ys, rfl, rfl, ex_t e3 h1.sq, g1, sz_of hl, fun z => absurd z hx, fun _ z => ?_, fun _ _ p o ho hp => ?_⟩
    · subst z
      rw [List.append_nil] at q
      exact q _ H3 (e2.trans e3) (h1.ex e3)
    · exact q _ _ ((e2.trans e3).trans (Ex.new hp)) (.ofNew ho)
end
def spSwapF (K : PySem.W.Frag) : Sp := fun vs H Q _ => ∃ (o : Addr) (l : List Nat) (p : Nat), vs = [.ref o, .int (p : Int)] ∧ SqT K H o (natsV l) ∧ p + 1 < l.length ∧ l.length ≤ 1000 ∧ ∀ (t : Addr) (H' : Hp), Ex H H' → FrzT H' t (natsV (swapL l p)) → Q (.ref t) H'
def atD (d : Deed) : Nat := if d.1 then d.2 - 1 else d.2
def spLedF (K : PySem.W.Frag) : Sp := fun vs H Q _ => ∃ (v : V) (rs : HH.Row) (c : Addr) (u : V) (d : Deed), vs = [v, .ref c] ∧ RowAt K H v rs ∧ rs.length ≤ 30 ∧ SqL K H c [u] ∧ DeedAt K H u d ∧ okD rs d ∧ ∀ (q t : Addr) (v' : V) (H' : Hp), Ex H H' → H' q = some (.tup [v', .ref t]) → RowAt K H' v' (doR rs d) → FrzT H' t (natsV (swapL (List.range rs.length) (atD d))) → Q (.ref q) H'
theorem range_cut {A B : List Nat} {a b n : Nat} (h : List.range n = A ++ a :: b :: B) : swapL (List.range n) A.length = A ++ b :: a :: B := by
  rw [h, swap_split]
theorem deed_run {rs : HH.Row} {d : Deed} (ok : okD rs d) : ∃ L1, MRun (tag 0 rs) L1 [d] ∧ rowsOf L1 = doR rs d ∧ L1.map (·.1) = swapL (List.range rs.length) (atD d) ∧ atD d + 1 < rs.length := by
  have e : rowsOf (tag 0 rs) = rs := tag_snd 0 rs
  obtain ⟨w, p⟩ := d
  cases w with
  | true =>
    obtain ⟨h1, h2⟩ : p < rs.length ∧ letsN rs p = true := ok
    obtain ⟨pre, post, a, b, g1, g2, g3, g4⟩ := cow_pass (L := tag 0 rs) (p := p) (by rw [e]; exact h1) (by rw [e]; exact h2)
    subst g2
    have r : MRun (tag 0 rs) (pre ++ a :: b :: post) [] := by
      rw [← g1]
      exact .nil
    have ids : List.range rs.length = pre.map (·.1) ++ a.1 :: b.1 :: post.map (·.1) := by
      rw [← tag_ids, g1, List.map_append]
      rfl
    refine ⟨_, r.pass g3, ?_, ?_, ?_⟩
    · rw [← g4, e]
      rfl
    · have : atD (true, pre.length + 1) = (pre.map (·.1)).length := by
        rw [List.length_map]
        rfl
      rw [this, range_cut ids, List.map_append]
      rfl
    · show pre.length + 1 - 1 + 1 < _
      omega
  | false =>
    obtain ⟨h1, h2⟩ : p + 1 < rs.length ∧ fallsN rs p = true := ok
    obtain ⟨pre, post, a, b, g1, g2, g3, g4⟩ := cow_fall (L := tag 0 rs) (p := p) (by rw [e]; exact h1) (by rw [e]; exact h2)
    subst g2
    have r : MRun (tag 0 rs) (pre ++ a :: b :: post) [] := by
      rw [← g1]
      exact .nil
    have ids : List.range rs.length = pre.map (·.1) ++ a.1 :: b.1 :: post.map (·.1) := by
      rw [← tag_ids, g1, List.map_append]
      rfl
    refine ⟨_, r.fall g3, ?_, ?_, h1⟩
    · rw [← g4, e]
      rfl
    · have : atD (false, pre.length) = (pre.map (·.1)).length := by
        rw [List.length_map]
        rfl
      rw [this, range_cut ids, List.map_append]
      rfl
theorem near_ok {rs : HH.Row} {l : List Nat} {d : Deed} (h : d ∈ nearD rs l) : okD rs d ∧ bef l (atD d + 1) (atD d) = true := by
  unfold nearD at h
  rcases List.mem_append.mp h with h | h
  · obtain ⟨p, hp, rfl⟩ := List.mem_map.mp h
    obtain ⟨h1, h2⟩ := List.mem_filter.mp hp
    unfold fallB at h2
    obtain ⟨h3, h4⟩ := Bool.and_eq_true_iff.mp h2
    exact ⟨⟨of_decide_eq_true h3, h4⟩, (mem_adj.mp h1).2⟩
  · obtain ⟨p, hp, rfl⟩ := List.mem_map.mp h
    obtain ⟨h1, h2⟩ := List.mem_filter.mp hp
    obtain ⟨h3, h4⟩ := mem_adj.mp h1
    exact ⟨⟨by show p + 1 < rs.length; omega, h2⟩, h4⟩
theorem ixN_swap {n p x : Nat} (hp : p + 1 < n) (hx : x < n) : ixN (swapL (List.range n) p) x = if x = p then p + 1 else if x = p + 1 then p else x := by
  have e : List.range n = List.range p ++ p :: (p + 1) :: (List.range (n - p - 2)).map (· + (p + 2)) := by
    refine List.ext_getElem? fun i => ?_
    by_cases h1 : i < p
    · rw [List.getElem?_append_left (by rw [List.length_range]; exact h1), List.getElem?_range (by omega), List.getElem?_range h1]
    · rw [List.getElem?_append_right (by rw [List.length_range]; omega), List.length_range]
      by_cases h2 : i < n
      · rw [List.getElem?_range h2]
        rcases Nat.lt_or_ge i (p + 2) with h3 | h3
        · rcases (show i = p ∨ i = p + 1 by omega) with h4 | h4
          · rw [h4, Nat.sub_self]
            rfl
          · rw [h4, Nat.add_sub_cancel_left]
            rfl
        · obtain ⟨k, hk⟩ : ∃ k, i = p + 2 + k := ⟨i - (p + 2), by omega⟩
          rw [hk, show p + 2 + k - p = k + 2 by omega, List.getElem?_cons_succ, List.getElem?_cons_succ, List.getElem?_map, List.getElem?_range (by omega)]
          show some (p + 2 + k) = some (k + (p + 2))
          rw [Nat.add_comm]
      · rw [List.getElem?_eq_none (by rw [List.length_range]; omega), List.getElem?_eq_none (by simp; omega)]
  have s : swapL (List.range n) p = List.range p ++ (p + 1) :: p :: (List.range (n - p - 2)).map (· + (p + 2)) := by
    have := range_cut e
    rw [List.length_range] at this
    exact this
  unfold ixN
  rw [s]
  by_cases h1 : x < p
  · rw [List.getElem?_append_left (by rw [List.length_range]; exact h1), List.getElem?_range h1, if_neg (by omega), if_neg (by omega)]
    rfl
  · rw [List.getElem?_append_right (by rw [List.length_range]; omega), List.length_range]
    rcases Nat.lt_or_ge x (p + 2) with h3 | h3
    · rcases (show x = p ∨ x = p + 1 by omega) with h4 | h4
      · rw [h4, Nat.sub_self, if_pos rfl]
        rfl
      · rw [h4, Nat.add_sub_cancel_left, if_neg (by omega), if_pos rfl]
        rfl
    · obtain ⟨k, hk⟩ : ∃ k, x = p + 2 + k := ⟨x - (p + 2), by omega⟩
      rw [hk, show p + 2 + k - p = k + 2 by omega, List.getElem?_cons_succ, List.getElem?_cons_succ, List.getElem?_map, List.getElem?_range (by omega), if_neg (by omega), if_neg (by omega)]
      show k + (p + 2) = p + 2 + k
      omega
theorem tab_less {l s : List Nat} {n p : Nat} (ids : l.Perm (List.range n)) (hp : p + 1 < n) (hb : bef l (p + 1) p = true) (e : l = s.map (ixN (swapL (List.range n) p))) (hs : ∀ x ∈ s, x < n) : (tab s n n).length < (tab l n n).length := by
  have nd : l.Nodup := ids.nodup_iff.mpr List.nodup_range
  let τ : Nat → Nat := fun x => if x = p then p + 1 else if x = p + 1 then p else x
  have iτ : ∀ x, x < n → ixN (swapL (List.range n) p) x = τ x := fun x hx => ixN_swap hp hx
  have e2 : l = s.map τ := e.trans (List.map_congr_left fun x hx => iτ x (hs x hx))
  have inj : ∀ x y, τ x = τ y → x = y := fun x y h => by
    show x = y
    have h : (if x = p then p + 1 else if x = p + 1 then p else x) = (if y = p then p + 1 else if y = p + 1 then p else y) := h
    split at h <;> split at h <;> (try split at h) <;> (try split at h) <;> omega
  have bm : ∀ i j, bef l (τ i) (τ j) = bef s i j := fun i j => by
    rw [e2]
    exact Bool.eq_iff_iff.mpr (bef_map (fun x _ h => inj _ _ h) (fun x _ h => inj _ _ h))
  have τp : τ p = p + 1 := if_pos rfl
  have τq : τ (p + 1) = p := by
    show (if p + 1 = p then _ else if p + 1 = p + 1 then p else _) = _
    rw [if_neg (by omega), if_pos rfl]
  have sp : bef s (p + 1) p = false := by
    rw [← bm, τq, τp]
    exact bef_asym nd hb
  have few := nodup_few (l := ((p : Int), ((p + 1 : Nat) : Int)) :: (tab s n n).map fun x => ((τ x.1.toNat : Int), (τ x.2.toNat : Int))) (m := tab l n n) ?_ ?_
  · rw [List.length_cons, List.length_map] at few
    omega
  · refine List.nodup_cons.mpr ⟨fun z => ?_, ?_⟩
    · obtain ⟨x, hx, ex⟩ := List.mem_map.mp z
      obtain ⟨i, j, h1, h2, rfl, h3⟩ := mem_tab.mp hx
      have a1 : ((τ i : Nat) : Int) = (p : Int) := congrArg Prod.fst ex
      have a2 : ((τ j : Nat) : Int) = ((p + 1 : Nat) : Int) := congrArg Prod.snd ex
      have b1 : i = p + 1 := inj _ _ (by rw [τq]; omega)
      have b2 : j = p := inj _ _ (by rw [τp]; omega)
      omega
    · refine List.pairwise_map.mpr ((nd_tab s n n).imp_of_mem fun {x y} hx hy hn ex => hn ?_)
      obtain ⟨i, j, h1, h2, rfl, h3⟩ := mem_tab.mp hx
      obtain ⟨i', j', h1', h2', rfl, h3'⟩ := mem_tab.mp hy
      have a1 : ((τ i : Nat) : Int) = ((τ i' : Nat) : Int) := congrArg Prod.fst ex
      have a2 : ((τ j : Nat) : Int) = ((τ j' : Nat) : Int) := congrArg Prod.snd ex
      have b1 : i = i' := inj _ _ (by omega)
      have b2 : j = j' := inj _ _ (by omega)
      rw [b1, b2]
  · intro x hx
    rcases List.mem_cons.mp hx with h | h
    · rw [h]
      exact mem_tab.mpr ⟨p, p + 1, by omega, hp, rfl, hb⟩
    · obtain ⟨y, hy, rfl⟩ := List.mem_map.mp h
      obtain ⟨i, j, h1, h2, rfl, h3⟩ := mem_tab.mp hy
      have ne : ¬ (i = p ∧ j = p + 1) := fun z => by
        rw [z.1, z.2, sp] at h3
        cases h3
      refine mem_tab.mpr ⟨τ i, τ j, ?_, ?_, rfl, by rw [bm]; exact h3⟩
      · show (if i = p then p + 1 else if i = p + 1 then p else i) < (if j = p then p + 1 else if j = p + 1 then p else j)
        split <;> split <;> (try split) <;> (try split) <;> omega
      · show (if j = p then p + 1 else if j = p + 1 then p else j) < n
        split <;> (try split) <;> omega
theorem pt_tru {X : Cx} {a : Expr} {ta : TE} (ha : PE X a ta) (he : ∀ whole, isTrue a X.env whole = (do let v ← whole; standAt a.pos; holding [v] (truthy v)) := by intro _; rfl) :
    PT X a (fun σ H Q => ta σ H fun x H' => ∃ k, TruV X.K x H' k ∧ Q k H') := pt_truth ha he
end HH
set_option maxHeartbeats 4000000
namespace HH
open PySem PySem.Spec PyProof.Rows L2 Evl RZ
def ToldR (H : Hp) : Option (Int × Int) → V → Prop
  | none, v => v = .non
  | some pr, v => ∃ q T : Addr, v = .ref q ∧ H q = some (.lst [.ref T]) ∧ H T = some (.tup [.int pr.1, .int pr.2])
theorem ToldR.ex {H H' : Hp} (e : Ex H H') : ∀ {b : Option (Int × Int)} {v : V}, ToldR H b v → ToldR H' b v
  | none, _, h => h
  | some pr, _, ⟨q, T, h1, h2, h3⟩ => ⟨q, T, h1, e _ _ h2, e _ _ h3⟩
theorem ToldR.upd {H : Hp} {D : Addr} {xs : List V} {o : HO} (hD : H D = some (.lst xs)) : ∀ {b : Option (Int × Int)} {v : V}, v ≠ .ref D → ToldR H b v → ToldR (upd H D o) b v
  | none, _, _, h => h
  | some pr, _, n, ⟨q, T, h1, h2, h3⟩ => ⟨q, T, h1, by rw [upd_ne (fun z => n (by rw [h1, z]))]; exact h2, by rw [upd_ne (fun z => by rw [z, hD] at h3; cases h3)]; exact h3⟩
section
variable {K : PySem.W.Frag} {σ : L2.St} {H : Hp} {ta tb te : TE}
end
end HH
set_option maxHeartbeats 4000000
namespace HH
open PySem PySem.Spec PyProof.Rows L2 Evl RZ
section
variable {K : PySem.W.Frag} {σ : L2.St} {H : Hp} {te : TE} {v : V} {rs R : HH.Row} {L : List Cow} {X : XK}
end
end HH
set_option maxHeartbeats 4000000
namespace HH
open PySem PySem.Spec PyProof.Rows L2 Evl RZ
end HH
set_option maxHeartbeats 4000000
namespace HH
open PySem PySem.Spec PyProof.Rows L2 Evl RZ
structure Strong (E : List Cow) (st : Int) (k : Nat) (left : Int) : Prop where
  s : Steps (E ++ [(E.length, (st, 2))]) (E.take (E.length - k) ++ (E.length, (left, 2)) :: E.drop (E.length - k))
  b : ∀ b r, E.drop (E.length - k) = b :: r → b.2.1 < left
end HH
set_option maxHeartbeats 4000000
namespace HH
open PySem PySem.Spec PyProof.Rows L2 Evl RZ
section
variable {X : Cx} {σ : L2.St} {H : Hp}
end
end HH
set_option maxHeartbeats 4000000
namespace HH
open PySem PySem.Spec PyProof.Rows L2 Evl RZ
section
variable {K : PySem.W.Frag} {σ : L2.St} {H : Hp} {te ta tb t2 : TE} {D : Ends} {tz : TS}
end
section
variable {K : PySem.W.Frag} {σ : L2.St} {H : Hp} {te ta tb t2 : TE} {D : Ends} {tz : TS}
theorem mt_indexK {X : Cx} {K : PySem.W.Frag} (hK : X.K = K := by rfl) : MtR X "list.index" (rIndex K) := by
  subst hK
  exact mt_index
end
end HH
set_option maxHeartbeats 4000000
namespace HH
open PySem PySem.Spec PyProof.Rows L2 Evl RZ
end HH
set_option maxHeartbeats 4000000
namespace HH
open PySem PySem.Spec PyProof.Rows L2 Evl RZ
def expL (ls : List Lot) (st : List Int) (line : HH.Row) : List Cow := line.flatMap fun x => List.replicate x.2.toNat (x.1.toNat, (st.getD x.1.toNat 0, lT ls x.1.toNat))
def blkL (ls : List Lot) (w : Nat) (s : Int) : List Cow := List.replicate (lM ls w).toNat (w, (s, lT ls w))
def PosR (line : HH.Row) : Prop := ∀ x ∈ line, 1 ≤ x.2
def cntR (line : HH.Row) : Int := (line.map (·.2)).sum
structure GoOk (ls : List Lot) (st : List Int) (w : Nat) (r B : HH.Row) (s t : Int) (R : HH.Row × Int × Int) : Prop where
  s1 : Steps (expL ls st r.reverse ++ blkL ls w s ++ expL ls st B) (expL ls (st.set w R.2.1) R.1)
  cut : ∃ F B', R.1 = F ++ ((w : Int), lM ls w) :: B' ∧ Bel w F ∧ Bel w B' ∧ PosR F ∧ PosR B' ∧ expL ls st F ++ expL ls st B' = expL ls st r.reverse ++ expL ls st B ∧ cntR B' = cntR B + (R.2.2 - t)
end HH
set_option maxHeartbeats 4000000
namespace HH
open PySem PySem.Spec PyProof.Rows L2 Evl RZ
def sprC (ls : List Lot) (w : Nat) : List Cow := (List.range w).flatMap fun u => List.replicate (lM ls u).toNat (u, (lS ls u, lT ls u))
def lowB (X : List Cow) (p u : Nat) : Nat := ((X.drop (p + 1)).filter fun c => decide (c.1 < u)).length
structure EndOk (ls : List Lot) (w : Nat) : Prop where
  s1 : Steps (sprC ls w) (expL ls (endG ls w).2.1 (endG ls w).1)
  nf : NfR (expL ls (endG ls w).2.1 (endG ls w).1)
  pos : PosR (endG ls w).1
  low : ∀ (p u : Nat) (c : Cow), (expL ls (endG ls w).2.1 (endG ls w).1)[p]? = some c → c.1 = u → (lowB (expL ls (endG ls w).2.1 (endG ls w).1) p u : Int) = (endG ls w).2.2.getD u 0
  st : ∀ u, w ≤ u → u < ls.length → (endG ls w).2.1.getD u 0 = lS ls u
end HH
set_option maxHeartbeats 4000000
namespace HH
open PySem PySem.Spec PyProof.Rows L2 Evl RZ
end HH
set_option maxHeartbeats 4000000
namespace HH
open PySem PySem.Spec PyProof.Rows L2 Evl RZ
end HH
set_option maxHeartbeats 4000000
namespace HH
open PySem PySem.Spec PyProof.Rows L2 Evl RZ
end HH
set_option maxHeartbeats 4000000
namespace HH
open PySem PySem.Spec PyProof.Rows L2 Evl RZ
end HH
set_option maxHeartbeats 4000000
namespace HH
open PySem PySem.Spec PyProof.Rows L2 Evl RZ
section
variable {P : Addr → Prop} {K : PySem.W.Frag} {c k : Nat} {H H' : Hp} {σ : L2.St} {te ta tb : TE} {D : Ends} {v : V} {d : PyData}
end
def Fits (M : Int) (l : Lot) : Prop := -(10 ^ 12) < l.1 ∧ l.1 < 10 ^ 12 ∧ 0 ≤ l.2.1 ∧ l.2.1 < 10 ^ 12 ∧ 1 ≤ l.2.2 ∧ l.2.2 ≤ M
theorem Fits.le {M M' : Int} {l : Lot} (h : Fits M l) (e : M ≤ M') : Fits M' l := ⟨h.1, h.2.1, h.2.2.1, h.2.2.2.1, h.2.2.2.2.1, Int.le_trans h.2.2.2.2.2 e⟩
end HH
namespace HH
open PySem PySem.Spec PyProof.Rows L2 Evl RZ
end HH
namespace HH
open PySem PySem.Spec PyProof.Rows L2 Evl RZ
section
variable {P : Addr → Prop} {K : PySem.W.Frag} {n : Nat} {H : Hp} {σ : L2.St} {D : Ends}
end
end HH
set_option maxHeartbeats 4000000
namespace HH
open PySem PySem.Spec PyProof.Rows L2 Evl RZ
section
variable {K : PySem.W.Frag} {H0 H H' : Hp} {σ : L2.St} {te ta tb : TE} {D : Ends} {tz tu : TS} {g : TG}
end
end HH
set_option maxHeartbeats 4000000
namespace HH
open PySem PySem.Spec PyProof.Rows L2 Evl RZ
section
variable {K : PySem.W.Frag} {H : Hp} {σ : L2.St} {te ta tb : TE}
end
end HH
set_option maxHeartbeats 4000000
namespace HH
open PySem PySem.Spec PyProof.Rows L2 Evl RZ
def Ex3 (a b c : Addr) (H H' : Hp) : Prop := ∀ x o, x ≠ a → x ≠ b → x ≠ c → H x = some o → H' x = some o
section
variable {a b c : Addr} {H0 H H1 H' : Hp}
theorem Ex3.trans (x : Ex3 a b c H H1) (y : Ex3 a b c H1 H') : Ex3 a b c H H' := fun d o n1 n2 n3 h => y d o n1 n2 n3 (x d o n1 n2 n3 h)
theorem Ex3.of (e : Ex H H') : Ex3 a b c H H' := fun d o _ _ _ h => e d o h
theorem Ex3.u1 {o : HO} (x : Ex3 a b c H H') : Ex3 a b c H (upd H' a o) := fun d u n1 n2 n3 h => by
  rw [upd_ne n1]
  exact x d u n1 n2 n3 h
theorem Ex3.u2 {o : HO} (x : Ex3 a b c H H') : Ex3 a b c H (upd H' b o) := fun d u n1 n2 n3 h => by
  rw [upd_ne n2]
  exact x d u n1 n2 n3 h
end
section
variable {K : PySem.W.Frag} {H H' : Hp} {σ : L2.St} {ta tb tc ti : TE} {D : Ends} {tz : TS}
end
theorem pe_bmK {X : Cx} {K : PySem.W.Frag} {e : Expr} {T : String} {r : V → List V → Hp → VK → Prop} {to : TE} {t : TA} (h : PE X e (tBM X.K T r to t)) (hK : X.K = K := by rfl) : PE X e (tBM K T r to t) := by
  subst hK
  exact h
end HH
set_option maxHeartbeats 4000000
namespace HH
open PySem PySem.Spec PyProof.Rows L2 Evl RZ
def ListOf (H : Hp) (u : V) (xs : List V) : Prop := ∃ p, u = .ref p ∧ H p = some (.lst xs)
theorem ListOf.ex {H H' : Hp} {u : V} {xs : List V} (h : ListOf H u xs) (e : Ex H H') : ListOf H' u xs := let ⟨p, h1, h2⟩ := h; ⟨p, h1, e _ _ h2⟩
section
variable {K : PySem.W.Frag} {H H' : Hp} {σ : L2.St} {te ta tb : TE} {tr : TA}
end
section
variable {H : Hp} {σ : L2.St} {te : TE} {ta : TA} {D : Ends} {tz : TS} {g : TG}
theorem c_lst {Q : VK} (h : ta σ H fun xs H1 => xs.length ≤ sizeLine ∧ ∀ p, H1 p = none → Q (.ref p) (upd H1 p (.lst xs))) : tLst ta σ H Q := h
end
end HH
set_option maxHeartbeats 4000000
namespace HH
open PySem PySem.Spec PyProof.Rows L2 Evl RZ
theorem tag0_fst (rs : HH.Row) : (tag 0 rs).map (·.1) = List.range rs.length := by
  rw [tag_fst]
  have e : (fun x => 0 + x) = (id : Nat → Nat) := by
    funext x
    exact Nat.zero_add x
  rw [e, List.map_id]
theorem ids_low {rs : HH.Row} {E : List Cow} (s : Steps (tag 0 rs) E) : (∀ x ∈ E.map (·.1), x < rs.length) ∧ E.length = rs.length := by
  have h := s.ids
  rw [tag0_fst] at h
  refine ⟨fun x hx => List.mem_range.mp (h.mem_iff.mp hx), ?_⟩
  have := h.length_eq
  rw [List.length_map, List.length_range] at this
  exact this
section
variable {ls : List Lot} {E : List Cow} {ps : HH.Row}
end
end HH
set_option maxHeartbeats 4000000
namespace HH
open PySem PySem.Spec PyProof.Rows L2 Evl RZ
def Mild (ls : List Lot) : Prop := ls.length ≤ 100 ∧ PosL ls ∧ (∀ b ∈ sprR ls, 0 ≤ b.2 ∧ b.2 < 1152921504606846976) ∧ (sprR ls).length < 1152921504606846976
structure HerdE (ls A Z : List Lot) (E B : List Cow) : Prop where
  sE : Steps (tag 0 (sprR ls)) E
  nE : Nf E
  sB : FSteps (tag 0 (sprR ls)) B
  nB : Ff B
  eA : A = packL (ones (rowsOf E))
  eZ : Z = packL (ones (rowsOf B))
  lA : A = packL (lastLots ls)
  lZ : Z = packL (firstLots ls)
section
variable {ls A Z : List Lot} {E B : List Cow}
theorem HerdE.sprA (e : HerdE ls A Z E B) : sprR A = rowsOf E := by rw [e.eA, packL_spr (ones_pos _), ones_spr]
theorem HerdE.sprZ (e : HerdE ls A Z E B) : sprR Z = rowsOf B := by rw [e.eZ, packL_spr (ones_pos _), ones_spr]
theorem HerdE.posA (e : HerdE ls A Z E B) : PosL A := by rw [e.eA]; exact packL_pos (ones_pos _)
theorem HerdE.posZ (e : HerdE ls A Z E B) : PosL Z := by rw [e.eZ]; exact packL_pos (ones_pos _)
theorem HerdE.lenE (e : HerdE ls A Z E B) : (rowsOf E).length = (sprR ls).length := by
  unfold rowsOf
  rw [List.length_map]
  exact (ids_low e.sE).2
theorem HerdE.lenB (e : HerdE ls A Z E B) : (rowsOf B).length = (sprR ls).length := by
  unfold rowsOf
  rw [List.length_map, e.sB.len]
  have h2 := congrArg List.length (tag0_fst (sprR ls))
  rw [List.length_map, List.length_range] at h2
  exact h2
end
section
variable {ls A Z : List Lot} {E B : List Cow}
end
end HH
set_option maxHeartbeats 4000000
namespace HH
open PySem PySem.Spec PyProof.Rows L2 Evl RZ
structure LikeL (c d : Int) (m : Nat) (ls ls' : List Lot) : Prop where
  l1 : m ≤ ls.length
  l2 : m ≤ ls'.length
  s : ∀ j, j < m → lS ls' j = c * lS ls j + d
  t : ∀ j, j < m → lT ls' j = c * lT ls j ∧ 0 ≤ lT ls j
def cntL (ls : List Lot) : Int := (ls.map (·.2.2)).sum
theorem cnt_spr : ∀ {ls : List Lot}, PosL ls → cntL ls = ((sprR ls).length : Int)
  | [], _ => rfl
  | l :: ls, h => by
    have ih := cnt_spr (ls := ls) fun x hx => h x (List.mem_cons_of_mem _ hx)
    have hl := h l (List.mem_cons_self ..)
    have e : sprR (l :: ls) = List.replicate l.2.2.toNat (l.1, l.2.1) ++ sprR ls := by
      unfold sprR
      rw [List.flatMap_cons]
    rw [e, List.length_append, List.length_replicate]
    unfold cntL at ih ⊢
    rw [List.map_cons, List.sum_cons, ih]
    omega
section
variable {ls A Z : List Lot} {E B : List Cow}
theorem HerdE.many (h : Mild ls) (e : HerdE ls A Z E B) : cntL A = cntL ls ∧ cntL Z = cntL ls := by
  rw [cnt_spr h.2.1, cnt_spr e.posA, cnt_spr e.posZ, e.sprA, e.sprZ, e.lenE, e.lenB]
  exact ⟨rfl, rfl⟩
end
end HH
set_option maxHeartbeats 4000000
namespace HH
open PySem PySem.Spec PyProof.Rows L2 Evl RZ
def MixSw (z TI TO i1 i2 a b : Addr) (i : Nat) (h : Heap) : Prop := IsZip h z TI TO .none ∧ IsTupOf2 h TI (.ref i1) (.ref i2) ∧ (∃ x y, IsTupOf2 h TO x y) ∧ h.IsTupleIter i1 a i ∧ h.IsListIter i2 b i
theorem MixSw.objs {z TI TO i1 i2 a b : Addr} {i : Nat} {h : Heap} (m : MixSw z TI TO i1 i2 a b i h) : ∀ c ∈ [z, TI, TO, i1, i2], ∃ ob, h.get? c = some ob ∧ ∀ v, ob.data ≠ .cell v := fun c hc => by
  obtain ⟨m1, m2, ⟨_, _, m3⟩, ⟨p1, g1, _, d1⟩, ⟨p2, g2, _, d2⟩⟩ := m
  rcases five hc with rfl | rfl | rfl | rfl | rfl
  · exact ⟨_, m1, fun v q => by cases q⟩
  · exact ⟨_, m2, fun v q => by cases q⟩
  · exact ⟨_, m3, fun v q => by cases q⟩
  · exact ⟨p1, g1, fun v q => by rw [d1] at q; cases q⟩
  · exact ⟨p2, g2, fun v q => by rw [d2] at q; cases q⟩
end HH
set_option maxHeartbeats 4000000
namespace HH
open PySem PySem.Spec PyProof.Rows L2 Evl RZ
section
variable {K : PySem.W.Frag} {H H' H0 H1 H2 : Hp} {σ : L2.St} {te ta tb tc ti : TE} {tr : TA} {D : Ends} {v : V} {ls ms : List Lot} {tz : TS}
end
end HH
set_option maxHeartbeats 4000000
namespace HH
open PySem PySem.Spec PyProof.Rows L2 Evl RZ
section
variable {K : PySem.W.Frag} {σ : L2.St} {p : Addr} {ta tb te ti : TE} {tr : TA} {D : Ends} {tz tu : TS} {g : TG} {H H' : Hp} {v : V} {ls ms : List Lot}
end
end HH
set_option maxHeartbeats 4000000
namespace HH
open PySem PySem.Spec PyProof.Rows L2 Evl RZ
section
variable {K : PySem.W.Frag} {σ : L2.St} {p : Addr} {ta tb tc te ti : TE} {tr : TA} {D : Ends} {tz tu : TS} {g : TG} {H H' : Hp} {v : V} {rs : HH.Row}
end
end HH
set_option maxHeartbeats 4000000
namespace HH
open PySem PySem.Spec PyProof.Rows L2 Evl RZ
end HH
set_option maxHeartbeats 4000000
namespace HH
open PySem PySem.Spec PyProof.Rows L2 Evl RZ
section
variable {K : PySem.W.Frag} {σ : L2.St} {te ta : TE} {tr : TA} {H H' : Hp} {v : V} {rs : HH.Row}
theorem LastAt.up {q D : Addr} {L : List Cow} {xs ys : List V} (h : LastAt K H q L) (hD : H D = some (.lst xs)) : LastAt K (upd H D (.lst ys)) q L := by
  obtain ⟨v, ot, h1, h2, h3⟩ := h.ex
  have x : ExB D H (upd H D (.lst ys)) := (ExB.refl _ _).upd
  exact ⟨v, ot, x _ _ (fun z => by rw [z, hD] at h1; cases h1) h1, h2.exL x hD, x _ _ (fun z => by rw [z, hD] at h3; cases h3) h3⟩
end
end HH
set_option maxHeartbeats 4000000
namespace HH
open PySem PySem.Spec PyProof.Rows L2 Evl RZ
section
variable {K : PySem.W.Frag} {σ : L2.St} {te ta tb : TE} {tr : TA} {H H' : Hp} {v : V} {rs : HH.Row} {n : Nat}
end
end HH
set_option maxHeartbeats 4000000
namespace HT
open PySem PySem.Spec PyProof.Rows
section
variable {prog : Program} {w : World} {A : Around} {E : Value → Shared → Prop} {s : Shared}
end
end HT
namespace HH
open PySem PySem.Spec PyProof.Rows L2 Evl RZ
section
variable {K : PySem.W.Frag} {σ : L2.St} {H : Hp} {te : TE}
end
end HH
set_option maxHeartbeats 4000000
namespace HH
open PySem PySem.Spec PyProof.Rows L2 Evl RZ
section
variable {K : PySem.W.Frag} {σ : L2.St} {te ta tb ti tj tl : TE} {tr : TA} {tt : TT} {D : Ends} {tz tu : TS} {g : TG} {H H' : Hp} {v : V} {rs : HH.Row}
end
end HH
set_option maxHeartbeats 4000000
namespace HH
open PySem PySem.Spec PyProof.Rows L2 Evl RZ
def TupsF (H : Hp) (us : List V) (ls : List (List Nat)) : Prop := All2 (fun v l => ∃ b, v = .ref b ∧ FrzT H b (natsV l)) us ls
theorem FrzT.exA {d a : Addr} {H H' : Hp} {xs : List V} (h : FrzT H a xs) (e : ExB d H H') (hd : ∀ o u, H d ≠ some (.frz o u)) : FrzT H' a xs := by
  obtain ⟨o, h1, h2⟩ := h
  exact ⟨o, h1, e _ _ (fun z => hd _ _ (by rw [← z]; exact h2)) h2⟩
theorem TupsF.exB {d : Addr} {H H' : Hp} {us : List V} {ls : List (List Nat)} (h : TupsF H us ls) (e : ExB d H H') (hd : ∀ o u, H d ≠ some (.frz o u)) : TupsF H' us ls := All2.mono (fun v l ⟨b, h1, h2⟩ => ⟨b, h1, h2.exA e hd⟩) h
theorem TupsF.ex {H H' : Hp} {us : List V} {ls : List (List Nat)} (h : TupsF H us ls) (e : Ex H H') : TupsF H' us ls := All2.mono (fun v l ⟨b, h1, h2⟩ => ⟨b, h1, h2.ex e⟩) h
theorem TupsF.dp {K : PySem.W.Frag} {H : Hp} : ∀ {us : List V} {ls : List (List Nat)}, TupsF H us ls → DpAll K H us (ls.map natsD)
  | _, _, .nil => .nil
  | _, _, .cons ⟨b, h1, h2⟩ t => by rw [h1]; exact .cons (dp_nats h2.sq) (TupsF.dp t)
theorem TupsF.at {H : Hp} {us : List V} {ls : List (List Nat)} (h : TupsF H us ls) {k : Nat} {l : List Nat} (hk : ls[k]? = some l) : ∃ b, us[k]? = some (.ref b) ∧ FrzT H b (natsV l) := by
  induction h generalizing k with
  | nil => cases hk
  | @cons v m us ls h t ih =>
    cases k with
    | zero =>
      obtain ⟨b, rfl, h2⟩ := h
      cases hk
      exact ⟨b, rfl, h2⟩
    | succ k => exact ih hk
theorem rowAt_exX {K : PySem.W.Frag} {d : Addr} {H H' : Hp} {φ : Heap → Prop} {v : V} {rs : HH.Row} (h : RowAt K H v rs) (e : ExB d H H') (hd : H d = some (.ext φ)) : RowAt K H' v rs := by
  have st : ∀ {a : Addr} {xs : List V}, SqT K H a xs → SqT K H' a xs := fun {a xs} h => by
    rcases h with h | h
    · refine .inl (e.rd (fun z => ?_) h)
      subst z
      rcases h with h | ⟨o, h⟩
      · rw [hd] at h
        cases h
      · rw [hd] at h
        cases h
    · exact .inr h
  obtain ⟨a, vs, h1, h2, h3, h4⟩ := h
  refine ⟨a, vs, h1, st h2, h3, fun i b hb => ?_⟩
  obtain ⟨x, hx, p, hp, hq⟩ := h4 i b hb
  exact ⟨x, hx, p, hp, st hq⟩
theorem GoneD.exX {K : PySem.W.Frag} {d : Addr} {H H' : Hp} {φ : Heap → Prop} {rs : HH.Row} {kvs : List (List Key × V)} {G : List (List Nat)} (h : GoneD K H rs kvs G) (e : ExB d H H') (hd : H d = some (.ext φ)) : GoneD K H' rs kvs G := ⟨h.keys, h.nd, fun l hl => by
  obtain ⟨v, L, ds, h1, h2, h3, h4⟩ := h.rows l hl
  exact ⟨v, L, ds, h1, h2, h3, rowAt_exX h4 e hd⟩⟩
theorem GoneD.none {K : PySem.W.Frag} {H : Hp} {rs : HH.Row} {kvs : List (List Key × V)} {G : List (List Nat)} (h : GoneD K H rs kvs G) {l : List Nat} (hl : l ∉ G) : valV kvs (keyN l) = none := by
  have := h.has l
  rw [decide_eq_false hl] at this
  cases c : valV kvs (keyN l) with
  | none => rfl
  | some x => rw [c] at this; cases this
theorem DX.put {P : Program} {w : World} {H : Hp} {d b : Addr} {kb : KB} {k : List Key} {v : V} (g : DX P w H d kb) (f : FrzT H b (k.map kV)) : DX P w (upd H d (.ext (dxP P w d (kb ++ [(k, b, v)])))) d (kb ++ [(k, b, v)]) := by
  have hd : ∀ o u, H d ≠ some (.frz o u) := fun o u z => by rw [g.ob] at z; cases z
  have e : ExB d H (upd H d (.ext (dxP P w d (kb ++ [(k, b, v)])))) := (ExB.refl _ _).upd
  refine ⟨upd_same, fun p hp => ?_⟩
  rcases List.mem_append.mp hp with z | z
  · exact (g.ks p z).exA e hd
  · rw [List.mem_singleton.mp z]
    exact f.exA e hd
section
variable {K : PySem.W.Frag} {σ : L2.St} {te : TE} {H : Hp}
end
end HH
set_option maxHeartbeats 4000000
namespace HH
open PySem PySem.Spec PyProof.Rows L2 Evl RZ
inductive WayR : HH.Row → List Nat → List Deed → Prop
  | nil {r : HH.Row} {l : List Nat} : nearD r l = [] → WayR r l []
  | cons {r : HH.Row} {l s : List Nat} {d : Deed} {rest ds : List Deed} : nearD r l = d :: rest → Again (swapL (List.range r.length) (atD d)) l s → WayR (doR r d) s ds → WayR r l (d :: ds)
theorem tab_sorted {l : List Nat} {n : Nat} (ids : l.Perm (List.range n)) (h : tab l n n = []) : l = List.range n := by
  have nd : l.Nodup := ids.nodup_iff.mpr List.nodup_range
  refine ids.eq_of_pairwise (le := fun a b => a < b) (fun a b _ _ h1 h2 => by omega) ?_ List.pairwise_lt_range
  rw [List.pairwise_iff_getElem]
  intro p q hp hq hpq
  have b := bef_lt (List.getElem?_eq_getElem hp) (List.getElem?_eq_getElem hq) hpq
  rcases Nat.lt_trichotomy l[p] l[q] with c | c | c
  · exact c
  · have := (List.getElem?_inj hp nd).mp ((List.getElem?_eq_getElem hp).trans ((congrArg some c).trans (List.getElem?_eq_getElem hq).symm))
    omega
  · have : (((l[q] : Nat) : Int), ((l[p] : Nat) : Int)) ∈ tab l n n := mem_tab.mpr ⟨l[q], l[p], c, List.mem_range.mp (ids.mem_iff.mp (List.getElem_mem hp)), rfl, b⟩
    rw [h] at this
    cases this
theorem tab_one {n x y : Nat} {A B : List Nat} (ids : (A ++ x :: y :: B).Perm (List.range n)) : (x < y ∧ (tab (A ++ y :: x :: B) n n).length = (tab (A ++ x :: y :: B) n n).length + 1) ∨ (y < x ∧ (tab (A ++ x :: y :: B) n n).length = (tab (A ++ y :: x :: B) n n).length + 1) := by
  have nd : (A ++ x :: y :: B).Nodup := ids.nodup_iff.mpr List.nodup_range
  have lt : ∀ z ∈ A ++ x :: y :: B, z < n := fun z hz => List.mem_range.mp (ids.mem_iff.mp hz)
  have pm : (A ++ y :: x :: B).Perm (A ++ x :: y :: B) := List.Perm.append_left A (List.Perm.swap x y B)
  rcases Nat.lt_trichotomy x y with c | c | c
  · refine .inl ⟨c, ?_⟩
    have := (tab_swap c nd lt).length_eq
    rw [List.length_append] at this
    exact this.symm
  · subst c
    have := (List.nodup_append.mp nd).2.1
    exact absurd (List.mem_cons_self ..) (List.nodup_cons.mp this).1
  · refine .inr ⟨c, ?_⟩
    have := (tab_swap c (pm.nodup_iff.mpr nd) fun z hz => lt z (pm.mem_iff.mp hz)).length_eq
    rw [List.length_append] at this
    exact this.symm
theorem run_far {rs : HH.Row} {L : List Cow} {ds : List Deed} (tl : ∀ x ∈ rs, 0 ≤ x.2) (r : MRun (tag 0 rs) L ds) : (tab (L.map (·.1)) rs.length rs.length).length ≤ ds.length := by
  induction r with
  | nil => rw [tab_none]; exact Nat.le_refl _
  | @pass pre post a b ds r h ih =>
    have i1 := run_ids tl r
    rw [ids_split] at i1 ih
    rw [List.length_append, List.length_cons, List.length_nil]
    rw [show (pre ++ (b.1, (b.2.1 - a.2.2, b.2.2)) :: a :: post).map (·.1) = pre.map (·.1) ++ b.1 :: a.1 :: post.map (·.1) by rw [List.map_append]; rfl]
    rcases tab_one i1 with h | h <;> omega
  | @fall pre post a b ds r h ih =>
    have i1 := run_ids tl r
    rw [ids_split] at i1 ih
    rw [List.length_append, List.length_cons, List.length_nil]
    rw [show (pre ++ b :: (a.1, (a.2.1 + b.2.2, a.2.2)) :: post).map (·.1) = pre.map (·.1) ++ b.1 :: a.1 :: post.map (·.1) by rw [List.map_append]; rfl]
    rcases tab_one i1 with h | h <;> omega
theorem way_run : ∀ {r : HH.Row} {l : List Nat} {ds : List Deed}, WayR r l ds → (∀ x ∈ r, 0 ≤ x.2) → Keeps r l → ∃ L, MRun (tag 0 r) L ds ∧ L.map (·.1) = l ∧ ds.length = (tab l r.length r.length).length := by
  intro r l ds h
  induction h with
  | @nil r l hn =>
    intro tl k
    obtain ⟨L, ds, run, e⟩ := reach tl k
    have h0 := (near_none tl run).mp (by rw [e]; exact hn)
    rw [e] at h0
    have := tab_sorted k.ids h0
    refine ⟨tag 0 r, .nil, by rw [tag_ids, this], ?_⟩
    rw [h0]
    rfl
  | @cons r l s d rest ds hd ag hw ih =>
    intro tl k
    obtain ⟨ok, bd⟩ := near_ok (l := l) (d := d) (by rw [hd]; exact List.mem_cons_self ..)
    obtain ⟨L1, run1, row1, ids1, atl⟩ := deed_run ok
    obtain ⟨lenD, tlD⟩ := doR_ok ok tl
    obtain ⟨L, dsL, run, e⟩ := reach tl k
    have ag1 : Again (L1.map (·.1)) (L.map (·.1)) s := by rw [ids1, e]; exact ag
    have kp := keeps_again tl run1 run ag1
    rw [row1] at kp
    obtain ⟨L2, run2, e2, len2⟩ := ih tlD kp
    have m := run2.maps (f := ixN (L1.map (·.1)))
    rw [← row1, rl_tag] at m
    have c := run1.cat m
    have eL : (rlL (ixN (L1.map (·.1))) L2).map (·.1) = l := by
      rw [← e, ag1.1, ← e2]
      unfold rlL
      rw [List.map_map, List.map_map]
      rfl
    refine ⟨_, c, eL, ?_⟩
    have h1 := run_far tl c
    rw [eL, List.length_append] at h1
    have ids := k.ids
    have les : (tab s r.length r.length).length < (tab l r.length r.length).length := by
      refine tab_less ids atl bd ag.1 fun z hz => ?_
      have h2 := ag.2 z hz
      have idsL1 := run_ids tl run1
      rw [← ids1, idsL1.length_eq, List.length_range] at h2
      exact h2
    rw [lenD] at len2
    simp only [List.length_cons, List.length_nil] at h1 ⊢
    omega
def spWay (K : PySem.W.Frag) : Sp := fun vs H Q _ => ∃ (v : V) (o : Addr) (rs : HH.Row) (L : List Cow), vs = [v, .ref o] ∧ Went K H v o rs L ∧ 0 < rs.length ∧
  ∀ (q : Addr) (us : List V) (ds : List Deed) (H' : Hp), H q = none → Ex H H' → H' q = some (.lst us) → All2 (DeedAt K H') us ds → WayR rs (L.map (·.1)) ds → Q (.ref q) H'
end HH
set_option maxHeartbeats 4000000
namespace HH
open PySem PySem.Spec PyProof.Rows Srt SrtO L2 Evl
def rSortedX (P : Program) (w : World) : List V → Hp → VK → Prop := fun vs H Q => ∃ (d : Addr) (kb : KB) (ks : List (List Int)), vs = [V.ref d] ∧ DX P w H d kb ∧ kb.map (·.1) = ks.map keyI ∧ (∀ k ∈ ks, k ≠ []) ∧
  ∀ (ls : List (List Int)) (bs : List Addr) (p : Addr), Paired (fun b l => FrzT H b (l.map V.int)) bs ls → ls.Perm ks → ls.Pairwise (fun a b => HT.lexLt b a = false) → H p = none → Q (.ref p) (upd H p (.lst (bs.map V.ref)))
theorem keyF_ints {X : Cx} {pins : List (Addr × Obj)} {σ : L2.St} {H : Hp} {s : Shared} {b : Addr} {ns : List Int} (I : Inv X pins σ H s) (e : FrzT H b (ns.map V.int)) (hn : ns ≠ []) : IsInts s.heap (.ref b) ns := by
  obtain ⟨o0, _, e⟩ := e
  obtain ⟨_, _, its, r, o, h1, h2, n, h3⟩ := (show ObjOk X.prog X.w H s.heap b (.frz o0 (.tup (ns.map V.int))) from I.hok b _ e)
  exact ⟨b, o, its.toArray, n, rfl, h1, h2, h3, by simpa using r.ints, hn⟩
theorem cr_sortedX {P : Program} {w : World} {X : Cx} (hc : X.calm = true) (hP : X.prog = P := by rfl) (hw : X.w = w := by rfl) : CallR X (.builtin "sorted") (rSortedX P w) := by
  subst hP hw
  intro pins s σ H xs us Q I r h
  obtain ⟨d, kvs, kl, rfl, hd, hkeys, hne, q⟩ := h
  obtain ⟨u, rfl, rx⟩ := r.one
  cases rx
  obtain ⟨⟨z, hs, ks, pr, o, es, ep, ho, hx, hdt, he, hn⟩, _⟩ := (show ObjOk X.prog X.w H s.heap d (.ext (dxP X.prog X.w d kvs)) from I.hok d _ hd.ob)
  have l1 : es.size = ks.length := size_of_entries he
  have l2 : kvs.length = ks.length := Paired.length pr
  refine Calls.call_function_entry PyProof.Rows.kind_sorted PyProof.Rows.plain_sorted PyProof.Rows.entry_sorted (PyProof.Rows.args_sorted1 _) ?_
  unfold Builtin.«sorted»
  refine wpAny_bind (m := checkCount "sorted" 1 1 _) (wpAny_pure ?_)
  refine wpAny_bind (PySem.W.kdu_collect (A := X.A.in1) (kdl_raw hs hx hdt) (I.ok.hd hc) ho (by omega) fun h' tk acc hk it => ?_)
  have ea : acc.toList = ks.map fun x => Value.ref x.2.1 := by
    have hl : acc.toList.length = ks.length := by rw [Array.length_toList, it.1]; exact l1
    apply List.ext_getElem?
    intro j
    rw [List.getElem?_map]
    cases hj : acc.toList[j]? with
    | none =>
      have h1 := List.getElem?_eq_none_iff.mp hj
      rw [List.getElem?_eq_none (by omega)]
      all_goals rfl
    | some v =>
      obtain ⟨en, hen, hv⟩ := it.2 j v (by rw [← Array.getElem?_toList]; exact hj)
      have qe := entry_at he j
      rw [hen] at qe
      cases hb : ks[j]? with
      | none =>
        rw [hb] at qe
        exact nomatch (show some en = none from qe)
      | some b =>
        rw [hb] at qe
        have e2 : en = entryOfKey (tupleKind (mixKind X.prog X.w)) b := Option.some.inj qe
        rw [hv, e2]
        all_goals rfl
  have pr2 : ∀ (kvs : KB) (ks : List (List Key × Addr × Value)) (kl : List (List Int)), KX kvs ks → (∀ p ∈ kvs, FrzT H p.2.1 (p.1.map kV)) → kvs.map (·.1) = kl.map keyI → (∀ k ∈ kl, k ≠ []) → (∀ v ∈ ks.map (fun x => Value.ref x.2.1), ∃ ns b, v = .ref b ∧ IsInts s.heap (.ref b) ns ∧ FrzT H b (ns.map V.int)) ∧ (ks.map fun x => Value.ref x.2.1).map (intsVal s.heap) = kl := by
    intro kvs ks kl pr
    induction pr generalizing kl with
    | nil =>
      intro _ e _
      cases kl with
      | nil => exact ⟨(fun _ h => nomatch h), rfl⟩
      | cons a b => cases e
    | @cons p q ps qs h t ih =>
      intro fz e hne
      cases kl with
      | nil => cases e
      | cons n kl =>
        rw [List.map_cons, List.map_cons] at e
        obtain ⟨e1, e2⟩ := List.cons.inj e
        obtain ⟨i1, i2⟩ := ih kl (fun p hp => fz p (List.mem_cons_of_mem _ hp)) e2 fun k hk => hne k (List.mem_cons_of_mem _ hk)
        have hb : FrzT H q.2.1 (n.map V.int) := by
          rw [← keyI_V, ← e1, ← h.2.1]
          exact fz p (List.mem_cons_self ..)
        have ii := keyF_ints I hb (hne n (List.mem_cons_self ..))
        refine ⟨fun v hv => ?_, ?_⟩
        · rcases List.mem_cons.mp hv with z | z
          · exact ⟨n, q.2.1, z, ii, hb⟩
          · exact i1 v z
        · rw [List.map_cons, List.map_cons, i2, intsVal_is ii]
  obtain ⟨each, emap⟩ := pr2 kvs ks kl pr hd.ks hkeys hne
  rw [← ea] at each emap
  have hal : acc.toList.length = ks.length := by rw [ea, List.length_map]
  have hz : acc.toList.length ≤ sizeLine := by omega
  have I1 : Inv X pins σ H { s with heap := h', toks := tk } := I.kept hk
  refine wpAny_bind (wpAny_newList ?_ hz)
  have hoL : (h'.push (seqObj "list" acc.toList.toArray 0)).get? h'.objs.size = some (seqObj "list" acc.toList.toArray 0) := Heap.get?_push_size _ rfl
  show wpAny _ _ _ _ _ { s with heap := h'.push (seqObj "list" acc.toList.toArray 0), toks := tk }
  refine wpAny_bind (wpAny_holding (wpAny_call_entry PyProof.Rows.slot_list_sort ⟨_, hoL, rfl⟩ PyProof.Rows.entry_list_sort
    (list_sort_ord (s := { s with heap := h'.push (seqObj "list" acc.toList.toArray 0), toks := tk }) (swo_lexI (intsVal s.heap)) hoL hz (fun h2 => ?_) fun out g1 g2 => ⟨_, rfl, ?_⟩) (PyProof.Rows.args_list_sort _)))
  · refine ints_sortableT (s := { s with heap := h'.push (seqObj "list" acc.toList.toArray 0), toks := tk }) (by omega) (fun v hm => ?_) fun o e => ?_
    · obtain ⟨ns, b, rfl, ii, _⟩ := each v hm
      rw [intsVal_is ii]
      exact ii.keeps fun b o e _ => Heap.get?_push_of_some _ (hk b o e)
    · have e' : some o = some (seqObj "list" acc.toList.toArray 0) := e.symm.trans hoL
      cases e'
      intro c
      exact absurd (Value.type.inj c) (by decide)
  · obtain ⟨e', he'⟩ := PyProof.Rows.sortedHeap_at (vs := acc.toList) (out := out.toArray) hoL
    have pm := g2.perm
    have hmem : ∀ u ∈ out, u ∈ acc.toList := fun u hu => pm.mem_iff.mp hu
    have h3 : ∀ u ∈ out, ∃ a, u = Value.ref a := fun u hu => by
      obtain ⟨_, b, e, _⟩ := each u (hmem u hu)
      exact ⟨b, e⟩
    have pr3 : ∀ out : List Value, (∀ u ∈ out, u ∈ acc.toList) → ∃ bs : List Addr, out = bs.map Value.ref ∧ Paired (fun b l => FrzT H b (l.map V.int)) bs (out.map (intsVal s.heap)) := by
      intro out
      induction out with
      | nil => exact fun _ => ⟨[], rfl, .nil⟩
      | cons u out ih =>
        intro hm
        obtain ⟨bs, g1, g2⟩ := ih fun x hx => hm x (List.mem_cons_of_mem _ hx)
        obtain ⟨ns, b, rfl, ii, hb⟩ := each u (hm u (List.mem_cons_self ..))
        exact ⟨b :: bs, by rw [List.map_cons, ← g1], by rw [List.map_cons, intsVal_is ii]; exact .cons hb g2⟩
    obtain ⟨bs, ebs, pb⟩ := pr3 out hmem
    have ol : out.length = ks.length := by rw [pm.length_eq, hal]
    have hlen : (bs.map V.ref).length ≤ sizeLine := by
      have := congrArg List.length ebs
      rw [List.length_map] at this ⊢
      omega
    refine wpAny_pure ⟨_, rfl, .ref h'.objs.size, upd H h'.objs.size (.lst (bs.map V.ref)), I1.laid (t' := tk) (fun b u e => ?_) (Nat.le_refl _)
      (show ObjOk X.prog X.w _ _ _ (.lst (bs.map V.ref)) from ⟨hlen, out, e', by rw [ebs]; exact vals_refs _, he'⟩), rfl, q (out.map (intsVal s.heap)) bs _ pb ?_ ?_ (I1.hok.fresh (Nat.le_refl _))⟩
    · have hb : b < h'.objs.size := Heap.lt_size e
      rw [PyProof.Rows.sortedHeap_old (Nat.ne_of_lt hb) (by rw [size_push']; exact Nat.lt_succ_of_lt hb)]
      exact Heap.get?_push_of_some _ e
    · have := pm.map (intsVal s.heap)
      rw [emap] at this
      exact this
    · exact List.pairwise_map.mpr g1
end HH
set_option maxHeartbeats 4000000
namespace HH
open PySem PySem.Spec PyProof.Rows L2 Evl
end HH
set_option maxHeartbeats 4000000
namespace HH
open PySem PySem.Spec PyProof.Rows L2 Evl RZ
section
variable {K : PySem.W.Frag} {σ : L2.St} {H : Hp} {tA tB tO : TE} {vA : V} {oA oB : Addr} {rb : HH.Row} {LA LB : List Cow} {dA dB : List Deed} {X X1 X2 : XK}
end
end HH
set_option maxHeartbeats 4000000
namespace HH
open PySem PySem.Spec PyProof.Rows L2 Evl RZ
open PySem.W (dataLt alike alikeAll keyToksAll)
theorem eqv_deedD {d e : Deed} (h : d ≠ e) : PyData.eqv (deedD d) (deedD e) = false := by
  obtain ⟨a, i⟩ := d
  obtain ⟨b, j⟩ := e
  by_cases c : i = j
  · subst c
    have : a ≠ b := fun z => h (by rw [z])
    cases a <;> cases b <;> first | exact absurd rfl this | (unfold deedD; simp [PyData.eqv, PyData.eqvAll, wordOf]; try decide)
  · unfold deedD
    simp only [PyData.eqv, PyData.eqvAll, Bool.and_eq_false_iff]
    right
    left
    show ((i : Int) == (j : Int)) = false
    simp
    omega
theorem eqv_deedS (d : Deed) : PyData.eqv (deedD d) (deedD d) = true := SeqAt.eqv_refl _ (deeds_nice [d] _ (List.mem_singleton_self _)).1
def triD (r : HH.Row) (d : Deed) (s : List Nat) : PyData := .tuple [deedD d, rowD r, natsD s]
end HH
set_option maxHeartbeats 4000000
namespace HH
open PySem PySem.Spec PyProof.Rows L2 Evl RZ
def TriAt (K : PySem.W.Frag) (H : Hp) (v : V) (r : HH.Row) (d : Deed) (s : List Nat) : Prop := ∃ (t : Addr) (dv rv : V) (sv : Addr), v = .ref t ∧ SqT K H t [dv, rv, .ref sv] ∧ DeedAt K H dv d ∧ RowAt K H rv r ∧ SqT K H sv (natsV s)
section
variable {K : PySem.W.Frag} {H H' : Hp} {v : V} {r : HH.Row} {d : Deed} {s : List Nat}
theorem TriAt.ex (h : TriAt K H v r d s) (e : Ex H H') : TriAt K H' v r d s := by
  obtain ⟨t, dv, rv, sv, h1, h2, h3, h4, h5⟩ := h
  exact ⟨t, dv, rv, sv, h1, ex_t e h2, h3.ex' e, h4.ex e, ex_t e h5⟩
theorem TriAt.exL {a : Addr} {xs : List V} (h : TriAt K H v r d s) (e : ExB a H H') (ha : H a = some (.lst xs)) : TriAt K H' v r d s := by
  obtain ⟨t, dv, rv, sv, h1, h2, ⟨p, h3, h3'⟩, h4, h5⟩ := h
  exact ⟨t, dv, rv, sv, h1, e.t ha h2, ⟨p, h3, e.t ha h3'⟩, h4.exL e ha, e.t ha h5⟩
theorem TriAt.dp (h : TriAt K H v r d s) : Dp K H v (triD r d s) := by
  obtain ⟨t, dv, rv, sv, rfl, h2, ⟨p, rfl, h3'⟩, h4, h5⟩ := h
  obtain ⟨a, rfl, h4d⟩ := h4.dp
  exact .tup h2 (.cons (.tup h3' (.cons (.str _) (.cons (.int _) .nil))) (.cons h4d (.cons (dp_nats h5) .nil)))
end
def TrisAt (K : PySem.W.Frag) (H : Hp) (us : List V) (rs : HH.Row) (l : List Nat) (ds : List Deed) : Prop := All2 (fun v d => ∃ s, Again (swapL (List.range rs.length) (atD d)) l s ∧ TriAt K H v (doR rs d) d s) us ds
section
variable {K : PySem.W.Frag} {H H' : Hp} {us : List V} {rs : HH.Row} {l : List Nat} {ds : List Deed}
theorem TrisAt.ex (h : TrisAt K H us rs l ds) (e : Ex H H') : TrisAt K H' us rs l ds := All2.mono (fun v d ⟨s, a, t⟩ => ⟨s, a, t.ex e⟩) h
theorem TrisAt.exL {a : Addr} {xs : List V} (h : TrisAt K H us rs l ds) (e : ExB a H H') (ha : H a = some (.lst xs)) : TrisAt K H' us rs l ds := All2.mono (fun v d ⟨s, a, t⟩ => ⟨s, a, t.exL e ha⟩) h
end
def tauN (p x : Nat) : Nat := if x = p then p + 1 else if x = p + 1 then p else x
theorem tau_tau (p x : Nat) : tauN p (tauN p x) = x := by
  unfold tauN
  split <;> split <;> (try split) <;> omega
theorem again_tau {n p : Nat} {l : List Nat} (hp : p + 1 < n) (hl : ∀ x ∈ l, x < n) : Again (swapL (List.range n) p) l (l.map (tauN p)) := by
  have lt : ∀ x, x < n → tauN p x < n := fun x hx => by
    unfold tauN
    split
    · omega
    · split <;> omega
  refine ⟨?_, fun x hx => ?_⟩
  · rw [List.map_map]
    refine (List.map_id' l).symm.trans (List.map_congr_left fun x hx => ?_)
    show x = ixN (swapL (List.range n) p) (tauN p x)
    rw [ixN_swap hp (lt x (hl x hx))]
    exact (tau_tau p x).symm
  · obtain ⟨y, hy, rfl⟩ := List.mem_map.mp hx
    have e : (swapL (List.range n) p).length = n := by
      unfold swapL
      rw [List.length_append, List.length_append, List.length_take, List.length_drop, List.length_range]
      simp only [List.length_cons, List.length_nil]
      omega
    rw [e]
    exact lt y (hl y hy)
theorem s_appX {K : PySem.W.Frag} {σ : L2.St} {H : Hp} {ta te : TE} {D : Ends} {l : Addr} {xs : List V} (hl : H l = some (.lst xs)) (ha : Ev ta σ H (.ref l)) (hz : xs.length < 100000) (h : ∀ H1, Ex H H1 → te σ H1 fun x H2 => ∃ l' xs' x', V.ref l = .ref l' ∧ [x] = [x'] ∧ H2 l' = some (.lst xs') ∧ xs'.length < sizeLine ∧ D.nx σ (upd H2 l' (.lst (xs' ++ [x'])))) : tDrop (tBM K "list" rAppend ta (tCons te tNil)) D σ H := ha H (Ex.refl _) _ fun H1 e1 => ⟨.inl ⟨rfl, _, sq_of (e1 _ _ hl)⟩, h H1 e1⟩
end HH
set_option maxHeartbeats 4000000
namespace HH
open PySem PySem.Spec PyProof.Rows L2 Evl RZ
def waysD (w : List Deed) : PyData := .list (w.map deedD)
def ListDAt (K : PySem.W.Frag) (H : Hp) (v : V) (ds : List Deed) : Prop := ∃ (a : Addr) (ws : List V), v = .ref a ∧ H a = some (.lst ws) ∧ All2 (DeedAt K H) ws ds
theorem ListDAt.ex {K : PySem.W.Frag} {H H' : Hp} {v : V} {ds : List Deed} (h : ListDAt K H v ds) (e : Ex H H') : ListDAt K H' v ds := by
  obtain ⟨a, ws, h1, h2, h3⟩ := h
  exact ⟨a, ws, h1, e _ _ h2, deeds_ex e h3⟩
theorem ListDAt.exL {K : PySem.W.Frag} {H H' : Hp} {v : V} {ds : List Deed} {q : Addr} {ys : List V} (h : ListDAt K H v ds) (e : ExB q H H') (hq : H q = some (.lst ys)) (hv : v ≠ .ref q) : ListDAt K H' v ds := by
  obtain ⟨a, ws, h1, h2, h3⟩ := h
  exact ⟨a, ws, h1, e _ _ (fun z => hv (by rw [h1, z])) h2, deeds_exB e hq h3⟩
theorem ListDAt.dp {K : PySem.W.Frag} {H : Hp} {v : V} {ds : List Deed} (h : ListDAt K H v ds) : Dp K H v (waysD ds) := by
  obtain ⟨a, ws, rfl, h2, h3⟩ := h
  exact .lst (sq_of h2) (deeds_dp h3)
end HH
set_option maxHeartbeats 4000000
namespace HH
open PySem PySem.Spec PyProof.Rows L2 Evl RZ
section
variable {K : PySem.W.Frag} {σ : L2.St} {H : Hp} {te : TE}
end
end HH
set_option maxHeartbeats 4000000
namespace HH
open PySem PySem.Spec PyProof.Rows L2 Evl RZ
section
variable {K : PySem.W.Frag} {σ : L2.St} {H : Hp} {te : TE}
theorem el_drawsF {G : List Nat → Prop} {p : Addr} {j b0 c : Nat} {m : Nat} {vs : List Nat} (hm : m ≤ 100) (hb : Bx H p b0) (hw : ∀ x, wipe ((wipe σ vs).set j (some x)) vs = wipe σ vs)
    (each : ∀ (i : Nat) (H1 : Hp), i < m → ExB p H H1 → Bx H1 p (b0 + c * i) → ∀ Q : VK, (∀ (a : Addr) (l : List Nat) (H2 : Hp), ExB p H1 H2 → Bx H2 p (b0 + c * (i + 1)) → FrzT H2 a (natsV l) → G l → Q (.ref a) H2) → te ((wipe σ vs).set j (some (.int (i : Int)))) H1 Q) {Q : VK}
    (q : ∀ (D : Addr) (us : List V) (Ls : List (List Nat)) (H2 : Hp), H D = none → ExB p H H2 → Bx H2 p (b0 + c * m) → H2 D = some (.lst us) → TupsF H2 us Ls → Ls.length = m → (∀ l ∈ Ls, G l) → Q (.ref D) H2) :
    tLc (iRng1 (tCons (tC (.int (m : Int))) tNil)) (gName j) tYes te vs σ H Q := by
  have hA : EvA (tCons (tC (.int (m : Int))) tNil) σ H [.int (m : Int)] := ea_cons ev_c ea_nil
  generalize tCons (tC (.int (m : Int))) tNil = tr at hA ⊢
  refine hA H (Ex.refl _) _ fun H1 e1 => ⟨(m : Int), rfl, by omega, by omega, fun Dl hD => ?_⟩
  have nDp : Dl ≠ p := ((hb.ex e1).ne hD).symm
  refine lc_range (lo := 0) (n := m) (fun i H' => ExB p H1 H' ∧ Bx H' p (b0 + c * i) ∧ ∃ us Ls, H' Dl = some (.lst us) ∧ TupsF H' us Ls ∧ Ls.length = i ∧ ∀ l ∈ Ls, G l) ⟨.of (Ex.new hD), (hb.ex e1).ex (Ex.new hD), [], [], upd_same, .nil, rfl, fun _ h => nomatch h⟩ (fun i H' hi p' => ?_) (fun H' p' => ?_)
  · obtain ⟨x, bx, us, Ls, gD, tn, sl, hS⟩ := p'
    have z0 : (0 : Int) + (i : Int) = (i : Int) := Int.zero_add _
    rw [z0]
    refine ⟨hw _, ?_⟩
    show te ((wipe σ vs).set j (some (.int (i : Int)))) H' _
    refine each i H' hi ((ExB.of e1).trans x) bx _ fun a l H3 x3 b3 ga pl => ?_
    have gD3 := x3 _ _ nDp gD
    have ul := All2.len tn
    have tn3 := tn.exB x3 (fun o u z => by obtain ⟨bl, hbl⟩ := bx.lst; rw [hbl] at z; cases z)
    have nfD : ∀ o u, H3 Dl ≠ some (.frz o u) := fun o u z => by rw [gD3] at z; cases z
    have xu : ExB Dl H3 (upd H3 Dl (.lst (us ++ [.ref a]))) := (ExB.refl _ _).upd
    refine ⟨us, gD3, sz_lt (by omega), ?_, b3.mut (Ne.symm nDp), us ++ [.ref a], Ls ++ [l], upd_same, ?_, by rw [List.length_append, sl]; rfl, fun s hs => ?_⟩
    · exact fun c o n hc => by
        rw [upd_ne (ne_of_none hc hD)]
        exact x3 c o n (x c o n hc)
    · exact TupsF.exB (All2.app tn3 (.cons ⟨a, rfl, ga⟩ .nil)) xu nfD
    · rcases List.mem_append.mp hs with z | z
      · exact hS s z
      · rw [List.mem_singleton.mp z]
        exact pl
  · obtain ⟨x, bx, us, Ls, gD, tn, sl, hS⟩ := p'
    exact q Dl us Ls H' (fresh_back e1 hD) ((ExB.of e1).trans x) bx gD tn sl hS
end
end HH
set_option maxHeartbeats 4000000
namespace HH
open PySem PySem.Spec PyProof.Rows L2 Evl RZ
def farN (l : List Nat) (n : Nat) : Nat := (tab l n n).length
def swD (l : List Nat) (d : Deed) : List Nat := swapL l (atD d)
theorem run_swD {L0 L : List Cow} {ds : List Deed} (r : MRun L0 L ds) : L.map (·.1) = ds.foldl swD (L0.map (·.1)) := by
  induction r with
  | nil => rfl
  | @pass pre post a b ds r h ih =>
    rw [List.foldl_append, ← ih]
    exact ids_swap rfl rfl
  | @fall pre post a b ds r h ih =>
    rw [List.foldl_append, ← ih]
    exact ids_swap rfl rfl
theorem okD_lt {rs : HH.Row} {d : Deed} (ok : okD rs d) : atD d + 1 < rs.length := (deed_run ok).choose_spec.2.2.2
theorem doR_len {rs : HH.Row} {d : Deed} (ok : okD rs d) : (doR rs d).length = rs.length := by
  obtain ⟨L1, _, h2, h3, h4⟩ := deed_run ok
  rw [← h2, cow_len, ← List.length_map (f := (·.1)) (as := L1), h3, swapL_len (by rw [List.length_range]; exact h4), List.length_range]
def OksD (rs : HH.Row) (ds : List Deed) : Prop := ∀ k d, ds[k]? = some d → okD ((ds.take k).foldl doR rs) d
theorem take_do {α : Type} {f : α → Deed → α} {a : α} {ds : List Deed} {k : Nat} {d : Deed} (h : ds[k]? = some d) : (ds.take (k + 1)).foldl f a = f ((ds.take k).foldl f a) d := by
  rw [List.take_add_one, h, List.foldl_append]
  rfl
theorem led_len {rs : HH.Row} {ds : List Deed} (oks : OksD rs ds) : ∀ k, k ≤ ds.length → ((ds.take k).foldl doR rs).length = rs.length ∧ ((ds.take k).foldl swD (List.range rs.length)).length = rs.length
  | 0, _ => ⟨rfl, by simp⟩
  | k + 1, h => by
    obtain ⟨i1, i2⟩ := led_len oks k (by omega)
    have hd := List.getElem?_eq_getElem (show k < ds.length by omega)
    have ok := oks k _ hd
    rw [take_do hd, take_do hd]
    refine ⟨by rw [doR_len ok, i1], ?_⟩
    have := okD_lt ok
    show (swapL _ (atD _)).length = _
    rw [swapL_len (by rw [i2, ← i1]; exact this), i2]
def spLedA (K : PySem.W.Frag) : Sp := fun vs H Q _ => ∃ (v : V) (rs : HH.Row) (c : Addr) (us : List V) (ds : List Deed), vs = [v, .ref c] ∧ RowAt K H v rs ∧ rs.length ≤ 30 ∧ SqL K H c us ∧ All2 (DeedAt K H) us ds ∧ OksD rs ds ∧ ∀ (q t : Addr) (v' : V) (H' : Hp), Ex H H' → H' q = some (.tup [v', .ref t]) → RowAt K H' v' (ds.foldl doR rs) → FrzT H' t (natsV (ds.foldl swD (List.range rs.length))) → Q (.ref q) H'
theorem led_weak {K : PySem.W.Frag} (vs : List V) (H : Hp) (Q : VK) (X : XK) (h : spLedF K vs H Q X) : spLedA K vs H Q X := by
  obtain ⟨v, rs, c, u, d, rfl, hv, hl, hc, hd, ok, q⟩ := h
  refine ⟨v, rs, c, [u], [d], rfl, hv, hl, hc, .cons hd .nil, fun k d' hk => ?_, q⟩
  cases k with
  | zero => cases hk; exact ok
  | succ k => cases hk
theorem cut_two {l : List Nat} {p : Nat} (h : p + 1 < l.length) : ∃ A x y B, l = A ++ x :: y :: B ∧ A.length = p ∧ ixN l p = x ∧ ixN l (p + 1) = y := by
  refine ⟨l.take p, l[p], l[p + 1], l.drop (p + 2), ?_, by rw [List.length_take]; omega, ?_, ?_⟩
  · rw [← List.drop_eq_getElem_cons, ← List.drop_eq_getElem_cons, List.take_append_drop]
  · unfold ixN
    rw [List.getElem?_eq_getElem (show p < l.length by omega)]
    rfl
  · unfold ixN
    rw [List.getElem?_eq_getElem h]
    rfl
theorem far_swap {l : List Nat} {n p : Nat} (ids : l.Perm (List.range n)) (hp : p + 1 < n) : (ixN l p < ixN l (p + 1) ∧ farN (swapL l p) n = farN l n + 1) ∨ (ixN l (p + 1) < ixN l p ∧ farN l n = farN (swapL l p) n + 1) := by
  obtain ⟨A, x, y, B, rfl, rfl, hx, hy⟩ := cut_two (l := l) (p := p) (by rw [ids.length_eq, List.length_range]; exact hp)
  rw [hx, hy, swap_split]
  exact tab_one ids
theorem way_ex : ∀ (m : Nat) {rs : HH.Row} {l : List Nat}, (∀ x ∈ rs, 0 ≤ x.2) → Keeps rs l → farN l rs.length ≤ m → ∃ ds, WayR rs l ds
  | m, rs, l, tl, k, hm => by
    cases hd : nearD rs l with
    | nil => exact ⟨[], .nil hd⟩
    | cons d rest =>
      obtain ⟨ok, bd⟩ := near_ok (l := l) (d := d) (by rw [hd]; exact List.mem_cons_self ..)
      obtain ⟨L1, run1, row1, ids1, atl⟩ := deed_run ok
      obtain ⟨lenD, tlD⟩ := doR_ok ok tl
      obtain ⟨L, dsL, run, e⟩ := reach tl k
      have ag := again_tau (l := l) atl (fun x hx => List.mem_range.mp (k.ids.mem_iff.mp hx))
      have ag1 : Again (L1.map (·.1)) (L.map (·.1)) (l.map (tauN (atD d))) := by rw [ids1, e]; exact ag
      have kp := keeps_again tl run1 run ag1
      rw [row1] at kp
      have les : farN (l.map (tauN (atD d))) rs.length < farN l rs.length := by
        refine tab_less k.ids atl bd ag.1 fun z hz => ?_
        have h2 := ag.2 z hz
        rw [swapL_len (by rw [List.length_range]; exact atl), List.length_range] at h2
        exact h2
      cases m with
      | zero => omega
      | succ m =>
        obtain ⟨ds, W⟩ := way_ex m tlD kp (by rw [lenD]; omega)
        exact ⟨d :: ds, .cons hd ag W⟩
theorem row_n {rs : HH.Row} {L : List Cow} {ds : List Deed} (tl : ∀ x ∈ rs, 0 ≤ x.2) (r : MRun (tag 0 rs) L ds) : (rowsOf L).length = rs.length := by
  have := (run_ids tl r).length_eq
  rw [List.length_map, List.length_range] at this
  rw [cow_len, this]
theorem far_pred {rs : HH.Row} {l : List Nat} {m : Nat} (tl : ∀ x ∈ rs, 0 ≤ x.2) (k : Keeps rs l) (hm : farN l rs.length = m + 1) : ∃ (L : List Cow) (ds : List Deed) (p : Nat), MRun (tag 0 rs) L ds ∧ farN (L.map (·.1)) rs.length = m ∧ p + 1 < rs.length ∧ movesB (rowsOf L) (p + 1) = true ∧ l = swapL (L.map (·.1)) p := by
  obtain ⟨ds, W⟩ := way_ex _ tl k (Nat.le_refl _)
  obtain ⟨L, r, e, len⟩ := way_run W tl k
  have len : ds.length = m + 1 := by rw [len]; exact hm
  cases r with
  | nil => cases len
  | @pass pre post a b ds r h =>
    have ln : ds.length = m := by simpa using len
    have i1 := run_ids tl r
    have lr := row_n tl r
    have le := run_far tl r
    have hp : pre.length + 1 < rs.length := by
      rw [← lr, cow_len, List.length_append]
      simp
    have es : l = swapL ((pre ++ a :: b :: post).map (·.1)) pre.length := by
      rw [← e]
      exact ids_swap rfl rfl
    have fs := far_swap i1 hp
    rw [← es] at fs
    refine ⟨_, ds, pre.length, r, ?_, hp, ?_, es⟩
    · unfold farN at *
      omega
    · have sp : rowsOf (pre ++ a :: b :: post) = rowsOf pre ++ a.2 :: b.2 :: rowsOf post := rows_split ..
      have lp : (rowsOf pre).length = pre.length := cow_len _
      unfold movesB
      rw [sp, ← lp, lets_split, decide_eq_true h, Bool.true_or]
  | @fall pre post a b ds r h =>
    have ln : ds.length = m := by simpa using len
    have i1 := run_ids tl r
    have lr := row_n tl r
    have le := run_far tl r
    have hp : pre.length + 1 < rs.length := by
      rw [← lr, cow_len, List.length_append]
      simp
    have es : l = swapL ((pre ++ a :: b :: post).map (·.1)) pre.length := by
      rw [← e]
      exact ids_swap rfl rfl
    have fs := far_swap i1 hp
    rw [← es] at fs
    refine ⟨_, ds, pre.length, r, ?_, hp, ?_, es⟩
    · unfold farN at *
      omega
    · have sp : rowsOf (pre ++ a :: b :: post) = rowsOf pre ++ a.2 :: b.2 :: rowsOf post := rows_split ..
      have lp : (rowsOf pre).length = pre.length := cow_len _
      unfold movesB
      rw [sp, Nat.add_sub_cancel, ← lp, falls_split, decide_eq_true h, Bool.or_true]
theorem lay_top {rs : HH.Row} {i : Nat} (tl : ∀ x ∈ rs, 0 ≤ x.2) (h : ∀ l, Keeps rs l → farN l rs.length ≠ i) : ∀ l, Keeps rs l → farN l rs.length < i := by
  have key : ∀ m l, Keeps rs l → farN l rs.length ≠ i + m := by
    intro m
    induction m with
    | zero => exact h
    | succ m ih =>
      intro l k e
      obtain ⟨L, ds, p, r, e2, _⟩ := far_pred tl k (m := i + m) (by rw [e]; rfl)
      exact ih _ (run_keeps tl r) e2
  intro l k
  rcases Nat.lt_or_ge (farN l rs.length) i with z | z
  · exact z
  · exact absurd (show farN l rs.length = i + (farN l rs.length - i) by omega) (key _ l k)
theorem inv_le {l g : List Nat} {n : Nat} (il : l.Perm (List.range n)) (e : g.map (ixN l) = List.range n) (hg : ∀ x ∈ g, x < n) : farN g n ≤ farN l n := by
  have nd : l.Nodup := il.nodup_iff.mpr List.nodup_range
  have ll : l.length = n := by rw [il.length_eq, List.length_range]
  have lg : g.length = n := by rw [← List.length_map (f := ixN l) (as := g), e, List.length_range]
  have at1 : ∀ t, t < n → ∃ s, g[t]? = some s ∧ l[s]? = some t := fun t ht => by
    have h1 := List.getElem?_eq_getElem (show t < g.length by omega)
    refine ⟨_, h1, ?_⟩
    have hs := hg _ (List.getElem_mem (show t < g.length by omega))
    have h2 : (g.map (ixN l))[t]? = some t := by rw [e]; rw [List.getElem?_range ht]
    rw [List.getElem?_map, h1] at h2
    have h3 : ixN l g[t] = t := by simpa using h2
    rw [ixN_at (by omega), h3]
  let f : Int × Int → Int × Int := fun x => ((ixN l x.2.toNat : Nat), ((ixN l x.1.toNat : Nat) : Int))
  have key : ∀ x ∈ tab g n n, ∃ s t : Nat, x = ((s : Int), (t : Int)) ∧ s < t ∧ t < n ∧ ixN l t < ixN l s ∧ ixN l s < n := fun x hx => by
    obtain ⟨s, t, h1, h2, rfl, h3⟩ := mem_tab.mp hx
    obtain ⟨p, q, h4, h5, h6⟩ := bef_get h3
    have hp : p < n := by have := (List.getElem?_eq_some_iff.mp h5).1; omega
    have hq : q < n := by have := (List.getElem?_eq_some_iff.mp h6).1; omega
    obtain ⟨t', a1, a2⟩ := at1 p hp
    obtain ⟨s', b1, b2⟩ := at1 q hq
    rw [h5] at a1
    rw [h6] at b1
    cases a1
    cases b1
    have c1 : ixN l t = p := by unfold ixN; rw [a2]; rfl
    have c2 : ixN l s = q := by unfold ixN; rw [b2]; rfl
    exact ⟨s, t, rfl, h1, h2, by omega, by omega⟩
  have ndm : ((tab g n n).map f).Nodup := by
    rw [List.Nodup, List.pairwise_map]
    refine (nd_tab g n n).imp_of_mem fun {a b} ha hb hne z => hne ?_
    obtain ⟨s, t, rfl, h1, h2, h3, h4⟩ := key a ha
    obtain ⟨s', t', rfl, h1', h2', h3', h4'⟩ := key b hb
    have z1 := congrArg Prod.fst z
    have z2 := congrArg Prod.snd z
    simp only [f, Int.toNat_natCast] at z1 z2
    have y1 := ixN_inj nd (p := t) (q := t') (by omega) (by omega) (by omega)
    have y2 := ixN_inj nd (p := s) (q := s') (by omega) (by omega) (by omega)
    rw [y1, y2]
  have := nodup_few (m := tab l n n) ndm fun y hy => by
    obtain ⟨x, hx, rfl⟩ := List.mem_map.mp hy
    obtain ⟨s, t, rfl, h1, h2, h3, h4⟩ := key x hx
    simp only [f, Int.toNat_natCast]
    exact mem_tab.mpr ⟨ixN l t, ixN l s, h3, h4, rfl, bef_lt (ixN_at (by omega)) (ixN_at (by omega)) h1⟩
  rw [List.length_map] at this
  exact this
theorem inv_flip {l g : List Nat} {n : Nat} (il : l.Perm (List.range n)) (e : g.map (ixN l) = List.range n) (hg : ∀ x ∈ g, x < n) : g.Perm (List.range n) ∧ l.map (ixN g) = List.range n := by
  have nd : l.Nodup := il.nodup_iff.mpr List.nodup_range
  have ll : l.length = n := by rw [il.length_eq, List.length_range]
  have lg : g.length = n := by rw [← List.length_map (f := ixN l) (as := g), e, List.length_range]
  have gl : ∀ t, t < n → ixN l (ixN g t) = t := fun t ht => by
    have h2 : (g.map (ixN l))[t]? = some t := by rw [e, List.getElem?_range ht]
    rw [List.getElem?_map, ixN_at (by omega)] at h2
    simpa using h2
  have glt : ∀ t, t < n → ixN g t < n := fun t ht => hg _ (List.mem_of_getElem? (ixN_at (by omega)))
  have ndg : g.Nodup := by
    have := (e ▸ List.nodup_range : (g.map (ixN l)).Nodup)
    rw [List.Nodup, List.pairwise_map] at this
    exact this.imp fun {a b} h z => h (by rw [z])
  have lt : ∀ s, s < n → ixN l s < n := fun s hs => List.mem_range.mp (il.mem_iff.mp (List.mem_of_getElem? (ixN_at (by omega))))
  refine ⟨?_, ?_⟩
  · refine (List.perm_ext_iff_of_nodup ndg List.nodup_range).mpr fun x => ⟨fun h => List.mem_range.mpr (hg x h), fun h => ?_⟩
    have hx := List.mem_range.mp h
    have h1 := gl (ixN l x) (lt x hx)
    have h2 := ixN_inj nd (p := ixN g (ixN l x)) (q := x) (by have := glt _ (lt x hx); omega) (by omega) h1
    rw [← h2]
    exact List.mem_of_getElem? (ixN_at (by have := lt x hx; omega))
  · refine List.ext_getElem? fun s => ?_
    rw [List.getElem?_map]
    rcases Nat.lt_or_ge s n with hs | hs
    · rw [ixN_at (by omega), List.getElem?_range hs]
      show some (ixN g (ixN l s)) = _
      have h1 := gl (ixN l s) (lt s hs)
      rw [ixN_inj nd (p := ixN g (ixN l s)) (q := s) (by have := glt _ (lt s hs); omega) (by omega) h1]
    · rw [List.getElem?_eq_none (by omega), List.getElem?_eq_none (by rw [List.length_range]; omega)]
      rfl
theorem inv_far {l g : List Nat} {n : Nat} (il : l.Perm (List.range n)) (e : g.map (ixN l) = List.range n) (hg : ∀ x ∈ g, x < n) : farN g n = farN l n := by
  obtain ⟨h1, h2⟩ := inv_flip il e hg
  have a := inv_le il e hg
  have b := inv_le h1 h2 fun x hx => List.mem_range.mp (il.mem_iff.mp hx)
  omega
theorem back_far {l g : List Nat} {n p : Nat} (il : l.Perm (List.range n)) (hp : p + 1 < n) (ag : Again l (swapL (List.range n) p) g) : (bef l (p + 1) p = true ∧ farN l n = farN g n + 1) ∨ (bef l (p + 1) p = false ∧ farN g n = farN l n + 1) := by
  have nd : l.Nodup := il.nodup_iff.mpr List.nodup_range
  have ll : l.length = n := by rw [il.length_eq, List.length_range]
  obtain ⟨e, hg⟩ := ag
  have hg : ∀ x ∈ g, x < n := fun x hx => by have := hg x hx; omega
  have lr : (List.range n).length = n := List.length_range
  have lg : g.length = n := by rw [← List.length_map (f := ixN l) (as := g), ← e, swapL_len (by rw [lr]; exact hp), lr]
  obtain ⟨A, x, y, B, eg, hA, hx, hy⟩ := cut_two (l := g) (p := p) (by omega)
  obtain ⟨A', x', y', B', er, hA', hx', hy'⟩ := cut_two (l := List.range n) (p := p) (by rw [lr]; exact hp)
  have x1 : x' = p := by rw [← hx']; unfold ixN; rw [List.getElem?_range (by omega)]; rfl
  have y1 : y' = p + 1 := by rw [← hy']; unfold ixN; rw [List.getElem?_range hp]; rfl
  have e0 : (A ++ y :: x :: B).map (ixN l) = List.range n := by
    have e2 := e
    rw [er, ← hA', swap_split, eg, List.map_append, List.map_cons, List.map_cons] at e2
    have := List.append_inj e2 (by rw [List.length_map]; omega)
    obtain ⟨q1, q2⟩ := this
    injection q2 with q2 q3
    injection q3 with q3 q4
    rw [List.map_append, List.map_cons, List.map_cons, er, q1, q2, q3, q4]
  have hg0 : ∀ z ∈ A ++ y :: x :: B, z < n := fun z hz => hg z (by
    rw [eg]
    exact (List.Perm.append_left A (List.Perm.swap x y B)).mem_iff.mp hz)
  have f0 := inv_far il e0 hg0
  obtain ⟨ip, _⟩ := inv_flip il e0 hg0
  have eg2 : g = swapL (A ++ y :: x :: B) A.length := by rw [swap_split]; exact eg
  have gx : ixN (A ++ y :: x :: B) A.length = y ∧ ixN (A ++ y :: x :: B) (A.length + 1) = x := ixN_split
  have fs := far_swap ip (p := A.length) (by omega)
  rw [← eg2, gx.1, gx.2, f0] at fs
  have py : l[y]? = some p := by
    have h2 : ((A ++ y :: x :: B).map (ixN l))[p]? = some p := by rw [e0, List.getElem?_range (by omega)]
    rw [List.getElem?_map, ← hA, List.getElem?_append_right (Nat.le_refl _), Nat.sub_self] at h2
    have h3 : ixN l y = A.length := by simpa using h2
    have : y < n := hg0 y (by simp)
    rw [ixN_at (by omega), h3, hA]
  have px : l[x]? = some (p + 1) := by
    have h2 : ((A ++ y :: x :: B).map (ixN l))[p + 1]? = some (p + 1) := by rw [e0, List.getElem?_range hp]
    rw [List.getElem?_map, ← hA, List.getElem?_append_right (by omega), Nat.add_sub_cancel_left] at h2
    have h3 : ixN l x = A.length + 1 := by simpa using h2
    have : x < n := hg0 x (by simp)
    rw [ixN_at (by omega), h3, hA]
  rw [bef_iff nd px py]
  rcases fs with ⟨a, b⟩ | ⟨a, b⟩
  · exact .inr ⟨decide_eq_false (by omega), b⟩
  · exact .inl ⟨decide_eq_true a, b⟩
end HH
set_option maxHeartbeats 4000000
namespace HH
open PySem PySem.Spec PyProof.Rows L2 Evl RZ
section
variable {X : Cx} {body : List Stmt} {h0 : ExceptHandler} {hs : List ExceptHandler} {pos : Pos} {tb : TS}
theorem ps_try_calm (hb : ∀ (pn : List (Addr × Obj)) (xe : Value → Shared → Prop), PSs (X.tr pn xe) body tb) : PS X (.Try body (h0 :: hs) [] [] pos) tb := by
  refine ⟨fun pins s σ H D I h => ?_⟩
  have ok := I.ok
  refine wpAny_Try_except (wpAny_mono ((hb (X.pn ++ pins) (fun e s₁ => wpAny (model X.prog X.w) X.A (noteFrame e X.env) (fun _ s₂ => wpAny (model X.prog X.w) X.A (setFlight e none) (fun _ s₃ => wpAny (model X.prog X.w) X.A (handleBy e X.env (h0 :: hs)) (SP X pins D) X.xe s₃) X.xe s₂) X.xe s₁)).run [] s σ H D (I.toTry _) h) (fun f s1 hsp => ?_) (fun e s1 he => he))
  match f, hsp with
  | .next, ⟨σ', H', J', q⟩ => exact wpAny_execs_nil ⟨σ', H', J'.ofTry ok, q⟩
  | .brk, ⟨σ', H', J', q⟩ => exact ⟨σ', H', J'.ofTry ok, q⟩
  | .cont, ⟨σ', H', J', q⟩ => exact ⟨σ', H', J'.ofTry ok, q⟩
  | .ret _, ⟨v, σ', H', J', r, q⟩ => exact ⟨v, σ', H', J'.ofTry ok, r, q⟩
end
def dP (rs : HH.Row) (p : Nat) : Deed := if letsN rs (p + 1) then (true, p + 1) else (false, p)
theorem at_dP {rs : HH.Row} {p : Nat} : atD (dP rs p) = p := by
  unfold dP
  split <;> rfl
def movesP (rs : HH.Row) (n : Nat) : List Nat := (List.range n).filter fun p => movesB rs (p + 1)
theorem mv_succ {rs : HH.Row} {n : Nat} : movesP rs (n + 1) = movesP rs n ++ (if movesB rs (n + 1) = true then [n] else []) := by
  unfold movesP
  rw [List.range_succ, List.filter_append]
  congr 1
  cases c : movesB rs (n + 1)
  · simp [c]
  · simp [c]
theorem mem_mv {rs : HH.Row} {n p : Nat} : p ∈ movesP rs n ↔ p < n ∧ movesB rs (p + 1) = true := by
  unfold movesP
  rw [List.mem_filter, List.mem_range]
theorem mv_len {rs : HH.Row} {n : Nat} : (movesP rs n).length ≤ n := by
  have := List.length_filter_le (fun p => movesB rs (p + 1)) (List.range n)
  rw [List.length_range] at this
  exact this
def DtAt (K : PySem.W.Frag) (H : Hp) (v : V) (rs : HH.Row) (p : Nat) : Prop := ∃ (t : Addr) (dv rv : V), v = .ref t ∧ SqT K H t [dv, rv, .int ((p + 1 : Nat) : Int)] ∧ DeedAt K H dv (dP rs p) ∧ RowAt K H rv (doR rs (dP rs p))
theorem sqT_exX {K : PySem.W.Frag} {d a : Addr} {H H' : Hp} {φ : Heap → Prop} {xs : List V} (h : SqT K H a xs) (e : ExB d H H') (hd : H d = some (.ext φ)) : SqT K H' a xs := by
  rcases h with h | h
  · refine .inl (e.rd (fun z => ?_) h)
    subst z
    rcases h with h | ⟨o, h⟩
    · rw [hd] at h
      cases h
    · rw [hd] at h
      cases h
  · exact .inr h
section
variable {K : PySem.W.Frag} {H H' : Hp} {v : V} {rs : HH.Row} {p : Nat}
theorem DtAt.ex (h : DtAt K H v rs p) (e : Ex H H') : DtAt K H' v rs p := by
  obtain ⟨t, dv, rv, h1, h2, h3, h4⟩ := h
  exact ⟨t, dv, rv, h1, ex_t e h2, h3.ex' e, h4.ex e⟩
theorem DtAt.exL {a : Addr} {xs : List V} (h : DtAt K H v rs p) (e : ExB a H H') (ha : H a = some (.lst xs)) : DtAt K H' v rs p := by
  obtain ⟨t, dv, rv, h1, h2, ⟨q, h3, h3'⟩, h4⟩ := h
  exact ⟨t, dv, rv, h1, e.t ha h2, ⟨q, h3, e.t ha h3'⟩, h4.exL e ha⟩
theorem DtAt.exX {a : Addr} {φ : Heap → Prop} (h : DtAt K H v rs p) (e : ExB a H H') (ha : H a = some (.ext φ)) : DtAt K H' v rs p := by
  obtain ⟨t, dv, rv, h1, h2, ⟨q, h3, h3'⟩, h4⟩ := h
  exact ⟨t, dv, rv, h1, sqT_exX h2 e ha, ⟨q, h3, sqT_exX h3' e ha⟩, rowAt_exX h4 e ha⟩
end
abbrev DtsAt (K : PySem.W.Frag) (H : Hp) (us : List V) (rs : HH.Row) (ps : List Nat) : Prop := All2 (fun v p => DtAt K H v rs p) us ps
def spDts (K : PySem.W.Frag) : Sp := fun vs H Q _ => ∃ (v : V) (rs : HH.Row), vs = [v] ∧ RowAt K H v rs ∧ 0 < rs.length ∧ rs.length ≤ 30 ∧
  ∀ (q : Addr) (us : List V) (H' : Hp), H q = none → Ex H H' → H' q = some (.lst us) → DtsAt K H' us rs (movesP rs (rs.length - 1)) → Q (.ref q) H'
structure LayD (K : PySem.W.Frag) (H : Hp) (rs : HH.Row) (kvs : List (List Key × V)) (G : List (List Nat)) : Prop where
  keys : kvs.map (·.1) = G.map keyN
  nd : G.Nodup
  rows : ∀ l ∈ G, ∃ t rv L ds, valV kvs (keyN l) = some (.ref t) ∧ SqT K H t [.int (farN l rs.length : Int), rv] ∧ MRun (tag 0 rs) L ds ∧ L.map (·.1) = l ∧ RowAt K H rv (rowsOf L)
section
variable {K : PySem.W.Frag} {H H' : Hp} {rs : HH.Row} {kvs : List (List Key × V)} {G : List (List Nat)} {l : List Nat}
theorem LayD.ex (h : LayD K H rs kvs G) (e : Ex H H') : LayD K H' rs kvs G := ⟨h.keys, h.nd, fun l hl => by
  obtain ⟨t, rv, L, ds, h1, h2, h3, h4, h5⟩ := h.rows l hl
  exact ⟨t, rv, L, ds, h1, ex_t e h2, h3, h4, h5.ex e⟩⟩
theorem LayD.exL {d : Addr} {xs : List V} (h : LayD K H rs kvs G) (e : ExB d H H') (hd : H d = some (.lst xs)) : LayD K H' rs kvs G := ⟨h.keys, h.nd, fun l hl => by
  obtain ⟨t, rv, L, ds, h1, h2, h3, h4, h5⟩ := h.rows l hl
  exact ⟨t, rv, L, ds, h1, e.t hd h2, h3, h4, h5.exL e hd⟩⟩
theorem LayD.exX {d : Addr} {φ : Heap → Prop} (h : LayD K H rs kvs G) (e : ExB d H H') (hd : H d = some (.ext φ)) : LayD K H' rs kvs G := ⟨h.keys, h.nd, fun l hl => by
  obtain ⟨t, rv, L, ds, h1, h2, h3, h4, h5⟩ := h.rows l hl
  exact ⟨t, rv, L, ds, h1, sqT_exX h2 e hd, h3, h4, rowAt_exX h5 e hd⟩⟩
theorem LayD.has (h : LayD K H rs kvs G) (l : List Nat) : (valV kvs (keyN l)).isSome = decide (l ∈ G) := by
  by_cases c : l ∈ G
  · obtain ⟨_, _, _, _, h1, _⟩ := h.rows l c
    rw [h1, decide_eq_true c]
    rfl
  · rw [decide_eq_false c, ← valV_any]
    rw [List.any_eq_false]
    intro kv hkv z
    have z := of_decide_eq_true z
    have : kv.1 ∈ G.map keyN := by rw [← h.keys]; exact List.mem_map.mpr ⟨kv, hkv, rfl⟩
    obtain ⟨m, hm, em⟩ := List.mem_map.mp this
    rw [z] at em
    exact c (keyN_inj em ▸ hm)
theorem LayD.none (h : LayD K H rs kvs G) (hl : l ∉ G) : valV kvs (keyN l) = none := by
  have := h.has l
  rw [decide_eq_false hl] at this
  cases c : valV kvs (keyN l) with
  | none => rfl
  | some x => rw [c] at this; cases this
theorem LayD.put {kb : KB} (h : LayD K H rs (kvX kb) G) (hl : l ∉ G) {b t : Addr} {rv : V} {L : List Cow} {ds : List Deed} (ht : SqT K H t [.int (farN l rs.length : Int), rv]) (r : MRun (tag 0 rs) L ds) (e : L.map (·.1) = l) (hv : RowAt K H rv (rowsOf L)) : LayD K H rs (kvX (kb ++ [(keyN l, b, .ref t)])) (G ++ [l]) := by
  have h0 := h.none hl
  have ek : kvX (kb ++ [(keyN l, b, .ref t)]) = kvX kb ++ [(keyN l, .ref t)] := by
    unfold kvX
    rw [List.map_append]
    rfl
  rw [ek]
  refine ⟨by rw [List.map_append, h.keys, List.map_append]; rfl, List.nodup_append.mpr ⟨h.nd, List.pairwise_singleton _ _, fun a ha b hb z => hl (by rw [← List.mem_singleton.mp hb, ← z]; exact ha)⟩, fun m hm => ?_⟩
  rw [valV_snoc _ _ _ _ h0]
  by_cases c : m = l
  · subst c
    rw [if_pos rfl]
    exact ⟨t, rv, L, ds, rfl, ht, r, e, hv⟩
  · rw [if_neg fun z => c (keyN_inj z)]
    rcases List.mem_append.mp hm with z | z
    · exact h.rows m z
    · exact absurd (List.mem_singleton.mp z) c
end
def spLayers (P : Program) (w : World) (K : PySem.W.Frag) : Sp := fun vs H Q _ => ∃ (v : V) (rs : HH.Row), vs = [v] ∧ RowAt K H v rs ∧ 0 < rs.length ∧ rs.length ≤ 6 ∧ (∀ b ∈ rs, 0 ≤ b.2) ∧
  ∀ (d : Addr) (kb : KB) (G : List (List Nat)) (H' : Hp), H d = none → Ex H H' → DX P w H' d kb → LayD K H' rs (kvX kb) G → (∀ l, l ∈ G ↔ Keeps rs l) → G.length ≤ 720 → Q (.ref d) H'
def spBehindD (K : PySem.W.Frag) : Sp := fun vs H Q _ => ∃ (v : V) (c : Addr) (rs : HH.Row) (us : List V) (ds : List Deed), vs = [v, .ref c] ∧ RowAt K H v rs ∧ 0 < rs.length ∧ rs.length ≤ 30 ∧ (∀ b ∈ rs, 0 ≤ b.2) ∧ SqL K H c us ∧ All2 (DeedAt K H) us ds ∧ OksD rs ds ∧
  ∀ (t : Addr) (H' : Hp), Ex H H' → SqT K H' t (natsV (ds.foldl swD (List.range rs.length))) → Q (.ref t) H'
def spAgainL (K : PySem.W.Frag) : Sp := fun vs H Q _ => ∃ (a b : Addr) (l2 l1 : List Nat), vs = [.ref a, .ref b] ∧ SqL K H a (natsV l2) ∧ SqL K H b (natsV l1) ∧ l1.Nodup ∧ (∀ x ∈ l2, x ∈ l1) ∧ l2.length ≤ 100 ∧ ∀ (q : Addr) (s : List Nat) (H' : Hp), H q = none → Ex H H' → FrzT H' q (natsV s) → Again l1 l2 s → Q (.ref q) H'
def spIsDeed (K : PySem.W.Frag) : Sp := fun vs H Q _ => ∃ (v : V) (d : Deed), vs = [v] ∧ DeedAt K H v d ∧ ∀ H', Ex H H' → Q (.bl true) H'
def spLeads (K : PySem.W.Frag) : Sp := fun vs H Q _ => ∃ (v : V) (o c : Addr) (rs : HH.Row) (us : List V) (ds : List Deed), vs = [v, .ref o, .ref c] ∧ RowAt K H v rs ∧ rs.length ≤ 30 ∧ SqL K H c us ∧ All2 (DeedAt K H) us ds ∧ OksD rs ds ∧ SqT K H o (natsV (ds.foldl swD (List.range rs.length))) ∧ ∀ H', Ex H H' → Q (.bl true) H'
def spShowsW (K : PySem.W.Frag) : Sp := fun vs H Q _ => ∃ (v : V) (o c : Addr) (rs : HH.Row) (L : List Cow) (us : List V), vs = [v, .ref o, .ref c] ∧ Went K H v o rs L ∧ 0 < rs.length ∧ SqL K H c us ∧ us.length ≤ 2000 ∧
  ((us.length ≠ farN (L.map (·.1)) rs.length ∧ ∀ H', Ex H H' → Q (.bl false) H') ∨ (∃ ds, us.length = farN (L.map (·.1)) rs.length ∧ All2 (DeedAt K H) us ds ∧ OksD rs ds ∧ ds.foldl swD (List.range rs.length) = L.map (·.1) ∧ ∀ H', Ex H H' → Q (.bl true) H'))
theorem led_tl {rs : HH.Row} {ds : List Deed} (tl : ∀ b ∈ rs, 0 ≤ b.2) (oks : OksD rs ds) : ∀ k, k ≤ ds.length → ∀ b ∈ (ds.take k).foldl doR rs, 0 ≤ b.2
  | 0, _ => tl
  | k + 1, h => by
    have i1 := led_tl tl oks k (by omega)
    have hd := List.getElem?_eq_getElem (show k < ds.length by omega)
    rw [take_do hd]
    exact (doR_ok (oks k _ hd) i1).2
theorem ok_is_dP {rs : HH.Row} {d : Deed} (tl : ∀ b ∈ rs, 0 ≤ b.2) (ok : okD rs d) : d = dP rs (atD d) ∧ movesB rs (atD d + 1) = true := by
  have hlt := okD_lt ok
  obtain ⟨w, p⟩ := d
  cases w with
  | true =>
    obtain ⟨h1, h2⟩ : p < rs.length ∧ letsN rs p = true := ok
    have h0 : 0 < p := by
      unfold letsN at h2
      exact of_decide_eq_true (Bool.and_eq_true_iff.mp h2).1
    have e : atD (true, p) + 1 = p := by show p - 1 + 1 = p; omega
    refine ⟨?_, by unfold movesB; rw [e, h2]; rfl⟩
    unfold dP
    rw [e, if_pos h2]
  | false =>
    obtain ⟨h1, h2⟩ : p + 1 < rs.length ∧ fallsN rs p = true := ok
    have nl : letsN rs (p + 1) = false := by
      rw [Bool.eq_false_iff]
      intro z
      unfold letsN at z
      unfold fallsN at h2
      have z := of_decide_eq_true (Bool.and_eq_true_iff.mp z).2
      have h2 := of_decide_eq_true h2
      rw [Nat.add_sub_cancel] at z
      have ht : 0 ≤ tS rs p := by
        obtain ⟨hS, hT⟩ : True ∧ 0 ≤ tS rs p := ⟨True.intro, by
          unfold tS
          rw [List.getElem?_eq_getElem (show p < rs.length by omega)]
          exact tl _ (List.getElem_mem _)⟩
        exact hT
      omega
    refine ⟨?_, by unfold movesB; rw [show atD (false, p) + 1 = p + 1 from rfl, Nat.add_sub_cancel, h2, Bool.or_true]⟩
    show (false, p) = dP rs p
    unfold dP
    rw [if_neg (by rw [nl]; decide)]
theorem one_move_p {rs : HH.Row} {d : Deed} (tl : ∀ b ∈ rs, 0 ≤ b.2) (ok : okD rs d) : (movesP rs (rs.length - 1)).filter (fun p => decide (dP rs p = d)) = [atD d] := by
  obtain ⟨e, m⟩ := ok_is_dP tl ok
  have hlt := okD_lt ok
  have inj : ∀ p, dP rs p = d → p = atD d := fun p h => by rw [← h, at_dP]
  have nd : ((movesP rs (rs.length - 1)).filter (fun p => decide (dP rs p = d))).Nodup := (List.nodup_range.filter _).filter _
  have hm : atD d ∈ (movesP rs (rs.length - 1)).filter (fun p => decide (dP rs p = d)) := List.mem_filter.mpr ⟨mem_mv.mpr ⟨by omega, m⟩, decide_eq_true e.symm⟩
  have all : ∀ x ∈ (movesP rs (rs.length - 1)).filter (fun p => decide (dP rs p = d)), x = atD d := fun x hx => inj x (of_decide_eq_true (List.mem_filter.mp hx).2)
  generalize (movesP rs (rs.length - 1)).filter (fun p => decide (dP rs p = d)) = l at nd hm all
  match l, nd, hm, all with
  | [x], _, _, all => rw [all x (List.mem_cons_self ..)]
  | x :: y :: l, nd, _, all =>
    have h1 := all x (List.mem_cons_self ..)
    have h2 := all y (List.mem_cons_of_mem _ (List.mem_cons_self ..))
    rw [h1, h2] at nd
    exact absurd (List.mem_cons_self ..) (List.nodup_cons.mp nd).1
theorem dts_dp {K : PySem.W.Frag} {H : Hp} {us : List V} {rs : HH.Row} {ps : List Nat} (h : DtsAt K H us rs ps) : ∃ xs, DpAll K H us xs ∧ ∀ d ∈ xs, Nice 60 d := by
  induction h with
  | nil => exact ⟨[], .nil, fun _ h => nomatch h⟩
  | @cons v p us ps h t ih =>
    obtain ⟨tt, dv, rv, rfl, h2, ⟨q, rfl, h3⟩, h4⟩ := h
    obtain ⟨a, rfl, h4d⟩ := h4.dp
    obtain ⟨xs, i1, i2⟩ := ih
    refine ⟨.tuple [deedD (dP rs p), rowD (doR rs (dP rs p)), .int ((p + 1 : Nat) : Int)] :: xs, .cons (.tup h2 (.cons (.tup h3 (.cons (.str _) (.cons (.int _) .nil))) (.cons h4d (.cons (.int _) .nil)))) i1, fun x hx => ?_⟩
    rcases List.mem_cons.mp hx with z | z
    · rw [z]
      refine nice_mono (k := 3) (nice_tuple (k := 2) fun y hy => ?_) (by decide)
      rcases List.mem_cons.mp hy with z | hy
      · rw [z]
        exact nice_mono (deeds_nice [dP rs p] _ (List.mem_singleton_self _)) (by decide)
      · rcases List.mem_cons.mp hy with z | hy
        · rw [z]
          exact nice_row _
        · rw [List.mem_singleton.mp hy]
          exact nice_mono (nice_int 0 _) (by decide)
    · exact i2 x z
theorem rv_eqD1 {K : PySem.W.Frag} {H : Hp} {x y : V} {k : Nat} {d : PyData} (hx : Dp K H x d) (hy : Dp K H y d) (n : Nice k d) (hk : k < 64) : RV (rEqD K) x y H (.bl true) := fun H1 e Q q => by
  refine ⟨d, d, dp_ex e hx, dp_ex e hy, n.shaped (by omega), n.shaped (by omega), ?_⟩
  rw [SeqAt.eqv_refl _ n.1]
  exact q H1 (Ex.refl H1)
theorem deed_dp {K : PySem.W.Frag} {H : Hp} {v : V} {d : Deed} (h : DeedAt K H v d) : Dp K H v (deedD d) := by
  obtain ⟨p, rfl, h3⟩ := h
  exact .tup h3 (.cons (.str _) (.cons (.int _) .nil))
theorem rv_eqDeed {K : PySem.W.Frag} {H : Hp} {x y : V} {a b : Deed} (hx : DeedAt K H x a) (hy : DeedAt K H y b) : RV (rEqD K) x y H (.bl (decide (a = b))) := fun H1 e Q q => by
  have n : ∀ d : Deed, Nice 1 (deedD d) := fun d => deeds_nice [d] _ (List.mem_singleton_self _)
  refine ⟨deedD a, deedD b, dp_ex e (deed_dp hx), dp_ex e (deed_dp hy), (n a).shaped (by decide), (n b).shaped (by decide), ?_⟩
  have : PyData.eqv (deedD a) (deedD b) = decide (a = b) := by
    by_cases c : a = b
    · rw [c, eqv_deedS, decide_eq_true rfl]
    · rw [eqv_deedD c, decide_eq_false c]
  rw [this]
  exact q H1 (Ex.refl H1)
theorem given_map {α : Type} (g : α → V) (d : α) (G : List α) : given G.length (fun _ => true) (fun i => g (G.getD i d)) = G.map g := by
  unfold given
  rw [List.filter_eq_self.mpr (fun _ _ => rfl)]
  apply List.ext_getElem?
  intro i
  rw [List.getElem?_map, List.getElem?_map]
  by_cases h : i < G.length
  · rw [List.getElem?_range h, List.getElem?_eq_getElem h]
    show some (g (G.getD i d)) = some (g G[i])
    rw [List.getD_eq_getElem?_getD, List.getElem?_eq_getElem h]
    rfl
  · rw [List.getElem?_eq_none (by rw [List.length_range]; omega), List.getElem?_eq_none (by omega)]
    rfl
theorem op_eqDK {X : Cx} {K : PySem.W.Frag} (hu : X.A.units + 64 < cLine) (hK : X.K = K := by rfl) : OpR X (compareOp CmpOp.Eq) (rEqD K) := by
  subst hK
  exact op_eqD hu
theorem c_cb {r : List V → Hp → VK → Prop} {ta : TA} {σ : L2.St} {H : Hp} {Q : VK} (h : ta σ H fun xs H1 => r xs H1 Q) : tCB r ta σ H Q := h
theorem c_consK {te : TE} {ta : TA} {σ : L2.St} {H : Hp} {Q : List V → Hp → Prop} (h : te σ H fun x H1 => ta σ H1 fun xs H2 => Q (x :: xs) H2) : tCons te ta σ H Q := h
theorem c_ret {te : TE} {D : Ends} {σ : L2.St} {H : Hp} (h : te σ H fun v H1 => D.rt v H1) : tRet te D σ H := h
theorem c_then {ta : TE} {k : V → Hp → VK → Prop} {σ : L2.St} {H : Hp} {Q : VK} (h : ta σ H fun x H1 => k x H1 Q) : tThen ta k σ H Q := h
end HH
set_option maxHeartbeats 4000000
namespace K71
open PySem PySem.Spec PyProof.Rows L2 Evl HH RZ
def topS (i : Nat) : Stmt := PySem.Challenge.pw_hayherd_k71_whole_no_shorter_way.main.body.getD i (.Pass ⟨0, 0, 0, 0⟩)
abbrev s_is_number : Stmt := topS 5
theorem sc_is_number : FnScope ["thing"] ["thing"] (defScope s_is_number) := ⟨rfl, rfl, rfl, by decide +kernel, rfl, by decide +kernel, by decide +kernel⟩
abbrev s_can_pass : Stmt := topS 6
theorem sc_can_pass : FnScope ["row", "place", "strength", "toll"] ["row", "place"] (defScope s_can_pass) := ⟨rfl, rfl, rfl, by decide +kernel, rfl, by decide +kernel, by decide +kernel⟩
abbrev s_can_fall : Stmt := topS 7
theorem sc_can_fall : FnScope ["row", "place"] ["row", "place"] (defScope s_can_fall) := ⟨rfl, rfl, rfl, by decide +kernel, rfl, by decide +kernel, by decide +kernel⟩
abbrev s_passed : Stmt := topS 8
theorem sc_passed : FnScope ["row", "place", "ahead", "strength", "toll"] ["row", "place"] (defScope s_passed) := ⟨rfl, rfl, rfl, by decide +kernel, rfl, by decide +kernel, by decide +kernel⟩
abbrev s_fallen : Stmt := topS 9
theorem sc_fallen : FnScope ["row", "place", "strength", "toll", "behind"] ["row", "place"] (defScope s_fallen) := ⟨rfl, rfl, rfl, by decide +kernel, rfl, by decide +kernel, by decide +kernel⟩
abbrev s_swapped : Stmt := topS 10
theorem sc_swapped : FnScope ["order", "place"] ["order", "place"] (defScope s_swapped) := ⟨rfl, rfl, rfl, by decide +kernel, rfl, by decide +kernel, by decide +kernel⟩
abbrev s_can_do : Stmt := topS 11
theorem sc_can_do : FnScope ["row", "word", "place"] ["row", "word", "place"] (defScope s_can_do) := ⟨rfl, rfl, rfl, by decide +kernel, rfl, by decide +kernel, by decide +kernel⟩
abbrev s_led : Stmt := topS 12
theorem sc_led : FnScope ["row", "deeds", "now", "order", "number", "word", "place"] ["row", "deeds"] (defScope s_led) := ⟨rfl, rfl, rfl, by decide +kernel, rfl, by decide +kernel, by decide +kernel⟩
abbrev s_pass_all : Stmt := topS 14
theorem sc_pass_all : FnScope ["line", "strengths", "tolls", "who", "place"] ["line", "strengths", "tolls", "who"] (defScope s_pass_all) := ⟨rfl, rfl, rfl, by decide +kernel, rfl, by decide +kernel, by decide +kernel⟩
abbrev s_fall_all : Stmt := topS 15
theorem sc_fall_all : FnScope ["line", "strengths", "tolls", "who", "place"] ["line", "strengths", "tolls", "who"] (defScope s_fall_all) := ⟨rfl, rfl, rfl, by decide +kernel, rfl, by decide +kernel, by decide +kernel⟩
abbrev s_row_and_order : Stmt := topS 16
theorem sc_row_and_order : FnScope ["line", "strengths", "tolls", "who"] ["line", "strengths", "tolls"] (defScope s_row_and_order) := ⟨rfl, rfl, rfl, by decide +kernel, rfl, by decide +kernel, by decide +kernel⟩
abbrev s_last : Stmt := topS 17
theorem sc_last : FnScope ["row", "strengths", "tolls", "line", "who", "strength", "toll"] ["row"] (defScope s_last) := ⟨rfl, rfl, rfl, by decide +kernel, rfl, by decide +kernel, by decide +kernel⟩
abbrev s_first : Stmt := topS 18
theorem sc_first : FnScope ["row", "strengths", "tolls", "line", "who", "strength", "toll"] ["row"] (defScope s_first) := ⟨rfl, rfl, rfl, by decide +kernel, rfl, by decide +kernel, by decide +kernel⟩
abbrev s_places_of : Stmt := topS 19
theorem sc_places_of : FnScope ["order", "place", "who"] ["order"] (defScope s_places_of) := ⟨rfl, rfl, rfl, by decide +kernel, rfl, by decide +kernel, by decide +kernel⟩
abbrev s_turned_about : Stmt := topS 20
theorem sc_turned_about : FnScope ["order", "place_of", "many", "one", "other"] ["order"] (defScope s_turned_about) := ⟨rfl, rfl, rfl, by decide +kernel, rfl, by decide +kernel, by decide +kernel⟩
abbrev s_passings : Stmt := topS 21
theorem sc_passings : FnScope ["row"] ["row"] (defScope s_passings) := ⟨rfl, rfl, rfl, by decide +kernel, rfl, by decide +kernel, by decide +kernel⟩
abbrev s_fallings : Stmt := topS 22
theorem sc_fallings : FnScope ["row"] ["row"] (defScope s_fallings) := ⟨rfl, rfl, rfl, by decide +kernel, rfl, by decide +kernel, by decide +kernel⟩
abbrev s_kept_pairs : Stmt := topS 24
theorem sc_kept_pairs : FnScope ["row", "loose", "many", "pair", "one", "other"] ["row"] (defScope s_kept_pairs) := ⟨rfl, rfl, rfl, by decide +kernel, rfl, by decide +kernel, by decide +kernel⟩
abbrev s_first_not_kept : Stmt := topS 25
theorem sc_first_not_kept : FnScope ["row", "order", "place_of", "one", "other"] ["row", "order"] (defScope s_first_not_kept) := ⟨rfl, rfl, rfl, by decide +kernel, rfl, by decide +kernel, by decide +kernel⟩
abbrev s_refuse_not_kept : Stmt := topS 26
theorem sc_refuse_not_kept : FnScope ["row", "order", "pair"] ["row", "order"] (defScope s_refuse_not_kept) := ⟨rfl, rfl, rfl, by decide +kernel, rfl, by decide +kernel, by decide +kernel⟩
abbrev s_how_far : Stmt := topS 28
theorem sc_how_far : FnScope ["row", "order"] ["row", "order"] (defScope s_how_far) := ⟨rfl, rfl, rfl, by decide +kernel, rfl, by decide +kernel, by decide +kernel⟩
abbrev s_deeds_toward : Stmt := topS 29
theorem sc_deeds_toward : FnScope ["row", "order", "place_of", "places", "falls", "place"] ["row", "order"] (defScope s_deeds_toward) := ⟨rfl, rfl, rfl, by decide +kernel, rfl, by decide +kernel, by decide +kernel⟩
abbrev s_nearer : Stmt := topS 30
theorem sc_nearer : FnScope ["row", "order"] ["row", "order"] (defScope s_nearer) := ⟨rfl, rfl, rfl, by decide +kernel, rfl, by decide +kernel, by decide +kernel⟩
abbrev s_way_to : Stmt := topS 31
theorem sc_way_to : FnScope ["row", "order", "way", "now", "goal", "deeds", "step", "who"] ["row", "order"] (defScope s_way_to) := ⟨rfl, rfl, rfl, by decide +kernel, rfl, by decide +kernel, by decide +kernel⟩
abbrev s_is_deed : Stmt := topS 32
theorem sc_is_deed : FnScope ["thing"] ["thing"] (defScope s_is_deed) := ⟨rfl, rfl, rfl, by decide +kernel, rfl, by decide +kernel, by decide +kernel⟩
abbrev s_leads_to : Stmt := topS 33
theorem sc_leads_to : FnScope ["row", "order", "deeds"] ["row", "order", "deeds"] (defScope s_leads_to) := ⟨rfl, rfl, rfl, by decide +kernel, rfl, by decide +kernel, by decide +kernel⟩
abbrev s_shows_way : Stmt := topS 34
theorem sc_shows_way : FnScope ["row", "order", "thing", "part"] ["row", "order", "thing"] (defScope s_shows_way) := ⟨rfl, rfl, rfl, by decide +kernel, rfl, by decide +kernel, by decide +kernel⟩
abbrev s_law_dip : Stmt := topS 36
theorem sc_law_dip : FnScope ["_law_script", "_law_k", "_law_cell"] ["_law_script", "_law_k"] (defScope s_law_dip) := ⟨rfl, rfl, rfl, by decide +kernel, rfl, by decide +kernel, by decide +kernel⟩
abbrev s_law_take : Stmt := topS 37
theorem sc_law_take : FnScope ["_law_box", "_law_many", "_law_found", "_law_once", "_law_pair"] ["_law_box", "_law_many"] (defScope s_law_take) := ⟨rfl, rfl, rfl, by decide +kernel, rfl, by decide +kernel, by decide +kernel⟩
abbrev s_law_folded : Stmt := topS 38
theorem sc_law_folded : FnScope ["_law_script", "_law_many", "_law_cells", "_law_k", "_law_cell"] ["_law_script", "_law_many"] (defScope s_law_folded) := ⟨rfl, rfl, rfl, by decide +kernel, rfl, by decide +kernel, by decide +kernel⟩
abbrev s_law_same : Stmt := topS 39
theorem sc_law_same : FnScope ["_law_found", "_law_due", "_law_one", "_law_two"] ["_law_found", "_law_due"] (defScope s_law_same) := ⟨rfl, rfl, rfl, by decide +kernel, rfl, by decide +kernel, by decide +kernel⟩
abbrev s_law_of : Stmt := topS 40
theorem sc_law_of : FnScope ["_law_box", "_law_pool"] ["_law_box", "_law_pool"] (defScope s_law_of) := ⟨rfl, rfl, rfl, by decide +kernel, rfl, by decide +kernel, by decide +kernel⟩
abbrev s_law_row : Stmt := topS 41
theorem sc_law_row : FnScope ["_law_box", "_law_most", "_law_many", "_law_way", "_law_rise", "_law_high", "_law_dear", "_law_base", "_law_toll", "_law_found", "_law_place"] ["_law_box", "_law_most"] (defScope s_law_row) := ⟨rfl, rfl, rfl, by decide +kernel, rfl, by decide +kernel, by decide +kernel⟩
abbrev s_law_lets : Stmt := topS 42
theorem sc_law_lets : FnScope ["_law_row_here", "_law_place"] ["_law_row_here", "_law_place"] (defScope s_law_lets) := ⟨rfl, rfl, rfl, by decide +kernel, rfl, by decide +kernel, by decide +kernel⟩
abbrev s_law_passed : Stmt := topS 43
theorem sc_law_passed : FnScope ["_law_row_here", "_law_place", "_law_ahead", "_law_strength", "_law_toll"] ["_law_row_here", "_law_place"] (defScope s_law_passed) := ⟨rfl, rfl, rfl, by decide +kernel, rfl, by decide +kernel, by decide +kernel⟩
abbrev s_law_fallen : Stmt := topS 44
theorem sc_law_fallen : FnScope ["_law_row_here", "_law_place", "_law_strength", "_law_toll", "_law_behind_here"] ["_law_row_here", "_law_place"] (defScope s_law_fallen) := ⟨rfl, rfl, rfl, by decide +kernel, rfl, by decide +kernel, by decide +kernel⟩
abbrev s_law_again : Stmt := topS 45
theorem sc_law_again : FnScope ["_law_order", "_law_seats", "_law_who"] ["_law_order", "_law_seats"] (defScope s_law_again) := ⟨rfl, rfl, rfl, by decide +kernel, rfl, by decide +kernel, by decide +kernel⟩
abbrev s_law_deeds : Stmt := topS 46
theorem sc_law_deeds : FnScope ["_law_pen", "_law_found", "_law_at"] ["_law_pen"] (defScope s_law_deeds) := ⟨rfl, rfl, rfl, by decide +kernel, rfl, by decide +kernel, by decide +kernel⟩
abbrev s_law_layers : Stmt := topS 47
theorem sc_law_layers : FnScope ["_law_pen", "_law_whole", "_law_found", "_law_layer", "_law_later", "_law_seats", "_law_far", "_law_here", "_law_deed", "_law_there", "_law_at", "_law_goal"] ["_law_pen"] (defScope s_law_layers) := ⟨rfl, rfl, rfl, by decide +kernel, rfl, by decide +kernel, by decide +kernel⟩
abbrev s_law_behind : Stmt := topS 48
theorem sc_law_behind : FnScope ["_law_pen", "_law_went", "_law_seats", "_law_due", "_law_some", "_law_at", "_law_one_of"] ["_law_pen", "_law_went"] (defScope s_law_behind) := ⟨rfl, rfl, rfl, by decide +kernel, rfl, by decide +kernel, by decide +kernel⟩
abbrev s_law_right : Stmt := topS 49
theorem sc_law_right : FnScope ["_law_box", "_law_pen", "_law_layers_here", "_law_some", "_law_seats", "_law_far", "_law_there", "_law_went", "_law_back", "_law_near", "_law_deed", "_law_here", "_law_at", "_law_moved", "_law_odd", "_law_turn"] ["_law_box"] (defScope s_law_right) := ⟨rfl, rfl, rfl, by decide +kernel, rfl, by decide +kernel, by decide +kernel⟩
abbrev s_law : Stmt := topS 50
theorem sc_law : FnScope ["_law_script", "_law_cells", "_law_k"] ["_law_script"] (defScope s_law) := ⟨rfl, rfl, rfl, by decide +kernel, rfl, by decide +kernel, by decide +kernel⟩
end K71
set_option maxHeartbeats 4000000
namespace K71
open PySem PySem.Spec PyProof.Rows L2 Evl HH RZ
section
variable {P : Program} {w : World} {K : PySem.W.Frag} {mg : Str → Option Value} {base : Heap}
theorem ok_is_number {f : Addr} {fd : FuncData} (F : FnP K "is_number" s_is_number f fd) (g : mg "is_number" = some (.ref f)) (b : Binds K fd ["thing"] []) (m_isinstance : mg "isinstance" = none) (m_int : mg "int" = none) (m_bool : mg "bool" = none) : Has P w K mg base 1 "is_number" ["thing"] spIsNum f fd := by
  refine ⟨F.ok sc_is_number (fun vs H Q E h => ?_) (fun cdv A outer s H vs Q E hr h => ?_), g, F.kp, b⟩
  · obtain ⟨i, rfl, _⟩ := h
    rfl
  · obtain ⟨i, rfl, q⟩ := h
    refine ⟨_, PSs.nox (pss_one (ps_ret (pe_and (pe_callB call_isi (by rfl) m_isinstance (by decide +kernel) (pa_cons (pv 0) (pa_cons (pe_bltn (v := .ty "int") (by rfl) m_int (by decide +kernel) rfl) pa_nil))) (pe_one (pe_not (pe_callB call_isi (by rfl) m_isinstance (by decide +kernel) (pa_cons (pv 0) (pa_cons (pe_bltn (v := .ty "bool") (by rfl) m_bool (by decide +kernel) rfl) pa_nil)))))))), ?_⟩
    exact s_ret (ev_andV (a := true) (b := true) (ev_isi (K := K) (ev_var rfl) (.int i) (by decide +kernel)) fun _ => ev_notV (a := false) (ev_isi (K := K) (ev_var rfl) (.int i) (by decide +kernel))) fun H1 e1 => q H1 e1
theorem ok_can_pass {f : Addr} {fd : FuncData} (F : FnP K "can_pass" s_can_pass f fd) (g : mg "can_pass" = some (.ref f)) (b : Binds K fd ["row", "place"] []) (m_len : mg "len" = none) : Has P w K mg base 1 "can_pass" ["row", "place"] (spCanPass K) f fd := by
  refine ⟨F.ok sc_can_pass (fun vs H Q E h => ?_) (fun cdv A outer s H vs Q E hr h => ?_), g, F.kp, b⟩
  · obtain ⟨v, rs, p, rfl, _⟩ := h
    rfl
  · obtain ⟨v, rs, p, rfl, hv, hp, q⟩ := h
    refine ⟨_, PSs.nox (pss_cons (ps_if (PW.pt (pw_or (pt_cmpR op_lt (pv 1) pe_int (nomark _)) (pw_or1 (pt_cmpR op_ge (pv 1) (pe_callB call_len_seq (by rfl) m_len PySem.boot_len (pa_cons (pv 0) pa_nil)) (nomark _))))) (pss_one (ps_ret pe_bl)) pss_nil)
      (pss_cons (ps_asg (pe_ix ix_tup (pv 0) (pe_op op_sub (pv 1) pe_int) (fun _ _ => rfl)) (pg_tup rfl (pgs_cons (pg_name (i := 2) sc_can_pass.nd rfl (Or.inl rfl)) (pgs_cons (pg_name (i := 3) sc_can_pass.nd rfl (Or.inl rfl)) pgs_nil))))
      (pss_one (ps_ret (pe_cmpR op_gt (pe_op op_sub (pe_ix ix_tup (pe_ix ix_tup (pv 0) (pv 1) (fun _ _ => rfl)) pe_int (fun _ _ => rfl)) (pv 3)) (pv 2) (nomark _)))))), ?_⟩
    refine q_when (b := decide ((p : Int) < 1) || decide ((p : Int) ≥ (rs.length : Int))) (et_or (et_B (ev_op (ev_var rfl) ev_c rv_I0)) fun _ => et_B (ev_op (ev_var rfl) (ev_lenR (ev_var rfl) hv) rv_I0)) (fun hb H1 e1 => ?_) (fun hb H1 e1 => ?_)
    · refine s_ret ev_c fun H2 e2 => ?_
      have hp0 : p = 0 := by
        rcases (Bool.or_eq_true _ _).mp hb with h | h
        · have := of_decide_eq_true h
          omega
        · have := of_decide_eq_true h
          omega
      subst hp0
      exact q H2 (e1.trans e2)
    · have hp0 : 0 < p := by
        have := (Bool.or_eq_false_iff.mp hb).1
        have := of_decide_eq_false this
        omega
      obtain ⟨a, h1, h2⟩ := ev_beast (te := tVar 0) (ti := tOp (rI0 fun i j => .int (i - j)) (tVar 1) (tC (.int 1))) (σ := start ["row", "place", "strength", "toll"] [v, .int (p : Int)]) (ev_var rfl) (hv.ex e1) (ev_op (ev_var rfl) ev_c rv_I0) (show (p : Int) - 1 = ((p - 1 : Nat) : Int) by omega) (row_get (i := p - 1) (by omega))
      refine q_asgT2 h1 h2 fun H2 e2 => ?_
      refine s_ret (ev_op (ev_op (ev_str (ev_var rfl) (hv.ex (e1.trans e2)) (ev_var rfl) rfl (row_get hp)) (ev_var rfl) rv_I0) (ev_var rfl) rv_I0) fun H3 e3 => ?_
      have e : letsN rs p = decide (sS rs p - tS rs (p - 1) > sS rs (p - 1)) := by
        unfold letsN
        rw [decide_eq_true hp0, Bool.true_and]
      rw [e] at q
      exact q H3 ((e1.trans e2).trans e3)
theorem ok_can_fall {f : Addr} {fd : FuncData} (F : FnP K "can_fall" s_can_fall f fd) (g : mg "can_fall" = some (.ref f)) (b : Binds K fd ["row", "place"] []) (m_len : mg "len" = none) : Has P w K mg base 1 "can_fall" ["row", "place"] (spCanFall K) f fd := by
  refine ⟨F.ok sc_can_fall (fun vs H Q E h => ?_) (fun cdv A outer s H vs Q E hr h => ?_), g, F.kp, b⟩
  · obtain ⟨v, rs, p, rfl, _⟩ := h
    rfl
  · obtain ⟨v, rs, p, rfl, hv, hp, q⟩ := h
    refine ⟨_, PSs.nox (pss_cons (ps_if (PW.pt (pw_or (pt_cmpR op_lt (pv 1) pe_int (nomark _)) (pw_or1 (pt_cmpR op_ge (pe_op op_add (pv 1) pe_int) (pe_callB call_len_seq (by rfl) m_len PySem.boot_len (pa_cons (pv 0) pa_nil)) (nomark _))))) (pss_one (ps_ret pe_bl)) pss_nil)
      (pss_one (ps_ret (pe_cmpR op_gt (pe_ix ix_tup (pe_ix ix_tup (pv 0) (pv 1) (fun _ _ => rfl)) pe_int (fun _ _ => rfl)) (pe_ix ix_tup (pe_ix ix_tup (pv 0) (pe_op op_add (pv 1) pe_int) (fun _ _ => rfl)) pe_int (fun _ _ => rfl)) (nomark _))))), ?_⟩
    refine q_when (b := decide ((p : Int) < 0) || decide ((p : Int) + 1 ≥ (rs.length : Int))) (et_or (et_B (ev_op (ev_var rfl) ev_c rv_I0)) fun _ => et_B (ev_op (ev_op (ev_var rfl) ev_c rv_I0) (ev_lenR (ev_var rfl) hv) rv_I0)) (fun hb H1 e1 => ?_) (fun hb H1 e1 => ?_)
    · refine s_ret ev_c fun H2 e2 => ?_
      have hp0 : ¬ p + 1 < rs.length := by
        rcases (Bool.or_eq_true _ _).mp hb with h | h
        · have := of_decide_eq_true h
          omega
        · have := of_decide_eq_true h
          omega
      rw [decide_eq_false hp0, Bool.false_and] at q
      exact q H2 (e1.trans e2)
    · have hp0 : p + 1 < rs.length := by
        have := (Bool.or_eq_false_iff.mp hb).2
        have := of_decide_eq_false this
        omega
      refine s_ret (ev_op (ev_str (ev_var rfl) (hv.ex e1) (ev_var rfl) rfl (row_get hp)) (ev_str (ev_var rfl) (hv.ex e1) (ev_op (ev_var rfl) ev_c rv_I0) (show (p : Int) + 1 = ((p + 1 : Nat) : Int) by omega) (row_get hp0)) rv_I0) fun H3 e3 => ?_
      rw [decide_eq_true hp0, Bool.true_and] at q
      exact q H3 (e1.trans e3)
theorem ok_passed {f f1 : Addr} {fd fd1 : FuncData} (F : FnP K "passed" s_passed f fd) (g : mg "passed" = some (.ref f)) (b : Binds K fd ["row", "place"] []) (h_can_pass : Has P w K mg base 1 "can_pass" ["row", "place"] (spCanPass K) f1 fd1) : Has P w K mg base 2 "passed" ["row", "place"] (spPassedP K) f fd := by
  refine ⟨F.ok sc_passed (fun vs H Q E h => ?_) (fun cdv A outer s H vs Q E hr h => ?_), g, F.kp, b⟩
  · obtain ⟨v, rs, p, rfl, _⟩ := h
    rfl
  · obtain ⟨v, rs, p, rfl, hv, hl, ok, q⟩ := h
    obtain ⟨h0, hp, hlt⟩ := okD_at ok
    refine ⟨_, PSs.nox (pss_cons (ps_if (pt_not (pt_val (pe_call h_can_pass.G (hr.mono (by decide)) (by rfl) h_can_pass.g h_can_pass.kp h_can_pass.b .nil pass0 (pa_cons (pv 0) (pa_cons (pv 1) pa_nil))))) (pss_one ps_never) pss_nil)
      (pss_cons (ps_set (i := 2) sc_passed.nd rfl (.inl rfl) (pe_ix ix_tup (pv 0) (pe_op op_sub (pv 1) pe_int) (fun _ _ => rfl)))
      (pss_cons (ps_asg (pe_ix ix_tup (pv 0) (pv 1) (fun _ _ => rfl)) (pg_tup rfl (pgs_cons (pg_name (i := 3) sc_passed.nd rfl (Or.inl rfl)) (pgs_cons (pg_name (i := 4) sc_passed.nd rfl (Or.inl rfl)) pgs_nil))))
      (pss_one (ps_ret (pe_op op_catA (pe_op op_catA (pe_slice sl_tupA (pv 0) po_none (po_some (pe_op op_sub (pv 1) pe_int))) (pe_tup (pa_cons (pe_tup (pa_cons (pe_op op_sub (pv 3) (pe_ix ix_tup (pv 2) pe_int (fun _ _ => rfl))) (pa_cons (pv 4) pa_nil))) (pa_cons (pv 2) pa_nil)))) (pe_slice sl_tupA (pv 0) (po_some (pe_op op_add (pv 1) pe_int)) po_none))))))), ?_⟩
    refine q_when (b := false) (et_is (et_not (et_B (ev_call (ea_cons (ev_var rfl) (ea_cons (ev_var rfl) ea_nil)) (sv_can_pass hv hp)))) (by rw [hlt]; rfl)) (fun z => by cases z) fun _ H1 e1 => ?_
    have hv1 := hv.ex e1
    have hp1 : (p : Int) - 1 = ((p - 1 : Nat) : Int) := by omega
    obtain ⟨a, ha1, ha2⟩ := ev_beast (K := K) (te := tVar 0) (ti := tOp (rI0 fun i j => .int (i - j)) (tVar 1) (tC (.int 1))) (σ := [some v, some (.int (p : Int)), none, none, none]) (ev_var rfl) hv1 (ev_op (ev_var rfl) ev_c rv_I0) hp1 (row_get (show p - 1 < rs.length by omega))
    refine q_asg ha1 fun H2 e2 => ?_
    have hv2 := hv1.ex e2
    obtain ⟨c, hc1, hc2⟩ := ev_beast (K := K) (te := tVar 0) (ti := tVar 1) (σ := [some v, some (.int (p : Int)), some (.ref a), none, none]) (ev_var rfl) hv2 (ev_var rfl) rfl (row_get hp)
    refine q_asgT2 hc1 hc2 fun H3 e3 => ?_
    have hv3 := hv2.ex e3
    have hb3 : BeastAt K H3 (.ref a) (sS rs (p - 1), tS rs (p - 1)) := ⟨a, rfl, ex_t (e2.trans e3) ha2⟩
    refine s_retR (rs := passR rs p) (er_cat (er_cat (er_to (er_val (ev_var rfl) hv3) (ev_op (ev_var rfl) ev_c rv_I0) hp1) (er_two (eb_tup (ev_op (ev_var rfl) (ev_op (ev_var rfl) ev_c (rv_ixT (K := K) (ex_t (e2.trans e3) ha2) rfl)) rv_I0) (ev_var rfl)) (eb_val (ev_var rfl) hb3)) ?_) (er_from (er_val (ev_var rfl) hv3) (ev_op (ev_var rfl) ev_c rv_I0) (show (p : Int) + 1 = ((p + 1 : Nat) : Int) by omega)) ?_) fun v' H4 e4 h4 => q v' H4 (((e1.trans e2).trans e3).trans e4) h4
    · rw [List.length_take]
      show min (p - 1) rs.length + 2 ≤ 100000
      omega
    · rw [List.length_append, List.length_take, List.length_drop]
      show min (p - 1) rs.length + 2 + (rs.length - (p + 1)) ≤ 100000
      omega
theorem ok_fallen {f f1 : Addr} {fd fd1 : FuncData} (F : FnP K "fallen" s_fallen f fd) (g : mg "fallen" = some (.ref f)) (b : Binds K fd ["row", "place"] []) (h_can_fall : Has P w K mg base 1 "can_fall" ["row", "place"] (spCanFall K) f1 fd1) : Has P w K mg base 2 "fallen" ["row", "place"] (spFallenP K) f fd := by
  refine ⟨F.ok sc_fallen (fun vs H Q E h => ?_) (fun cdv A outer s H vs Q E hr h => ?_), g, F.kp, b⟩
  · obtain ⟨v, rs, p, rfl, _⟩ := h
    rfl
  · obtain ⟨v, rs, p, rfl, hv, hl, ok, q⟩ := h
    obtain ⟨hp, hlt⟩ := okD_at2 ok
    refine ⟨_, PSs.nox (pss_cons (ps_if (pt_not (pt_val (pe_call h_can_fall.G (hr.mono (by decide)) (by rfl) h_can_fall.g h_can_fall.kp h_can_fall.b .nil pass0 (pa_cons (pv 0) (pa_cons (pv 1) pa_nil))))) (pss_one ps_never) pss_nil)
      (pss_cons (ps_asg (pe_ix ix_tup (pv 0) (pv 1) (fun _ _ => rfl)) (pg_tup rfl (pgs_cons (pg_name (i := 2) sc_fallen.nd rfl (Or.inl rfl)) (pgs_cons (pg_name (i := 3) sc_fallen.nd rfl (Or.inl rfl)) pgs_nil))))
      (pss_cons (ps_set (i := 4) sc_fallen.nd rfl (.inl rfl) (pe_ix ix_tup (pv 0) (pe_op op_add (pv 1) pe_int) (fun _ _ => rfl)))
      (pss_one (ps_ret (pe_op op_catA (pe_op op_catA (pe_slice sl_tupA (pv 0) po_none (po_some (pv 1))) (pe_tup (pa_cons (pv 4) (pa_cons (pe_tup (pa_cons (pe_op op_add (pv 2) (pe_ix ix_tup (pv 4) pe_int (fun _ _ => rfl))) (pa_cons (pv 3) pa_nil))) pa_nil)))) (pe_slice sl_tupA (pv 0) (po_some (pe_op op_add (pv 1) pe_int)) po_none))))))), ?_⟩
    refine q_when (b := false) (et_is (et_not (et_B (ev_call (ea_cons (ev_var rfl) (ea_cons (ev_var rfl) ea_nil)) (sv_can_fall hv (by omega))))) (by rw [hlt]; rfl)) (fun z => by cases z) fun _ H1 e1 => ?_
    have hv1 := hv.ex e1
    obtain ⟨c, hc1, hc2⟩ := ev_beast (K := K) (te := tVar 0) (ti := tVar 1) (σ := [some v, some (.int (p : Int)), none, none, none]) (ev_var rfl) hv1 (ev_var rfl) rfl (row_get (show p < rs.length by omega))
    refine q_asgT2 hc1 hc2 fun H2 e2 => ?_
    have hv2 := hv1.ex e2
    have hp1 : (p : Int) + 1 = ((p + 1 : Nat) : Int) := by omega
    obtain ⟨a, ha1, ha2⟩ := ev_beast (K := K) (te := tVar 0) (ti := tOp (rI0 fun i j => .int (i + j)) (tVar 1) (tC (.int 1))) (σ := [some v, some (.int (p : Int)), some (.int (sS rs p)), some (.int (tS rs p)), none]) (ev_var rfl) hv2 (ev_op (ev_var rfl) ev_c rv_I0) hp1 (row_get hp)
    refine q_asg ha1 fun H3 e3 => ?_
    have hv3 := hv2.ex e3
    have hb3 : BeastAt K H3 (.ref a) (sS rs (p + 1), tS rs (p + 1)) := ⟨a, rfl, ex_t e3 ha2⟩
    refine s_retR (rs := fallR rs p) (er_cat (er_cat (er_to (er_val (ev_var rfl) hv3) (ev_var rfl) rfl) (er_two (eb_val (ev_var rfl) hb3) (eb_tup (ev_op (ev_var rfl) (ev_op (ev_var rfl) ev_c (rv_ixT (K := K) (ex_t e3 ha2) rfl)) rv_I0) (ev_var rfl))) ?_) (er_from (er_val (ev_var rfl) hv3) (ev_op (ev_var rfl) ev_c rv_I0) (show (p : Int) + 2 = ((p + 2 : Nat) : Int) by omega)) ?_) fun v' H4 e4 h4 => q v' H4 (((e1.trans e2).trans e3).trans e4) h4
    · rw [List.length_take]
      show min p rs.length + 2 ≤ 100000
      omega
    · rw [List.length_append, List.length_take, List.length_drop]
      show min p rs.length + 2 + (rs.length - (p + 2)) ≤ 100000
      omega
theorem ok_can_do {f f1 f2 : Addr} {fd fd1 fd2 : FuncData} (F : FnP K "can_do" s_can_do f fd) (g : mg "can_do" = some (.ref f)) (b : Binds K fd ["row", "word", "place"] []) (h_can_pass : Has P w K mg base 1 "can_pass" ["row", "place"] (spCanPass K) f1 fd1) (h_can_fall : Has P w K mg base 1 "can_fall" ["row", "place"] (spCanFall K) f2 fd2) : Has P w K mg base 2 "can_do" ["row", "word", "place"] (spCanDo K) f fd := by
  refine ⟨F.ok sc_can_do (fun vs H Q E h => ?_) (fun cdv A outer s H vs Q E hr h => ?_), g, F.kp, b⟩
  · obtain ⟨v, rs, d, rfl, _⟩ := h
    rfl
  · obtain ⟨v, rs, ⟨w', p⟩, rfl, hv, ok, q⟩ := h
    refine ⟨_, PSs.nox (pss_cons (ps_if (pt_cmpR op_eq (pv 1) pe_str (nomark _)) (pss_one (ps_ret (pe_call h_can_pass.G (hr.mono (by decide)) (by rfl) h_can_pass.g h_can_pass.kp h_can_pass.b .nil pass0 (pa_cons (pv 0) (pa_cons (pv 2) pa_nil))))) pss_nil)
      (pss_one (ps_ret (pe_and (pe_cmpR op_eq (pv 1) pe_str (nomark _)) (pe_one (pe_call h_can_fall.G (hr.mono (by decide)) (by rfl) h_can_fall.g h_can_fall.kp h_can_fall.b .nil pass0 (pa_cons (pv 0) (pa_cons (pv 2) pa_nil)))))))), ?_⟩
    cases w' with
    | true =>
      obtain ⟨h0, hp, hlt⟩ := okD_at ok
      refine q_when (b := true) (et_is (et_test (ev_op (ev_var rfl) ev_c (rv_eq rfl))) word_pass) (fun _ H1 e1 => ?_) (fun z => by cases z)
      exact s_ret (ev_is (ev_call (ea_cons (ev_var rfl) (ea_cons (ev_var rfl) ea_nil)) (sv_can_pass (hv.ex e1) hp)) (by rw [hlt])) fun H2 e2 => q H2 (e1.trans e2)
    | false =>
      obtain ⟨hp, hlt⟩ := okD_at2 ok
      refine q_when (b := false) (et_is (et_test (ev_op (ev_var rfl) ev_c (rv_eq rfl))) word_no) (fun z => by cases z) fun _ H1 e1 => ?_
      exact s_ret (ev_andV (a := true) (b := true) (ev_is (ev_op (ev_var rfl) ev_c (rv_eq rfl)) (by rw [word_fall])) fun _ => ev_is (ev_call (ea_cons (ev_var rfl) (ea_cons (ev_var rfl) ea_nil)) (sv_can_fall (hv.ex e1) (by omega))) (by rw [hlt])) fun H2 e2 => q H2 (e1.trans e2)
theorem ok_swapped {f : Addr} {fd : FuncData} (F : FnP K "swapped" s_swapped f fd) (g : mg "swapped" = some (.ref f)) (b : Binds K fd ["order", "place"] []) : Has P w K mg base 1 "swapped" ["order", "place"] (spSwapF K) f fd := by
  refine ⟨F.ok sc_swapped (fun vs H Q E h => ?_) (fun cdv A outer s H vs Q E hr h => ?_), g, F.kp, b⟩
  · obtain ⟨o, l, p, rfl, _⟩ := h
    rfl
  · obtain ⟨o, l, p, rfl, ho, hp, hl, q⟩ := h
    refine ⟨_, PSs.nox (pss_one (ps_ret (pe_op op_catAF (pe_op op_catAF (pe_slice sl_tupA (pv 0) po_none (po_some (pv 1))) (pe_tupF (pa_cons (pe_ix ix_tup (pv 0) (pe_op op_add (pv 1) pe_int) (fun _ _ => rfl)) (pa_cons (pe_ix ix_tup (pv 0) (pv 1) (fun _ _ => rfl)) pa_nil)))) (pe_slice sl_tupA (pv 0) (po_some (pe_op op_add (pv 1) pe_int)) po_none)))), ?_⟩
    have hp1 : (p : Int) + 1 = ((p + 1 : Nat) : Int) := by omega
    have at1 : atI (natsV l) ((p : Int) + 1) = some (.int (HH.ixN l (p + 1) : Int)) := by
      rw [hp1]
      exact atI_nat (natsV_at (ixN_at hp))
    have at0 : atI (natsV l) (p : Int) = some (.int (HH.ixN l p : Int)) := atI_nat (natsV_at (ixN_at (by omega)))
    have key : EvTf (tOp (rCatAF K) (tOp (rCatAF K) (tSl (rSlA K) (tVar 0) tNoPart (tPart (tVar 1))) (tTupF (tCons (tOp (rIxT K) (tVar 0) (tOp (rI0 fun i j => .int (i + j)) (tVar 1) (tC (.int 1)))) (tCons (tOp (rIxT K) (tVar 0) (tVar 1)) tNil)))) (tSl (rSlA K) (tVar 0) (tPart (tOp (rI0 fun i j => .int (i + j)) (tVar 1) (tC (.int 2)))) tNoPart)) [some (.ref o), some (.int (p : Int))] H ((natsV l).take p ++ [.int (HH.ixN l (p + 1) : Int), .int (HH.ixN l p : Int)] ++ (natsV l).drop (p + 2)) := by
      refine ef_catR (ef_catL (ep_to (ep_val (ev_var rfl) ho) (ev_var rfl) rfl) (ef_two (ev_op (ev_var rfl) (ev_op (ev_var rfl) ev_c rv_I0) (rv_ixT (K := K) ho at1)) (ev_op (ev_var rfl) (ev_var rfl) (rv_ixT (K := K) ho at0))) (by simp) ?_) (ep_from (ep_val (ev_var rfl) ho) (ev_op (ev_var rfl) ev_c rv_I0) (show (p : Int) + 2 = ((p + 2 : Nat) : Int) by omega)) (by simp) ?_
      · rw [List.length_take, natsV_len]
        show min p l.length + 2 ≤ 100000
        omega
      · rw [List.length_append, List.length_take, List.length_drop, natsV_len]
        show min p l.length + 2 + (l.length - (p + 2)) ≤ 100000
        omega
    refine key H (Ex.refl H) _ fun t H1 e1 h1 => q t H1 e1 ?_
    have e0 : natsV (swapL l p) = (natsV l).take p ++ [.int (HH.ixN l (p + 1) : Int), .int (HH.ixN l p : Int)] ++ (natsV l).drop (p + 2) := by
      unfold natsV swapL
      rw [List.map_append, List.map_append, List.map_take, List.map_drop]
      rfl
    rw [e0]
    exact h1
theorem ok_led {f f1 f2 f3 f4 : Addr} {fd fd1 fd2 fd3 fd4 : FuncData} (F : FnP K "led" s_led f fd) (g : mg "led" = some (.ref f)) (b : Binds K fd ["row", "deeds"] []) (h_can_do : Has P w K mg base 2 "can_do" ["row", "word", "place"] (spCanDo K) f1 fd1) (h_passed : Has P w K mg base 2 "passed" ["row", "place"] (spPassedP K) f2 fd2) (h_fallen : Has P w K mg base 2 "fallen" ["row", "place"] (spFallenP K) f3 fd3) (h_swapped : Has P w K mg base 1 "swapped" ["order", "place"] (spSwapF K) f4 fd4)
    (m_tuple : mg "tuple" = none) (m_range : mg "range" = none) (m_len : mg "len" = none) (m_enumerate : mg "enumerate" = none) : Has P w K mg base 3 "led" ["row", "deeds"] (spLedA K) f fd := by
  refine ⟨F.ok sc_led (fun vs H Q E h => ?_) (fun cdv A outer s H vs Q E hr h => ?_), g, F.kp, b⟩
  · obtain ⟨v, rs, c, us, ds, rfl, _⟩ := h
    rfl
  · obtain ⟨v, rs, c, us, ds, rfl, hv, hl, hc, hd, oks, q⟩ := h
    refine ⟨_, PSs.nox (pss_cons (ps_set (i := 2) sc_led.nd rfl (.inl rfl) (pv 0))
      (pss_cons (ps_set (i := 3) sc_led.nd rfl (.inl rfl) (pe_tupRgF rfl (by rfl) m_tuple (prg_1 (by rfl) m_range (pe_callB call_len_seq (by rfl) m_len PySem.boot_len (pa_cons (pv 0) pa_nil)))))
      (pss_cons (ps_for PassesOwn.never rfl (pi_enum (by rfl) m_enumerate (pa_cons (pv 1) pa_nil)) (pg_tup rfl (pgs_cons (pg_name (i := 4) sc_led.nd rfl (Or.inl rfl)) (pgs_cons (pg_tup rfl (pgs_cons (pg_name (i := 5) sc_led.nd rfl (Or.inl rfl)) (pgs_cons (pg_name (i := 6) sc_led.nd rfl (Or.inl rfl)) pgs_nil))) pgs_nil)))
        (pss_cons (ps_if (pt_not (pt_val (pe_call h_can_do.G (hr.mono (by decide)) (by rfl) h_can_do.g h_can_do.kp h_can_do.b .nil pass0 (pa_cons (pv 2) (pa_cons (pv 5) (pa_cons (pv 6) pa_nil)))))) (pss_one ps_never) pss_nil)
      (pss_one (ps_if (pt_cmpR op_eq (pv 5) pe_str (nomark _)) (pss_cons (ps_set (i := 2) sc_led.nd rfl (.inl rfl) (pe_call h_passed.G (hr.mono (by decide)) (by rfl) h_passed.g h_passed.kp h_passed.b .nil pass0 (pa_cons (pv 2) (pa_cons (pv 6) pa_nil))))
      (pss_one (ps_set (i := 3) sc_led.nd rfl (.inl rfl) (pe_call h_swapped.G (hr.mono (by decide)) (by rfl) h_swapped.g h_swapped.kp h_swapped.b .nil pass0 (pa_cons (pv 3) (pa_cons (pe_op op_sub (pv 6) pe_int) pa_nil)))))) (pss_cons (ps_set (i := 2) sc_led.nd rfl (.inl rfl) (pe_call h_fallen.G (hr.mono (by decide)) (by rfl) h_fallen.g h_fallen.kp h_fallen.b .nil pass0 (pa_cons (pv 2) (pa_cons (pv 6) pa_nil))))
      (pss_one (ps_set (i := 3) sc_led.nd rfl (.inl rfl) (pe_call h_swapped.G (hr.mono (by decide)) (by rfl) h_swapped.g h_swapped.kp h_swapped.b .nil pass0 (pa_cons (pv 3) (pa_cons (pv 6) pa_nil))))))))))
      (pss_one (ps_ret (pe_tup (pa_cons (pv 2) (pa_cons (pv 3) pa_nil)))))))), ?_⟩
    refine q_asg (ev_var rfl) fun H1 e1 => ?_
    obtain ⟨a5, vs5, rfl, ta5, bs5⟩ := hv.ex e1
    refine ⟨.ref a5, rfl, a5, vs5, rfl, .inr ta5, _, rfl, RgOk.of_le (by decide) (by rw [bs5.1]; omega) (by decide) (by omega), fun rt ob hob hrt => ?_⟩
    have erg : rgV 0 (vs5.length : Int) = natsV (List.range rs.length) := by
      rw [bs5.1, ord_tag, ordL_nats, tag_ids]
    rw [erg]
    have n2 := Ex.new (o := .frz ob (.tup (natsV (List.range rs.length)))) hrt
    have hot : FrzT (upd H1 rt (.frz ob (.tup (natsV (List.range rs.length))))) rt (natsV (List.range rs.length)) := FrzT.ofNew hob
    have e2 := e1.trans n2
    generalize upd H1 rt (.frz ob (.tup (natsV (List.range rs.length)))) = H2 at e2 hot ⊢
    have hv2 := hv.ex e2
    have ul : us.length = ds.length := All2.len hd
    refine q_forEv (K := K) (c := c) (xs := us) (ev_var rfl) (ex_l e2 hc) (fun i σ' H' => Ex H2 H' ∧ ∃ (v' : V) (t : Addr) (y4 y5 y6 : Option V), σ' = [some (.ref a5), some (.ref c), some v', some (.ref t), y4, y5, y6] ∧ RowAt K H' v' ((ds.take i).foldl doR rs) ∧ FrzT H' t (natsV ((ds.take i).foldl swD (List.range rs.length)))) (fun H3 e3 => ⟨e3, .ref a5, rt, _, _, _, rfl, hv2.ex e3, hot.ex e3⟩) (fun i σ' H' _ hW => ex_l (e2.trans hW.1) hc) (fun i x σ' H' T hx hW hT => ?_) (fun σ' H' hW => ?_)
    · obtain ⟨x3, v', t, y4, y5, y6, rfl, hw, ft⟩ := hW
      have hi : i < ds.length := by
        have := (List.getElem?_eq_some_iff.mp hx).1
        omega
      have hdi := List.getElem?_eq_getElem hi
      have ok := oks i _ hdi
      obtain ⟨ln1, ln2⟩ := led_len oks i (by omega)
      rw [take_do hdi, take_do hdi]
      obtain ⟨d0, hd0, dAtu⟩ := All2.get (deeds_ex (e2.trans x3) hd) hx
      rw [hdi] at hd0
      cases hd0
      obtain ⟨⟨w', p⟩, hwp⟩ : ∃ d : Deed, d = ds[i] := ⟨_, rfl⟩
      rw [← hwp] at ok dAtu ⊢
      obtain ⟨dp, rfl, hdp⟩ := dAtu
      have nT := Ex.new (o := .tup [V.int ((i : Nat) : Int), .ref dp]) hT
      refine ⟨T, _, rfl, st_of upd_same, rfl, _, _, rfl, _, _, rfl, ⟨dp, _, rfl, ex_t nT hdp, rfl, _, _, rfl, _, _, rfl, rfl, rfl, ?_⟩⟩
      have x4 := x3.trans nT
      have hv4 := hw.ex nT
      have ft4 := ft.ex nT
      generalize upd H' T (.tup [V.int ((i : Nat) : Int), .ref dp]) = H4 at x4 hv4 ft4 ⊢
      generalize (ds.take i).foldl doR rs = r at *
      generalize (ds.take i).foldl swD (List.range rs.length) = l at *
      refine q_when (b := false) (et_is (et_not (et_B (ev_call (z := .bl true) (ea_cons (ev_var rfl) (ea_cons (ev_var rfl) (ea_cons (ev_var rfl) ea_nil))) (fun H5 e5 Q5 q5 E5 => ⟨_, r, (w', p), rfl, hv4.ex e5, ok, q5⟩)))) rfl) (fun z => by cases z) fun _ H5 e5 => ?_
      have hv5 := hv4.ex e5
      have ho5 := ft4.ex e5
      cases w' with
      | true =>
        obtain ⟨h0, hp, hlt⟩ := okD_at ok
        refine s_if (b := true) (et_is (et_test (ev_op (ev_var rfl) ev_c (rv_eq rfl))) word_pass) (fun _ H6 e6 => ?_) (fun z => by cases z)
        refine ⟨v', rfl, .int (p : Int), rfl, v', r, p, rfl, hv5.ex e6, by omega, ok, fun v2 H7 e7 hv7 => ?_⟩
        refine ⟨.ref t, rfl, (ev_is (ev_op (ev_var rfl) ev_c rv_I0) (show V.int ((p : Int) - 1) = V.int ((p - 1 : Nat) : Int) by congr 1; omega) : Ev (tOp (rI0 fun i j => .int (i - j)) (tVar 6) (tC (.int 1))) _ H7 (.int ((p - 1 : Nat) : Int))) H7 (Ex.refl H7) _ fun H8 e8 => ⟨t, l, p - 1, rfl, (ho5.ex ((e6.trans e7).trans e8)).sq, by omega, by omega, fun t2 H9 e9 ht9 => ?_⟩⟩
        exact ⟨(((x4.trans e5).trans e6).trans e7).trans (e8.trans e9), v2, t2, _, _, _, rfl, hv7.ex (e8.trans e9), ht9⟩
      | false =>
        obtain ⟨hp, hlt⟩ := okD_at2 ok
        refine s_if (b := false) (et_is (et_test (ev_op (ev_var rfl) ev_c (rv_eq rfl))) word_no) (fun z => by cases z) fun _ H6 e6 => ?_
        refine ⟨v', rfl, .int (p : Int), rfl, v', r, p, rfl, hv5.ex e6, by omega, ok, fun v2 H7 e7 hv7 => ?_⟩
        refine ⟨.ref t, rfl, .int (p : Int), rfl, t, l, p, rfl, (ho5.ex (e6.trans e7)).sq, by omega, by omega, fun t2 H9 e9 ht9 => ?_⟩
        exact ⟨(((x4.trans e5).trans e6).trans e7).trans e9, v2, t2, _, _, _, rfl, hv7.ex e9, ht9⟩
    · obtain ⟨x3, v', t, y4, y5, y6, rfl, hw, ft⟩ := hW
      rw [List.take_of_length_le (by omega)] at hw ft
      refine ⟨v', rfl, .ref t, rfl, by show 2 ≤ sizeLine; decide, fun qq hqq => ?_⟩
      have nq := Ex.new (o := .tup [v', .ref t]) hqq
      exact q qq t v' _ ((e2.trans x3).trans nq) upd_same (hw.ex nq) (ft.ex nq)
theorem ok_pass_all {f : Addr} {fd : FuncData} (F : FnP K "pass_all" s_pass_all f fd) (g : mg "pass_all" = some (.ref f)) (b : Binds K fd ["line", "strengths", "tolls", "who"] []) (m_len : mg "len" = none) : Has P w K mg base 1 "pass_all" ["line", "strengths", "tolls", "who"] spPassAll f fd := by
  refine ⟨F.ok sc_pass_all (fun vs H Q E h => ?_) (fun cdv A outer s H vs Q E hr h => ?_), g, F.kp, b⟩
  · obtain ⟨l, sa, ta, N, S, T, who, s0, t0, rfl, _⟩ := h
    rfl
  · obtain ⟨l, sa, ta, N, S, T, who, s0, t0, rfl, hl, hs, ht, ne1, ne2, ne3, kp, hs0, ht0, hne, hN, t0nn, nfN, q⟩ := h
    refine ⟨_, PSs.nox (pss_cons (ps_set (i := 4) sc_pass_all.nd rfl (.inl rfl) (pe_callB call_len_seq (by rfl) m_len PySem.boot_len (pa_cons (pv 0) pa_nil)))
      (pss_cons (ps_while PassesOwn.never (PW.pt (pw_and (pt_cmpR op_gt (pv 4) pe_int (nomark _)) (pw_and1 (pt_cmpR op_gt (pe_op op_sub (pe_ix ix_list (pv 1) (pv 3) (fun _ _ => rfl)) (pe_ix ix_list (pv 2) (pe_ix ix_list (pv 0) (pe_op op_sub (pv 4) pe_int) (fun _ _ => rfl)) (fun _ _ => rfl))) (pe_ix ix_list (pv 1) (pe_ix ix_list (pv 0) (pe_op op_sub (pv 4) pe_int) (fun _ _ => rfl)) (fun _ _ => rfl)) (nomark _))))) (pss_cons (ps_aug (i := 4) sc_pass_all.nd rfl (.inl rfl) pe_int ip_sub)
      (pss_one (ps_augS (pv 1) (pv 3) get_listN (pe_ix ix_list (pv 2) (pe_ix ix_list (pv 0) (pv 4) (fun _ _ => rfl)) (fun _ _ => rfl)) ip_sub set_list))))
      (pss_one (ps_expr (pe_bm PySem.F.plainAttrs_list PySem.F.slot_list_insert PySem.F.type_list_insert mt_insert (pv 0) (pa_cons (pv 4) (pa_cons (pv 3) pa_nil))))))), ?_⟩
    refine q_asg (ev_len (K := K) (ev_var rfl) (sq_of hl)) fun H1 e1 => ?_
    refine q_while (fun m σ' H' => ∃ (A B : List Cow) (s : Int), m = A.length ∧ σ' = [some (.ref l), some (.ref sa), some (.ref ta), some (.int (who : Int)), some (.int (A.length : Int))] ∧ N = A ++ B ∧ Steps (N ++ [(who, (s0, t0))]) (A ++ (who, (s, t0)) :: B) ∧ (∀ b r, B = b :: r → b.2.1 < s) ∧ H' sa = some (.lst ((S.set who s).map V.int)) ∧ ExB sa H H') N.length ?_ (fun m σ' H' hW => ?_)
    · have e0 : S.set who s0 = S := by
        exact set_self hs0
      refine ⟨N, [], s0, rfl, ?_, by rw [List.append_nil], .refl _, (fun b r z => by cases z), ?_, .of e1⟩
      · show [some (V.ref l), some (.ref sa), some (.ref ta), some (.int (who : Int)), some (.int ((idsV N).length : Int))] = _
        rw [show (idsV N).length = N.length from List.length_map ..]
      · rw [e0]
        exact e1 _ _ hs
    · obtain ⟨A, B, s, rfl, rfl, hAB, st, hB, hsa, x1⟩ := hW
      have hl' := x1 _ _ ne1 hl
      have ht' := x1 _ _ (Ne.symm ne3) ht
      have hwho : (S.set who s)[who]? = some s := set_at hs0
      have fin : (∀ x, A.getLast? = some x → ¬ (s - x.2.2 > x.2.1)) → ∀ H1, Ex H' H1 → tDrop (tBM K "list" (fun x vs H Q => ∃ (l : Addr) (xs : List V) (i : Int) (y : V), x = .ref l ∧ vs = [.int i, y] ∧ H l = some (.lst xs) ∧ xs.length < sizeLine ∧ 0 ≤ i ∧ i < 2 ^ 63 ∧ Q .non (upd H l (.lst (xs.take i.toNat ++ [y] ++ xs.drop i.toNat)))) (tVar 0) (tCons (tVar 4) (tCons (tVar 3) tNil))) { nx := fun _ H' => Q .non H', rt := Q } [some (.ref l), some (.ref sa), some (.ref ta), some (.int (who : Int)), some (.int (A.length : Int))] H1 := fun hlast H1 e1 => by
        have hAl : A.length ≤ N.length := by rw [hAB, List.length_append]; omega
        refine ⟨.ref l, rfl, .inl ⟨rfl, _, sq_of (e1 _ _ hl')⟩, .int (A.length : Int), rfl, .int (who : Int), rfl, l, _, (A.length : Int), .int (who : Int), rfl, rfl, e1 _ _ hl', sz_lt (by rw [idsV_len]; omega), by omega, by omega, ?_⟩
        refine q A B s _ hAB st (nfr_in (by rw [← hAB]; exact nfN) hlast fun b r z => ?_) ?_ ?_ ?_
        · have := hB b r z
          dsimp only
          omega
        · rw [upd_same, hAB, show ((A.length : Nat) : Int).toNat = A.length from rfl, ← idsV_ins A B (who, (s, t0))]
        · rw [upd_ne (Ne.symm ne1)]
          exact e1 _ _ hsa
        · intro c o hc1 hc2 hc
          rw [upd_ne hc1]
          exact e1 _ _ (x1 _ _ hc2 hc)
      rcases List.eq_nil_or_concat A with rfl | ⟨A', x, rfl⟩
      · refine ⟨false, (et_and (a := false) (b := false) (et_is (et_test (ev_op (ev_var rfl) ev_c rv_I0)) rfl) (fun z => by cases z)), (fun z => by cases z), fun _ H1 e1 => fin (fun x z => by cases z) H1 e1⟩
      · have hxN : x ∈ N := by
          rw [hAB]
          simp
        have hlen : (A'.concat x).length = A'.length + 1 := List.length_concat ..
        have hpl : ((A'.concat x).length : Int) - 1 = (A'.length : Int) := by
          rw [hlen]
          omega
        have hNe : N = A' ++ x :: B := by
          rw [hAB]
          simp
        have gl : atI (idsV N) (A'.length : Int) = some (.int (x.1 : Int)) := atI_nat (by rw [hNe]; exact idsV_at A' B x)
        have gT : atI (T.map V.int) (x.1 : Int) = some (.int x.2.2) := atI_nat (getI (kp.t x hxN))
        have gS : atI ((S.set who s).map V.int) (x.1 : Int) = some (.int x.2.1) := atI_nat (getI (by rw [set_off (Ne.symm (hne x hxN))]; exact kp.s x hxN))
        have gW : atI ((S.set who s).map V.int) (who : Int) = some (.int s) := atI_nat (getI hwho)
        refine ⟨decide (s - x.2.2 > x.2.1), et_is (et_and (a := true) (b := decide (s - x.2.2 > x.2.1)) (et_is (et_test (ev_op (ev_var rfl) ev_c rv_I0)) (by rw [hlen]; exact decide_eq_true (by omega))) fun _ => et_test (ev_op (ev_op (ev_op (ev_var rfl) (ev_var rfl) (rv_ixL (sq_of hsa) gW)) (ev_op (ev_var rfl) (ev_op (ev_var rfl) (ev_op (ev_var rfl) ev_c rv_I0) (rv_ixL (K := K) (sq_of hl') (by rw [hpl]; exact gl))) (rv_ixL (sq_of ht') gT)) rv_I0) (ev_op (ev_var rfl) (ev_op (ev_var rfl) (ev_op (ev_var rfl) ev_c rv_I0) (rv_ixL (K := K) (sq_of hl') (by rw [hpl]; exact gl))) (rv_ixL (sq_of hsa) gS)) rv_I0)) (Bool.true_and _), fun hd H1 e1 => ?_, fun hd H1 e1 => fin (fun y z => ?_) H1 e1⟩
        · have hd := of_decide_eq_true hd
          refine ⟨fun σ2 H2 => ∃ m', m' < (A'.concat x).length ∧ ∃ (A B : List Cow) (s : Int), m' = A.length ∧ σ2 = [some (.ref l), some (.ref sa), some (.ref ta), some (.int (who : Int)), some (.int (A.length : Int))] ∧ N = A ++ B ∧ Steps (N ++ [(who, (s0, t0))]) (A ++ (who, (s, t0)) :: B) ∧ (∀ b r, B = b :: r → b.2.1 < s) ∧ H2 sa = some (.lst ((S.set who s).map V.int)) ∧ ExB sa H H2, fun σ2 H2 h => h, ?_⟩
          refine q_aug (f := fun i j => i - j) (b := 1) rfl ev_c fun H2 e2 => ?_
          rw [hpl]
          have e12 := e1.trans e2
          refine ⟨.ref sa, rfl, .int (who : Int), rfl, sa, _, who, .int s, rfl, rfl, e12 _ _ hsa, getI hwho, ?_⟩
          have ev : Ev (tOp (rIxL K) (tVar 2) (tOp (rIxL K) (tVar 0) (tVar 4))) [some (.ref l), some (.ref sa), some (.ref ta), some (.int (who : Int)), some (.int (A'.length : Int))] H2 (.int x.2.2) := ev_op (ev_var rfl) (ev_op (ev_var rfl) (ev_var rfl) (rv_ixL (sq_of (e12 _ _ hl')) gl)) (rv_ixL (sq_of (e12 _ _ ht')) gT)
          refine ev H2 (Ex.refl H2) _ fun H3 e3 => ⟨s, x.2.2, rfl, rfl, sa, _, (who : Int), who, rfl, rfl, e3 _ _ (e12 _ _ hsa), ixN_nat (by rw [List.length_map, List.length_set]; exact (List.getElem?_eq_some_iff.mp hs0).1), ?_⟩
          refine ⟨A'.length, by rw [hlen]; omega, A', x :: B, s - x.2.2, rfl, rfl, hNe, st.snoc ⟨A', B, x, (who, (s, t0)), by simp, hd, rfl⟩, fun b r z => ?_, ?_, ?_⟩
          · cases z
            omega
          · rw [upd_same, ← List.map_set, List.set_set]
          · exact (x1.trans (.of (e12.trans e3))).upd
        · have z' : x = y := by
            rw [List.concat_eq_append, List.getLast?_concat] at z
            exact Option.some.inj z
          subst z'
          exact of_decide_eq_false hd
theorem ok_fall_all {f : Addr} {fd : FuncData} (F : FnP K "fall_all" s_fall_all f fd) (g : mg "fall_all" = some (.ref f)) (b : Binds K fd ["line", "strengths", "tolls", "who"] []) (m_len : mg "len" = none) : Has P w K mg base 1 "fall_all" ["line", "strengths", "tolls", "who"] spFallAll f fd := by
  refine ⟨F.ok sc_fall_all (fun vs H Q E h => ?_) (fun cdv A outer s H vs Q E hr h => ?_), g, F.kp, b⟩
  · obtain ⟨l, sa, ta, N, S, T, who, s0, t0, rfl, _⟩ := h
    rfl
  · obtain ⟨l, sa, ta, N, S, T, who, s0, t0, rfl, hl, hs, ht, ne1, ne2, ne3, kp, hs0, ht0, hne, hN, nfN, q⟩ := h
    refine ⟨_, PSs.nox (pss_cons (ps_set (i := 4) sc_fall_all.nd rfl (.inl rfl) pe_int)
      (pss_cons (ps_while PassesOwn.never (PW.pt (pw_and (pt_cmpR op_lt (pv 4) (pe_callB call_len_seq (by rfl) m_len PySem.boot_len (pa_cons (pv 0) pa_nil)) (nomark _)) (pw_and1 (pt_cmpR op_gt (pe_ix ix_list (pv 1) (pv 3) (fun _ _ => rfl)) (pe_ix ix_list (pv 1) (pe_ix ix_list (pv 0) (pv 4) (fun _ _ => rfl)) (fun _ _ => rfl)) (nomark _))))) (pss_cons (ps_augS (pv 1) (pv 3) get_listN (pe_ix ix_list (pv 2) (pe_ix ix_list (pv 0) (pv 4) (fun _ _ => rfl)) (fun _ _ => rfl)) ip_add set_list)
      (pss_one (ps_aug (i := 4) sc_fall_all.nd rfl (.inl rfl) pe_int ip_add))))
      (pss_one (ps_expr (pe_bm PySem.F.plainAttrs_list PySem.F.slot_list_insert PySem.F.type_list_insert mt_insert (pv 0) (pa_cons (pv 4) (pa_cons (pv 3) pa_nil))))))), ?_⟩
    refine q_asg ev_c fun H1 e1 => ?_
    refine q_while (fun m σ' H' => ∃ (A B : List Cow) (s : Int), m = B.length ∧ σ' = [some (.ref l), some (.ref sa), some (.ref ta), some (.int (who : Int)), some (.int (A.length : Int))] ∧ N = A ++ B ∧ FSteps ((who, (s0, t0)) :: N) (A ++ (who, (s, t0)) :: B) ∧ (∀ x, A.getLast? = some x → x.2.1 < s) ∧ H' sa = some (.lst ((S.set who s).map V.int)) ∧ ExB sa H H') N.length ?_ (fun m σ' H' hW => ?_)
    · have e0 : S.set who s0 = S := by
        exact set_self hs0
      refine ⟨[], N, s0, rfl, rfl, rfl, .refl _, (fun x z => by cases z), ?_, .of e1⟩
      rw [e0]
      exact e1 _ _ hs
    · obtain ⟨A, B, s, rfl, rfl, hAB, st, hA, hsa, x1⟩ := hW
      have hl' := x1 _ _ ne1 hl
      have ht' := x1 _ _ (Ne.symm ne3) ht
      have hwho : (S.set who s)[who]? = some s := set_at hs0
      have hNl : N.length = A.length + B.length := by rw [hAB, List.length_append]
      have fin : (∀ b r, B = b :: r → ¬ (s > b.2.1)) → ∀ H1, Ex H' H1 → tDrop (tBM K "list" (fun x vs H Q => ∃ (l : Addr) (xs : List V) (i : Int) (y : V), x = .ref l ∧ vs = [.int i, y] ∧ H l = some (.lst xs) ∧ xs.length < sizeLine ∧ 0 ≤ i ∧ i < 2 ^ 63 ∧ Q .non (upd H l (.lst (xs.take i.toNat ++ [y] ++ xs.drop i.toNat)))) (tVar 0) (tCons (tVar 4) (tCons (tVar 3) tNil))) { nx := fun _ H' => Q .non H', rt := Q } [some (.ref l), some (.ref sa), some (.ref ta), some (.int (who : Int)), some (.int (A.length : Int))] H1 := fun hB H1 e1 => by
        refine ⟨.ref l, rfl, .inl ⟨rfl, _, sq_of (e1 _ _ hl')⟩, .int (A.length : Int), rfl, .int (who : Int), rfl, l, _, (A.length : Int), .int (who : Int), rfl, rfl, e1 _ _ hl', sz_lt (by rw [idsV_len]; omega), by omega, by omega, ?_⟩
        refine q A B s _ hAB st (ffr_in (by rw [← hAB]; exact nfN) (fun x z => ?_) hB) ?_ ?_ ?_
        · have := hA x z
          dsimp only
          omega
        · rw [upd_same, hAB, show ((A.length : Nat) : Int).toNat = A.length from rfl, ← idsV_ins A B (who, (s, t0))]
        · rw [upd_ne (Ne.symm ne1)]
          exact e1 _ _ hsa
        · intro c o hc1 hc2 hc
          rw [upd_ne hc1]
          exact e1 _ _ (x1 _ _ hc2 hc)
      have gWI : atI ((S.set who s).map V.int) (who : Int) = some (.int s) := atI_nat (getI hwho)
      cases B with
      | nil =>
        have hlen0 : (idsV N).length = A.length := by
          rw [idsV_len, hNl]
          rfl
        refine ⟨false, (et_and (a := false) (b := false) (et_is (et_test (ev_op (ev_var rfl) (ev_len (K := K) (ev_var rfl) (sq_of hl')) rv_I0)) (by rw [hlen0]; exact decide_eq_false (by omega))) (fun z => by cases z)), (fun z => by cases z), fun _ H1 e1 => fin (fun b r z => by cases z) H1 e1⟩
      | cons x B =>
        have hxN : x ∈ N := by
          rw [hAB]
          simp
        have hlen1 : (idsV N).length = A.length + (B.length + 1) := by
          rw [idsV_len, hNl]
          rfl
        have gl : atI (idsV N) (A.length : Int) = some (.int (x.1 : Int)) := atI_nat (by rw [hAB]; exact idsV_at A B x)
        have gT : atI (T.map V.int) (x.1 : Int) = some (.int x.2.2) := atI_nat (getI (kp.t x hxN))
        have gS : atI ((S.set who s).map V.int) (x.1 : Int) = some (.int x.2.1) := atI_nat (getI (by rw [set_off (Ne.symm (hne x hxN).1)]; exact kp.s x hxN))
        refine ⟨decide (s > x.2.1), et_is (et_and (a := true) (b := decide (s > x.2.1)) (et_is (et_test (ev_op (ev_var rfl) (ev_len (K := K) (ev_var rfl) (sq_of hl')) rv_I0)) (by rw [hlen1]; exact decide_eq_true (by omega))) fun _ => et_test (ev_op (ev_op (ev_var rfl) (ev_var rfl) (rv_ixL (K := K) (sq_of hsa) gWI)) (ev_op (ev_var rfl) (ev_op (ev_var rfl) (ev_var rfl) (rv_ixL (K := K) (sq_of hl') gl)) (rv_ixL (sq_of hsa) gS)) rv_I0)) (Bool.true_and _), fun hd H1 e1 => ?_, fun hd H1 e1 => fin (fun b r z => ?_) H1 e1⟩
        · have hd := of_decide_eq_true hd
          refine ⟨fun σ2 H2 => ∃ m', m' < (x :: B).length ∧ ∃ (A B : List Cow) (s : Int), m' = B.length ∧ σ2 = [some (.ref l), some (.ref sa), some (.ref ta), some (.int (who : Int)), some (.int (A.length : Int))] ∧ N = A ++ B ∧ FSteps ((who, (s0, t0)) :: N) (A ++ (who, (s, t0)) :: B) ∧ (∀ x, A.getLast? = some x → x.2.1 < s) ∧ H2 sa = some (.lst ((S.set who s).map V.int)) ∧ ExB sa H H2, fun σ2 H2 h => h, ?_⟩
          refine ⟨.ref sa, rfl, .int (who : Int), rfl, sa, _, who, .int s, rfl, rfl, e1 _ _ hsa, getI hwho, ?_⟩
          have ev : Ev (tOp (rIxL K) (tVar 2) (tOp (rIxL K) (tVar 0) (tVar 4))) [some (.ref l), some (.ref sa), some (.ref ta), some (.int (who : Int)), some (.int (A.length : Int))] H1 (.int x.2.2) := ev_op (ev_var rfl) (ev_op (ev_var rfl) (ev_var rfl) (rv_ixL (sq_of (e1 _ _ hl')) gl)) (rv_ixL (sq_of (e1 _ _ ht')) gT)
          refine ev H1 (Ex.refl H1) _ fun H3 e3 => ⟨s, x.2.2, rfl, rfl, sa, _, (who : Int), who, rfl, rfl, e3 _ _ (e1 _ _ hsa), ixN_nat (by rw [List.length_map, List.length_set]; exact (List.getElem?_eq_some_iff.mp hs0).1), ?_⟩
          refine s_aug (f := fun i j => i + j) (a := (A.length : Int)) (b := 1) rfl ev_c fun H4 e4 => ?_
          have hxnn := (hne x hxN).2
          refine ⟨B.length, Nat.lt_succ_self _, A ++ [x], B, s + x.2.2, rfl, ?_, by rw [hAB]; simp, ?_, fun y z => ?_, ?_, ?_⟩
          · rw [List.length_append]
            rfl
          · refine st.trans (.one ⟨A, B, (who, (s, t0)), x, rfl, hd, by simp⟩)
          · rw [List.getLast?_concat] at z
            cases z
            omega
          · refine e4 _ _ ?_
            rw [upd_same, ← List.map_set, List.set_set]
          · exact ((x1.trans (.of (e1.trans e3))).upd).trans (.of e4)
        · cases z
          exact of_decide_eq_false hd
theorem ok_row_and_order {f : Addr} {fd : FuncData} (F : FnP K "row_and_order" s_row_and_order f fd) (g : mg "row_and_order" = some (.ref f)) (b : Binds K fd ["line", "strengths", "tolls"] []) (m_tuple : mg "tuple" = none) : Has P w K mg base 1 "row_and_order" ["line", "strengths", "tolls"] (spRowOrder K) f fd := by
  refine ⟨F.ok sc_row_and_order (fun vs H Q E h => ?_) (fun cdv A outer s H vs Q E hr h => ?_), g, F.kp, b⟩
  · obtain ⟨l, sa, ta, N, S, T, rfl, _⟩ := h
    rfl
  · obtain ⟨l, sa, ta, N, S, T, rfl, hl, hs, ht, kp, hN, q⟩ := h
    refine ⟨_, PSs.nox (pss_one (ps_ret (pe_tup (pa_cons (pe_tupleOf (by rfl) m_tuple (pe_lc (own := [("who", 3)]) (g := gName 3) (by rfl) sc_row_and_order.nd (pi_list (pv 0)) (blkOk_by (own := [("who", 3)]) (N := ["line", "strengths", "tolls", "who"]) (sc := defScope s_row_and_order) (by decide +kernel)) (fun _ _ _ _ _ => (pg_name (i := 3) sc_row_and_order.nd rfl (Or.inl rfl))) (fun _ _ _ _ _ => pts_nil) (fun _ _ _ _ _ => (pe_tup (pa_cons (pe_ix (ix_listK (K := K)) (pv 1) (pv 3) (fun _ _ => rfl)) (pa_cons (pe_ix (ix_listK (K := K)) (pv 2) (pv 3) (fun _ _ => rfl)) pa_nil)))))) (pa_cons (pe_tupleOf (by rfl) m_tuple (pv 0)) pa_nil))))), ?_⟩
    refine ⟨.ref l, rfl, l, rfl, ⟨_, sq_of hl⟩, fun Dl hD => ?_⟩
    refine lc_it (walk_list (xs := idsV N)) (fun k H2 => Ex H H2 ∧ ∃ us, H2 Dl = some (.lst us) ∧ Beasts K H2 us (HH.rowsOf (N.take k))) ⟨Ex.new hD, [], upd_same, Beasts.nil⟩ (fun k H2 _ p => sq_of (p.1 _ _ hl)) (fun k x H2 H3 hk p y => ?_) (fun H2 p => ?_)
    · obtain ⟨rfl, hx⟩ := y
      obtain ⟨p1, us, p2, p3⟩ := p
      have hk' : k < N.length := by rw [← idsV_len]; exact hk
      have hmem : N[k] ∈ N := List.getElem_mem hk'
      have hx' : x = .int (N[k].1 : Int) := by
        unfold idsV at hx
        rw [List.getElem?_map, List.getElem?_eq_getElem hk'] at hx
        exact (Option.some.inj hx).symm
      subst hx'
      refine ⟨rfl, .ref sa, rfl, .int (N[k].1 : Int), rfl, sa, _, _, .int N[k].2.1, rfl, rfl, sq_of (p1 _ _ hs), atI_nat (getI (kp.s _ hmem)), .ref ta, rfl, .int (N[k].1 : Int), rfl, ta, _, _, .int N[k].2.2, rfl, rfl, sq_of (p1 _ _ ht), atI_nat (getI (kp.t _ hmem)), by show 2 ≤ sizeLine; decide, fun TT hT => ?_⟩
      have g1 : (upd H3 TT (.tup [.int N[k].2.1, .int N[k].2.2])) Dl = some (.lst us) := Ex.new hT _ _ p2
      refine ⟨us, g1, ?_, Ex.mut (p1.trans (Ex.new hT)) hD, us ++ [.ref TT], upd_same, ?_⟩
      · rw [p3.1, cow_len, List.length_take]
        exact sz_lt (by omega)
      · have e : HH.rowsOf (N.take (k + 1)) = HH.rowsOf (N.take k) ++ [N[k].2] := by
          unfold HH.rowsOf
          rw [List.take_add_one, List.getElem?_eq_getElem hk', List.map_append]
          rfl
        rw [e]
        exact ((p3.ex (Ex.new hT)).app (Beasts.one (b := N[k].2) ⟨TT, rfl, st_of upd_same⟩)).exB (ExB.refl _ _).upd g1
    · obtain ⟨p1, us, p2, p3⟩ := p
      rw [idsV_len, List.take_length] at p3
      refine .inl ⟨Dl, us, rfl, sq_of p2, fun rt hrt => ⟨.ref l, rfl, .inl ⟨l, _, rfl, sq_of (Ex.new hrt _ _ (p1 _ _ hl)), fun ot hot => ⟨by show 2 ≤ sizeLine; decide, fun qq hqq => ?_⟩⟩⟩⟩
      have e2 := (Ex.new (o := .tup us) hrt).trans ((Ex.new (o := .tup (idsV N)) hot).trans (Ex.new (o := .tup [.ref rt, .ref ot]) hqq))
      refine q qq _ (p1.trans e2) ⟨.ref rt, ot, upd_same, ⟨rt, us, rfl, st_of ?_, p3.ex e2⟩, ?_⟩
      · exact Ex.new hqq _ _ (Ex.new hot _ _ upd_same)
      · exact Ex.new hqq _ _ upd_same
theorem ok_last {f f1 f2 : Addr} {fd fd1 fd2 : FuncData} (F : FnP K "last" s_last f fd) (g : mg "last" = some (.ref f)) (b : Binds K fd ["row"] []) (h_pass_all : Has P w K mg base 1 "pass_all" ["line", "strengths", "tolls", "who"] spPassAll f1 fd1) (h_row_and_order : Has P w K mg base 1 "row_and_order" ["line", "strengths", "tolls"] (spRowOrder K) f2 fd2) (m_range : mg "range" = none) (m_len : mg "len" = none) :
    Has P w K mg base 2 "last" ["row"] (spLast K) f fd := by
  refine ⟨F.ok sc_last (fun vs H Q E h => ?_) (fun cdv A outer s H vs Q E hr h => ?_), g, F.kp, b⟩
  · obtain ⟨v, rs, rfl, _⟩ := h
    rfl
  · obtain ⟨v, rs, rfl, hv, hl, ht, q⟩ := h
    refine ⟨_, PSs.nox (pss_cons (ps_setLc (i := 1) (own := [("strength", 5), ("toll", 6)]) (g := gTup K 2 (gCons (gName 5) (gCons (gName 6) gNil))) (by rfl) sc_last.nd rfl rfl (sw_true rfl rfl rfl (by decide +kernel)) (pi_tup (pv 0)) (blkOk_by (own := [("strength", 5), ("toll", 6)]) (N := ["row", "strengths", "tolls", "line", "who", "strength", "toll"]) (sc := defScope s_last) (by decide +kernel)) (fun _ _ _ _ _ => (pg_tup rfl (pgs_cons (pg_name (i := 5) sc_last.nd rfl (Or.inl rfl)) (pgs_cons (pg_name (i := 6) sc_last.nd rfl (Or.inl rfl)) pgs_nil)))) (fun _ _ _ _ _ => pts_nil) (fun _ _ _ _ _ => (pv 5)))
      (pss_cons (ps_setLc (i := 2) (own := [("strength", 5), ("toll", 6)]) (g := gTup K 2 (gCons (gName 5) (gCons (gName 6) gNil))) (by rfl) sc_last.nd rfl rfl (sw_true rfl rfl rfl (by decide +kernel)) (pi_tup (pv 0)) (blkOk_by (own := [("strength", 5), ("toll", 6)]) (N := ["row", "strengths", "tolls", "line", "who", "strength", "toll"]) (sc := defScope s_last) (by decide +kernel)) (fun _ _ _ _ _ => (pg_tup rfl (pgs_cons (pg_name (i := 5) sc_last.nd rfl (Or.inl rfl)) (pgs_cons (pg_name (i := 6) sc_last.nd rfl (Or.inl rfl)) pgs_nil)))) (fun _ _ _ _ _ => pts_nil) (fun _ _ _ _ _ => (pv 6)))
      (pss_cons (ps_set (i := 3) sc_last.nd rfl (.inl rfl) (pe_lst pa_nil))
      (pss_cons (ps_for PassesOwn.never rfl (pi_range1 (by rfl) m_range (pa_cons (pe_callB call_len_seq (by rfl) m_len PySem.boot_len (pa_cons (pv 0) pa_nil)) pa_nil)) (pg_name (i := 4) sc_last.nd rfl (Or.inl rfl))
        (pss_one (ps_expr (pe_call h_pass_all.G (hr.mono (by decide)) (by rfl) h_pass_all.g h_pass_all.kp h_pass_all.b .nil pass0 (pa_cons (pv 3) (pa_cons (pv 1) (pa_cons (pv 2) (pa_cons (pv 4) pa_nil))))))))
      (pss_one (ps_ret (pe_call h_row_and_order.G (hr.mono (by decide)) (by rfl) h_row_and_order.g h_row_and_order.kp h_row_and_order.b .nil pass0 (pa_cons (pv 3) (pa_cons (pv 1) (pa_cons (pv 2) pa_nil)))))))))), ?_⟩
    refine q_asgL (el_unzip true hv hl (ev_var rfl) (fun x y => rfl) (fun x y => rfl)) fun sa H1 hsa e1 h1 => ?_
    refine q_asgL (el_unzip false (hv.ex e1) hl (ev_var rfl) (fun x y => rfl) (fun x y => rfl)) fun ta H2 hta e2 h2 => ?_
    refine q_asgL (el_lst ea_nil (by show 0 ≤ 100000; decide)) fun l H3 hl3 e3 h3 => ?_
    have h1' : H3 sa = some (.lst ((rs.map (·.1)).map V.int)) := by
      rw [List.map_map]
      exact e3 _ _ (e2 _ _ h1)
    have h2' : H3 ta = some (.lst ((rs.map (·.2)).map V.int)) := by
      rw [List.map_map]
      exact e3 _ _ h2
    have ne3 : sa ≠ ta := ne_of_none h1 hta
    have ne1 : l ≠ sa := (ne_of_none (e2 _ _ h1) hl3).symm
    have ne2 : l ≠ ta := (ne_of_none h2 hl3).symm
    have e123 := (e1.trans e2).trans e3
    have fl : H l = none := fresh_back (e1.trans e2) hl3
    have fs : H sa = none := hsa
    have hlen0 : (rs.map (·.1)).length = rs.length := List.length_map ..
    refine q_forR1 (n := (rs.length : Int)) (ea_cons (ev_lenR (ev_var rfl) (hv.ex e123)) ea_nil) (by omega) (fun k σ' H' => ∃ (y : Option V) (y5 y6 : Option V) (N : List Cow) (S : List Int), σ' = [some v, some (.ref sa), some (.ref ta), some (.ref l), y, y5, y6] ∧ H' l = some (.lst (idsV N)) ∧ H' sa = some (.lst (S.map V.int)) ∧ H' ta = some (.lst ((rs.map (·.2)).map V.int)) ∧ Kept S (rs.map (·.2)) N ∧ (∀ j, k ≤ j → S[j]? = (rs.map (·.1))[j]?) ∧ (∀ x ∈ N, x.1 < k) ∧ N.length = k ∧ NfR N ∧ Steps (tag 0 rs) (N ++ tag k (rs.drop k)) ∧ Ex H H') (fun H4 e4 => ?_) (fun k σ' H4 hk hW => ?_) (fun σ' H4 hW => ?_)
    · refine ⟨none, none, none, [], rs.map (·.1), rfl, e4 _ _ h3, e4 _ _ h1', e4 _ _ h2', ⟨(fun x z => by cases z), (fun x z => by cases z)⟩, fun j _ => rfl, (fun x z => by cases z), rfl, True.intro, .refl _, e123.trans e4⟩
    · obtain ⟨y, y5, y6, N, S, rfl, w1, w2, w3, w4, w5, w6, w7, w8, w9, w10⟩ := hW
      have hk' : k < rs.length := by omega
      have gk := List.getElem?_eq_getElem hk'
      obtain ⟨g1, g2⟩ := rows_get rs k _ gk
      refine ⟨.ref l, rfl, .ref sa, rfl, .ref ta, rfl, .int (k : Int), rfl, l, sa, ta, N, S, rs.map (·.2), k, rs[k].1, rs[k].2, rfl, w1, w2, w3, ne1, ne2, ne3, w4, by rw [w5 k (Nat.le_refl _)]; exact g1, g2, fun x hx => by have := w6 x hx; omega, by omega, ht _ (List.getElem_mem hk'), w8, fun A B s5 H5 hAB st nf h5 h6 x5 => ?_⟩
      have hSk : S[k]? = some rs[k].1 := by
        rw [w5 k (Nat.le_refl _)]
        exact g1
      have hmem : ∀ x ∈ A ++ (k, (s5, rs[k].2)) :: B, x = (k, (s5, rs[k].2)) ∨ x ∈ N := fun x hx => by
        rw [hAB]
        rcases List.mem_append.mp hx with h | h
        · exact .inr (List.mem_append_left _ h)
        · rcases List.mem_cons.mp h with h | h
          · exact .inl h
          · exact .inr (List.mem_append_right _ h)
      refine ⟨_, y5, y6, A ++ (k, (s5, rs[k].2)) :: B, S.set k s5, rfl, h5, h6, x5 _ _ (Ne.symm ne2) (Ne.symm ne3) w3, ⟨fun x hx => ?_, fun x hx => ?_⟩, fun j hj => ?_, fun x hx => ?_, ?_, nf, ?_, fun c o hc => ?_⟩
      · rcases hmem x hx with rfl | hx
        · exact set_at hSk
        · rw [set_off (by have := w6 x hx; omega)]
          exact w4.s x hx
      · rcases hmem x hx with rfl | hx
        · exact g2
        · exact w4.t x hx
      · rw [set_off (by omega)]
        exact w5 j (by omega)
      · rcases hmem x hx with rfl | hx
        · exact Nat.lt_succ_self _
        · have := w6 x hx
          omega
      · have e0 := w7
        rw [hAB, List.length_append] at e0
        rw [List.length_append, List.length_cons]
        omega
      · have e0 := tag_split 0 k rs _ gk
        rw [Nat.zero_add] at e0
        rw [e0] at w9
        refine w9.trans ?_
        have := st.under [] (tag (k + 1) (rs.drop (k + 1)))
        simpa using this
      · refine x5 c o (fun z => ?_) (fun z => ?_) (w10 _ _ hc)
        · subst z
          rw [fl] at hc
          cases hc
        · subst z
          rw [fs] at hc
          cases hc
    · obtain ⟨y, y5, y6, N, S, rfl, w1, w2, w3, w4, w5, w6, w7, w8, w9, w10⟩ := hW
      refine ⟨.ref l, rfl, .ref sa, rfl, .ref ta, rfl, l, sa, ta, N, S, rs.map (·.2), rfl, w1, w2, w3, w4, by omega, fun qq H5 e5 la => q qq H5 N (w10.trans e5) la ?_ w8⟩
      rw [show ((rs.length : Int)).toNat = rs.length from rfl, List.drop_length] at w9
      have e0 : tag rs.length [] = [] := rfl
      rw [e0, List.append_nil] at w9
      exact w9
theorem ok_first {f f1 f2 : Addr} {fd fd1 fd2 : FuncData} (F : FnP K "first" s_first f fd) (g : mg "first" = some (.ref f)) (b : Binds K fd ["row"] []) (h_fall_all : Has P w K mg base 1 "fall_all" ["line", "strengths", "tolls", "who"] spFallAll f1 fd1) (h_row_and_order : Has P w K mg base 1 "row_and_order" ["line", "strengths", "tolls"] (spRowOrder K) f2 fd2) (m_range : mg "range" = none) (m_len : mg "len" = none) (m_reversed : mg "reversed" = none) :
    Has P w K mg base 2 "first" ["row"] (spFirst K) f fd := by
  refine ⟨F.ok sc_first (fun vs H Q E h => ?_) (fun cdv A outer s H vs Q E hr h => ?_), g, F.kp, b⟩
  · obtain ⟨v, rs, rfl, _⟩ := h
    rfl
  · obtain ⟨v, rs, rfl, hv, hl, ht, q⟩ := h
    refine ⟨_, PSs.nox (pss_cons (ps_setLc (i := 1) (own := [("strength", 5), ("toll", 6)]) (g := gTup K 2 (gCons (gName 5) (gCons (gName 6) gNil))) (by rfl) sc_first.nd rfl rfl (sw_true rfl rfl rfl (by decide +kernel)) (pi_tup (pv 0)) (blkOk_by (own := [("strength", 5), ("toll", 6)]) (N := ["row", "strengths", "tolls", "line", "who", "strength", "toll"]) (sc := defScope s_first) (by decide +kernel)) (fun _ _ _ _ _ => (pg_tup rfl (pgs_cons (pg_name (i := 5) sc_first.nd rfl (Or.inl rfl)) (pgs_cons (pg_name (i := 6) sc_first.nd rfl (Or.inl rfl)) pgs_nil)))) (fun _ _ _ _ _ => pts_nil) (fun _ _ _ _ _ => (pv 5)))
      (pss_cons (ps_setLc (i := 2) (own := [("strength", 5), ("toll", 6)]) (g := gTup K 2 (gCons (gName 5) (gCons (gName 6) gNil))) (by rfl) sc_first.nd rfl rfl (sw_true rfl rfl rfl (by decide +kernel)) (pi_tup (pv 0)) (blkOk_by (own := [("strength", 5), ("toll", 6)]) (N := ["row", "strengths", "tolls", "line", "who", "strength", "toll"]) (sc := defScope s_first) (by decide +kernel)) (fun _ _ _ _ _ => (pg_tup rfl (pgs_cons (pg_name (i := 5) sc_first.nd rfl (Or.inl rfl)) (pgs_cons (pg_name (i := 6) sc_first.nd rfl (Or.inl rfl)) pgs_nil)))) (fun _ _ _ _ _ => pts_nil) (fun _ _ _ _ _ => (pv 6)))
      (pss_cons (ps_set (i := 3) sc_first.nd rfl (.inl rfl) (pe_lst pa_nil))
      (pss_cons (ps_for PassesOwn.never rfl (pi_revR (by rfl) m_reversed (prg_1 (by rfl) m_range (pe_callB call_len_seq (by rfl) m_len PySem.boot_len (pa_cons (pv 0) pa_nil)))) (pg_name (i := 4) sc_first.nd rfl (Or.inl rfl))
        (pss_one (ps_expr (pe_call h_fall_all.G (hr.mono (by decide)) (by rfl) h_fall_all.g h_fall_all.kp h_fall_all.b .nil pass0 (pa_cons (pv 3) (pa_cons (pv 1) (pa_cons (pv 2) (pa_cons (pv 4) pa_nil))))))))
      (pss_one (ps_ret (pe_call h_row_and_order.G (hr.mono (by decide)) (by rfl) h_row_and_order.g h_row_and_order.kp h_row_and_order.b .nil pass0 (pa_cons (pv 3) (pa_cons (pv 1) (pa_cons (pv 2) pa_nil)))))))))), ?_⟩
    refine q_asgL (el_unzip true hv hl (ev_var rfl) (fun x y => rfl) (fun x y => rfl)) fun sa H1 hsa e1 h1 => ?_
    refine q_asgL (el_unzip false (hv.ex e1) hl (ev_var rfl) (fun x y => rfl) (fun x y => rfl)) fun ta H2 hta e2 h2 => ?_
    refine q_asgL (el_lst ea_nil (by show 0 ≤ 100000; decide)) fun l H3 hl3 e3 h3 => ?_
    have h1' : H3 sa = some (.lst ((rs.map (·.1)).map V.int)) := by
      rw [List.map_map]
      exact e3 _ _ (e2 _ _ h1)
    have h2' : H3 ta = some (.lst ((rs.map (·.2)).map V.int)) := by
      rw [List.map_map]
      exact e3 _ _ h2
    have ne3 : sa ≠ ta := ne_of_none h1 hta
    have ne1 : l ≠ sa := (ne_of_none (e2 _ _ h1) hl3).symm
    have ne2 : l ≠ ta := (ne_of_none h2 hl3).symm
    have e123 := (e1.trans e2).trans e3
    have fl : H l = none := fresh_back (e1.trans e2) hl3
    have fs : H sa = none := hsa
    have hlen0 : (rs.map (·.1)).length = rs.length := List.length_map ..
    refine q_forRev (n := rs.length) (ev_lenR (ev_var rfl) (hv.ex e123)) (by omega) (fun i σ' H' => ∃ (y y5 y6 : Option V) (N : List Cow) (S : List Int), σ' = [some v, some (.ref sa), some (.ref ta), some (.ref l), y, y5, y6] ∧ H' l = some (.lst (idsV N)) ∧ H' sa = some (.lst (S.map V.int)) ∧ H' ta = some (.lst ((rs.map (·.2)).map V.int)) ∧ Kept S (rs.map (·.2)) N ∧ (∀ j, j < rs.length - i → S[j]? = (rs.map (·.1))[j]?) ∧ (∀ x ∈ N, rs.length - i ≤ x.1) ∧ N.length = i ∧ FfR N ∧ FSteps (tag 0 rs) (tag 0 (rs.take (rs.length - i)) ++ N) ∧ Ex H H') (fun H3' e3' => ?_) (fun i σ' H4 hi hW => ?_) (fun σ' H4 hW => ?_)
    · refine ⟨none, none, none, [], rs.map (·.1), rfl, e3' _ _ h3, e3' _ _ h1', e3' _ _ h2', ⟨(fun x z => by cases z), (fun x z => by cases z)⟩, fun j _ => rfl, (fun x z => by cases z), rfl, True.intro, ?_, e123.trans e3'⟩
      rw [Nat.sub_zero, List.take_length, List.append_nil]
      exact .refl _
    · obtain ⟨y, y5, y6, N, S, rfl, w1, w2, w3, w4, w5, w6, w7, w8, w9, w10⟩ := hW
      obtain ⟨k, hk⟩ : ∃ k, rs.length - i = k + 1 := ⟨rs.length - i - 1, by omega⟩
      have hk2 : rs.length - (i + 1) = k := by omega
      have hk' : k < rs.length := by omega
      rw [show rs.length - 1 - i = k by omega]
      have gk := List.getElem?_eq_getElem hk'
      obtain ⟨g1, g2⟩ := rows_get rs k _ gk
      have hSk : S[k]? = some rs[k].1 := by
        rw [w5 k (by omega)]
        exact g1
      have hnn : ∀ x ∈ N, x.1 ≠ k ∧ 0 ≤ x.2.2 := fun x hx => by
        refine ⟨by have := w6 x hx; omega, ?_⟩
        have := w4.t x hx
        rw [List.getElem?_map] at this
        obtain ⟨bb, hb1, hb2⟩ := Option.map_eq_some_iff.mp this
        rw [← hb2]
        exact ht bb (List.mem_of_getElem? hb1)
      refine ⟨.ref l, rfl, .ref sa, rfl, .ref ta, rfl, .int (k : Int), rfl, l, sa, ta, N, S, rs.map (·.2), k, rs[k].1, rs[k].2, rfl, w1, w2, w3, ne1, ne2, ne3, w4, hSk, g2, hnn, by omega, w8, fun A B s5 H5 hAB st nf h5 h6 x5 => ?_⟩
      have hmem : ∀ x ∈ A ++ (k, (s5, rs[k].2)) :: B, x = (k, (s5, rs[k].2)) ∨ x ∈ N := fun x hx => by
        rw [hAB]
        rcases List.mem_append.mp hx with h | h
        · exact .inr (List.mem_append_left _ h)
        · rcases List.mem_cons.mp h with h | h
          · exact .inl h
          · exact .inr (List.mem_append_right _ h)
      refine ⟨_, y5, y6, A ++ (k, (s5, rs[k].2)) :: B, S.set k s5, rfl, h5, h6, x5 _ _ (Ne.symm ne2) (Ne.symm ne3) w3, ⟨fun x hx => ?_, fun x hx => ?_⟩, fun j hj => ?_, fun x hx => ?_, ?_, nf, ?_, fun c o hc => ?_⟩
      · rcases hmem x hx with rfl | hx
        · exact set_at hSk
        · rw [set_off (by have := w6 x hx; omega)]
          exact w4.s x hx
      · rcases hmem x hx with rfl | hx
        · exact g2
        · exact w4.t x hx
      · rw [set_off (by omega)]
        exact w5 j (by omega)
      · rcases hmem x hx with rfl | hx
        · dsimp only
          omega
        · have := w6 x hx
          omega
      · have e0 := w7
        rw [hAB, List.length_append] at e0
        rw [List.length_append, List.length_cons]
        omega
      · rw [hk, tag_take gk] at w9
        rw [hk2]
        refine w9.trans ?_
        have := st.under (tag 0 (rs.take k)) []
        simpa using this
      · refine x5 c o (fun z => ?_) (fun z => ?_) (w10 _ _ hc)
        · subst z
          rw [fl] at hc
          cases hc
        · subst z
          rw [fs] at hc
          cases hc
    · obtain ⟨y, y5, y6, N, S, rfl, w1, w2, w3, w4, w5, w6, w7, w8, w9, w10⟩ := hW
      refine ⟨.ref l, rfl, .ref sa, rfl, .ref ta, rfl, l, sa, ta, N, S, rs.map (·.2), rfl, w1, w2, w3, w4, by omega, fun qq H5 e5 la => q qq H5 N (w10.trans e5) la ?_ w8⟩
      rw [Nat.sub_self] at w9
      exact w9
theorem ok_places_of {f : Addr} {fd : FuncData} (F : FnP K "places_of" s_places_of f fd) (g : mg "places_of" = some (.ref f)) (b : Binds K fd ["order"] []) (m_enumerate : mg "enumerate" = none) : Has P w K mg base 1 "places_of" ["order"] (spPlaces K) f fd := by
  refine ⟨F.ok sc_places_of (fun vs H Q E h => ?_) (fun cdv A outer s H vs Q E hr h => ?_), g, F.kp, b⟩
  · obtain ⟨o, l, rfl, _⟩ := h
    rfl
  · obtain ⟨o, l, rfl, ho, nd, hl, q⟩ := h
    have hu := room_u1 hr
    refine ⟨_, PSs.nox (pss_one (ps_ret (pe_dc (own := [("place", 1), ("who", 2)]) (g := gTup K 2 (gCons (gName 1) (gCons (gName 2) gNil))) (by rfl) sc_places_of.nd (pi_enumT (by rfl) m_enumerate (pa_cons (pv 0) pa_nil)) (blkOk_by (own := [("place", 1), ("who", 2)]) (N := ["order", "place", "who"]) (sc := defScope s_places_of) (by decide +kernel)) (fun _ _ _ _ _ => (pg_tup rfl (pgs_cons (pg_name (i := 1) sc_places_of.nd rfl (Or.inl rfl)) (pgs_cons (pg_name (i := 2) sc_places_of.nd rfl (Or.inl rfl)) pgs_nil)))) (fun _ _ _ _ _ => pts_nil) (fun _ _ _ _ _ => (pv 2)) (fun _ _ _ _ _ => (pv 1))))), ?_⟩
    have hlen : (natsV l).length = l.length := List.length_map ..
    have hget : ∀ k x : Nat, l[k]? = some x → (natsV l)[k]? = some (V.int (x : Int)) := fun k x h => by
      unfold natsV
      rw [List.getElem?_map, h]
      rfl
    refine ⟨.ref o, rfl, o, _, rfl, ho, fun Dd hDd => ?_⟩
    refine in_it (walk_enumT (xs := natsV l)) (fun k H2 => Ex H H2 ∧ ∃ kvs, H2 Dd = some (.dK kvs) ∧ PlacesD l k kvs) ⟨Ex.new hDd, [], upd_same, ⟨(fun i x hi => absurd hi (Nat.not_lt_zero _)), Nat.le_refl _⟩⟩ (fun k H2 _ p => ex_t p.1 ho) (fun k x H2 H3 hk p y => ?_) (fun H2 p => ?_)
    · obtain ⟨p1, kvs, p2, p3⟩ := p
      obtain ⟨T, x1, x2, rfl, hT, rfl, hx1, hx2⟩ := y
      have hk' : k < l.length := by rw [← hlen]; exact hk
      cases hx1
      have hx2 : (natsV l)[k]? = some x2 := hx2
      rw [hget k _ (List.getElem?_eq_getElem hk')] at hx2
      cases hx2
      have e3 : Ex H2 (upd H2 T (.tup [.int (k : Int), .int (l[k] : Int)])) := Ex.new hT
      refine ⟨T, _, rfl, st_of upd_same, rfl, _, _, rfl, _, _, rfl, rfl, rfl, ?_⟩
      refine ⟨.int (l[k] : Int), rfl, .int (k : Int), rfl, kvs, .inl (l[k] : Int), rfl, e3 _ _ p2, ?_, ?_, _, upd_same, p3.put nd (List.getElem?_eq_getElem hk')⟩
      · have := p3.few
        exact sz_lt (by omega)
      · exact Ex.mut (p1.trans e3) hDd
    · obtain ⟨p1, kvs, p2, p3⟩ := p
      rw [hlen] at p3
      exact q Dd kvs H2 hDd p1 p2 p3
theorem ok_turned_about {f f1 : Addr} {fd fd1 : FuncData} (F : FnP K "turned_about" s_turned_about f fd) (g : mg "turned_about" = some (.ref f)) (b : Binds K fd ["order"] []) (h_places_of : Has P w K mg base 1 "places_of" ["order"] (spPlaces K) f1 fd1) (m_len : mg "len" = none) (m_range : mg "range" = none) : Has P w K mg base 2 "turned_about" ["order"] (spTurnedT K) f fd := by
  refine ⟨F.ok sc_turned_about (fun vs H Q E h => ?_) (fun cdv A outer s H vs Q E hr h => ?_), g, F.kp, b⟩
  · obtain ⟨o, l, rfl, _⟩ := h
    rfl
  · obtain ⟨o, l, rfl, ho, nd, hall, hl, q⟩ := h
    have hu := room_u1 hr
    refine ⟨_, PSs.nox (pss_cons (ps_set (i := 1) sc_turned_about.nd rfl (.inr rfl) (pe_call h_places_of.G (hr.mono (by decide)) (by rfl) h_places_of.g h_places_of.kp h_places_of.b .nil pass0 (pa_cons (pv 0) pa_nil)))
      (pss_cons (ps_set (i := 2) sc_turned_about.nd rfl (.inr rfl) (pe_callB call_len_seq (by rfl) m_len PySem.boot_len (pa_cons (pv 0) pa_nil)))
      (pss_one (ps_ret (pe_lc2 (own := [("one", 3), ("other", 4)]) (vs1 := [4]) (g := gName 3) (g1 := gName 4) (by rfl) sc_turned_about.nd (pi_range1 (by rfl) m_range (pa_cons (pv 2) pa_nil)) (blkOk_by (own := [("one", 3), ("other", 4)]) (N := ["order", "place_of", "many", "one", "other"]) (sc := defScope s_turned_about) (by decide +kernel)) (by decide) (fun _ _ _ _ _ => (pg_name (i := 3) sc_turned_about.nd rfl (Or.inl rfl))) (fun _ _ _ _ _ => pts_nil) (fun _ _ _ _ _ => (pi_range2 (by rfl) m_range (pa_cons (pe_op op_add (pv 3) pe_int) (pa_cons (pv 2) pa_nil)))) (fun _ _ _ _ _ => (pg_name (i := 4) sc_turned_about.nd rfl (Or.inl rfl))) (fun _ _ _ _ _ => (pts_one (pt_cmpR op_lt (pe_dget hu (pv 1) (pv 4) (fun _ _ => rfl)) (pe_dget hu (pv 1) (pv 3) (fun _ _ => rfl)) (nomark _)))) (fun _ _ _ _ _ => (pe_tup (pa_cons (pv 3) (pa_cons (pv 4) pa_nil))))))))), ?_⟩
    have hlen : (natsV l).length = l.length := List.length_map ..
    refine ⟨.ref o, rfl, o, l, rfl, ho, nd, hl, fun Dd kvs H2 hDd p1 p2 p3 => ?_⟩
    refine q_asg (ev_lenT (K := K) (ev_var rfl) (ex_t p1 ho)) fun H3 e3 => ?_
    rw [hlen]
    have p2' := e3 _ _ p2
    have x13 := p1.trans e3
    have hpl : ∀ j : Nat, j < l.length → ∃ p : Nat, l[p]? = some j ∧ valV kvs (.inl (j : Int)) = some (.int (p : Int)) := fun j hj => by
      obtain ⟨p, hp⟩ := List.getElem?_of_mem (hall j hj)
      exact ⟨p, hp, p3.at' p j (List.getElem?_eq_some_iff.mp hp).1 hp⟩
    refine ⟨.int (l.length : Int), rfl, (l.length : Int), rfl, by omega, by omega, fun Dl hDl => ?_⟩
    refine in_it walk_range (fun i H4 => Ex H3 H4 ∧ ∃ us, H4 Dl = some (.lst us) ∧ BeastsT H4 us (tab l l.length i)) ⟨Ex.new hDl, [], upd_same, All2.nil⟩ (fun _ _ _ _ => True.intro) (fun i x H4 H5 hi p y => ?_) (fun H4 p => ?_)
    · obtain ⟨rfl, hx⟩ := y
      have hx : x = V.int ((0 : Int) + (i : Int)) := hx
      rw [Int.zero_add] at hx
      subst hx
      obtain ⟨r1, us, r2, r3⟩ := p
      have hi' : i < l.length := by omega
      obtain ⟨pi, hpi, hvi⟩ := hpl i hi'
      refine ⟨rfl, ?_⟩
      refine t_yes ?_
      refine i_rng2 (i := (i : Int) + 1) (j := (l.length : Int)) (ea_cons (ev_op (ev_var rfl) ev_c rv_I0) (ea_cons (ev_var rfl) ea_nil)) ⟨by omega, by omega, by omega, by omega⟩ fun H6 e6 => ?_
      have hn : (((l.length : Nat) : Int) - ((i : Int) + 1)).toNat = l.length - (i + 1) := by omega
      rw [hn]
      refine in_it walk_range (fun j H7 => Ex H3 H7 ∧ ∃ us, H7 Dl = some (.lst us) ∧ BeastsT H7 us (tab l l.length i ++ tabR l l.length i j)) ⟨r1.trans e6, us, e6 _ _ r2, by
          show BeastsT H6 us (tab l l.length i ++ [])
          rw [List.append_nil]
          exact BeastsT.ex' r3 e6⟩ (fun _ _ _ _ => True.intro) (fun j x H7 H8 hj p y => ?_) (fun H7 p => ?_)
      · obtain ⟨rfl, hx⟩ := y
        have ej : (i : Int) + 1 + (j : Int) = ((i + 1 + j : Nat) : Int) := by omega
        have hx : x = V.int ((i : Int) + 1 + (j : Int)) := hx
        rw [ej] at hx
        subst hx
        obtain ⟨s1, us, s2, s3⟩ := p
        obtain ⟨pj, hpj, hvj⟩ := hpl (i + 1 + j) (by omega)
        have d8 := s1 _ _ p2'
        refine ⟨rfl, ?_⟩
        refine t_ev (b := decide ((pj : Int) < (pi : Int))) (et_test (ev_op (ev_dget (k := .inl ((i + 1 + j : Nat) : Int)) (ev_var rfl) (ev_var rfl) d8 hvj) (ev_dget (k := .inl (i : Int)) (ev_var rfl) (ev_var rfl) d8 hvi) rv_I0)) fun H9 e9 => ?_
        have hb : decide ((pj : Int) < (pi : Int)) = inP l i j := by
          unfold inP
          rw [bef_iff nd hpj hpi]
          by_cases h : pj < pi
          · rw [decide_eq_true h, decide_eq_true (by omega)]
          · rw [decide_eq_false h, decide_eq_false (by omega)]
        rw [hb]
        have e10 := tabR_succ l l.length i j
        cases hin : inP l i j with
        | true =>
          rw [hin, if_pos rfl] at e10
          refine ⟨_, rfl, _, rfl, by show 2 ≤ sizeLine; decide, fun TT hT => ?_⟩
          have g1 : (upd H9 TT (.tup [.int (i : Int), .int ((i + 1 + j : Nat) : Int)])) Dl = some (.lst us) := Ex.new hT _ _ (e9 _ _ s2)
          refine ⟨us, g1, ?_, Ex.mut ((s1.trans e9).trans (Ex.new hT)) hDl, us ++ [.ref TT], upd_same, ?_⟩
          · rw [All2.len s3, List.length_append]
            have h1 := tab_len l l.length i
            have h2 := tabR_len l l.length i j
            have h3 : i * l.length ≤ 30 * 30 := Nat.mul_le_mul (by omega) hl
            exact sz_lt (by omega)
          · rw [e10, ← List.append_assoc]
            exact BeastsT.exB' (All2.app (BeastsT.ex' (BeastsT.ex' s3 e9) (Ex.new hT)) (.cons ⟨TT, rfl, upd_same⟩ .nil)) (ExB.refl _ _).upd g1
        | false =>
          rw [hin, if_neg (by decide), List.append_nil] at e10
          refine ⟨s1.trans e9, us, e9 _ _ s2, ?_⟩
          rw [e10]
          exact BeastsT.ex' s3 e9
      · obtain ⟨s1, us, s2, s3⟩ := p
        rw [← tab_succ] at s3
        exact ⟨s1, us, s2, s3⟩
    · obtain ⟨r1, us, r2, r3⟩ := p
      exact q Dl us H4 (fresh_back x13 hDl) (x13.trans r1) r2 r3
theorem ok_passings {f f1 f2 : Addr} {fd fd1 fd2 : FuncData} (F : FnP K "passings" s_passings f fd) (g : mg "passings" = some (.ref f)) (b : Binds K fd ["row"] []) (h_turned_about : Has P w K mg base 2 "turned_about" ["order"] (spTurnedT K) f1 fd1) (h_last : Has P w K mg base 2 "last" ["row"] (spLast K) f2 fd2) :
    Has P w K mg base 3 "passings" ["row"] (spPairsT K toLast) f fd := by
  refine ⟨F.ok sc_passings (fun vs H Q E h => ?_) (fun cdv A outer s H vs Q E hr h => ?_), g, F.kp, b⟩
  · obtain ⟨v, rs, rfl, _⟩ := h
    rfl
  · obtain ⟨v, rs, rfl, hv, hl, ht, q⟩ := h
    refine ⟨_, PSs.nox (pss_one (ps_ret (pe_call h_turned_about.G (hr.mono (by decide)) (by rfl) h_turned_about.g h_turned_about.kp h_turned_about.b .nil pass0 (pa_cons (pe_ix ix_tup (pe_call h_last.G (hr.mono (by decide)) (by rfl) h_last.g h_last.kp h_last.b .nil pass0 (pa_cons (pv 0) pa_nil)) pe_int (fun _ _ => rfl)) pa_nil)))), ?_⟩
    refine ⟨v, rfl, v, rs, rfl, hv, by omega, ht, fun q1 H1 L e1 la st nf => ?_⟩
    obtain ⟨v1, ot, a1, a2, a3⟩ := la.ex
    have ids := st.ids
    rw [tag_ids] at ids
    have len : (L.map (·.1)).length = rs.length := by rw [ids.length_eq, List.length_range]
    refine ⟨q1, _, 1, .ref ot, rfl, rfl, st_of a1, rfl, ?_⟩
    refine ⟨ot, L.map (·.1), rfl, by rw [← ordL_nats]; exact st_of a3, ids.nodup_iff.mpr List.nodup_range, fun x hx => ids.mem_iff.mpr (List.mem_range.mpr (by omega)), by omega, fun q2 us H2 hq2 e2 h2 h3 => ?_⟩
    rw [len] at h3
    exact q q2 us L H2 ⟨st, nf⟩ (fresh_back e1 hq2) (e1.trans e2) h2 h3
theorem ok_fallings {f f1 f2 : Addr} {fd fd1 fd2 : FuncData} (F : FnP K "fallings" s_fallings f fd) (g : mg "fallings" = some (.ref f)) (b : Binds K fd ["row"] []) (h_turned_about : Has P w K mg base 2 "turned_about" ["order"] (spTurnedT K) f1 fd1) (h_first : Has P w K mg base 2 "first" ["row"] (spFirst K) f2 fd2) :
    Has P w K mg base 3 "fallings" ["row"] (spPairsT K toFirst) f fd := by
  refine ⟨F.ok sc_fallings (fun vs H Q E h => ?_) (fun cdv A outer s H vs Q E hr h => ?_), g, F.kp, b⟩
  · obtain ⟨v, rs, rfl, _⟩ := h
    rfl
  · obtain ⟨v, rs, rfl, hv, hl, ht, q⟩ := h
    refine ⟨_, PSs.nox (pss_one (ps_ret (pe_call h_turned_about.G (hr.mono (by decide)) (by rfl) h_turned_about.g h_turned_about.kp h_turned_about.b .nil pass0 (pa_cons (pe_ix ix_tup (pe_call h_first.G (hr.mono (by decide)) (by rfl) h_first.g h_first.kp h_first.b .nil pass0 (pa_cons (pv 0) pa_nil)) pe_int (fun _ _ => rfl)) pa_nil)))), ?_⟩
    refine ⟨v, rfl, v, rs, rfl, hv, by omega, ht, fun q1 H1 L e1 la st nf => ?_⟩
    obtain ⟨v1, ot, a1, a2, a3⟩ := la.ex
    have ids := st.ids
    rw [tag_ids] at ids
    have len : (L.map (·.1)).length = rs.length := by rw [ids.length_eq, List.length_range]
    refine ⟨q1, _, 1, .ref ot, rfl, rfl, st_of a1, rfl, ?_⟩
    refine ⟨ot, L.map (·.1), rfl, by rw [← ordL_nats]; exact st_of a3, ids.nodup_iff.mpr List.nodup_range, fun x hx => ids.mem_iff.mpr (List.mem_range.mpr (by omega)), by omega, fun q2 us H2 hq2 e2 h2 h3 => ?_⟩
    rw [len] at h3
    exact q q2 us L H2 ⟨st, nf⟩ (fresh_back e1 hq2) (e1.trans e2) h2 h3
theorem ok_kept_pairs {f f1 f2 : Addr} {fd fd1 fd2 : FuncData} (F : FnP K "kept_pairs" s_kept_pairs f fd) (g : mg "kept_pairs" = some (.ref f)) (b : Binds K fd ["row"] []) (h_passings : Has P w K mg base 3 "passings" ["row"] (spPairsT K toLast) f1 fd1) (h_fallings : Has P w K mg base 3 "fallings" ["row"] (spPairsT K toFirst) f2 fd2) (m_len : mg "len" = none) (m_range : mg "range" = none) :
    Has P w K mg base 4 "kept_pairs" ["row"] (spKept K) f fd := by
  refine ⟨F.ok sc_kept_pairs (fun vs H Q E h => ?_) (fun cdv A outer s H vs Q E hr h => ?_), g, F.kp, b⟩
  · obtain ⟨v, rs, rfl, _⟩ := h
    rfl
  · obtain ⟨v, rs, rfl, hv, hl, ht, q⟩ := h
    have hu := room_u1 hr
    have hu1 := Nat.lt_of_succ_lt hu
    refine ⟨_, PSs.nox (pss_cons (ps_set (i := 1) sc_kept_pairs.nd rfl (.inr rfl) (pe_dcT hu1 (own := [("pair", 3)]) (g := gName 3) (by rfl) sc_kept_pairs.nd (pi_list (pe_op op_cat (pe_call h_passings.G (hr.mono (by decide)) (by rfl) h_passings.g h_passings.kp h_passings.b .nil pass0 (pa_cons (pv 0) pa_nil)) (pe_call h_fallings.G (hr.mono (by decide)) (by rfl) h_fallings.g h_fallings.kp h_fallings.b .nil pass0 (pa_cons (pv 0) pa_nil)))) (blkOk_by (own := [("pair", 3)]) (N := ["row", "loose", "many", "pair", "one", "other"]) (sc := defScope s_kept_pairs) (by decide +kernel)) (fun _ _ _ _ _ => (pg_name (i := 3) sc_kept_pairs.nd rfl (Or.inl rfl))) (fun _ _ _ _ _ => pts_nil) (fun _ _ _ _ _ => (pv 3)) (fun _ _ _ _ _ => pe_bl)))
      (pss_cons (ps_set (i := 2) sc_kept_pairs.nd rfl (.inr rfl) (pe_callB call_len_seq (by rfl) m_len PySem.boot_len (pa_cons (pv 0) pa_nil)))
      (pss_one (ps_ret (pe_lc2 (own := [("one", 4), ("other", 5)]) (vs1 := [5]) (g := gName 4) (g1 := gName 5) (by rfl) sc_kept_pairs.nd (pi_range1 (by rfl) m_range (pa_cons (pv 2) pa_nil)) (blkOk_by (own := [("one", 4), ("other", 5)]) (N := ["row", "loose", "many", "pair", "one", "other"]) (sc := defScope s_kept_pairs) (by decide +kernel)) (by decide) (fun _ _ _ _ _ => (pg_name (i := 4) sc_kept_pairs.nd rfl (Or.inl rfl))) (fun _ _ _ _ _ => pts_nil) (fun _ _ _ _ _ => (pi_range2 (by rfl) m_range (pa_cons (pe_op op_add (pv 4) pe_int) (pa_cons (pv 2) pa_nil)))) (fun _ _ _ _ _ => (pg_name (i := 5) sc_kept_pairs.nd rfl (Or.inl rfl))) (fun _ _ _ _ _ => (pts_one (pt_cmp (pc_dnotin hu (pe_tup (pa_cons (pv 4) (pa_cons (pv 5) pa_nil))) (pv 1))))) (fun _ _ _ _ _ => (pe_tup (pa_cons (pv 4) (pa_cons (pv 5) pa_nil))))))))), ?_⟩
    obtain ⟨E', sE, nE⟩ := nf_is (good_tag ht).tl
    obtain ⟨B', sB, nB⟩ := ff_is (good_tag ht).tl
    have t1 := tab_small (E'.map (·.1)) hl
    have t2 := tab_small (B'.map (·.1)) hl
    refine q_run ?_
    refine ed_pairs (K := K) (σ := [some v, none, none, none, none, none]) (H := H) (j := 3) (vs := [3]) (ps := tab (E'.map (·.1)) rs.length rs.length ++ tab (B'.map (·.1)) rs.length rs.length) (fun R r => ?_) (by rw [List.length_append]; omega) (fun x => rfl) (fun x => rfl) fun d kvs H1 hd e1 g1 pd => ?_
    · refine (ept_pass (K := K) (ev_var rfl) hv hl ht sE nE) H (Ex.refl H) _ fun a1 u1 H1 ha1 e1 g1 b1 => (ept_fall (K := K) (ev_var rfl) (hv.ex e1) hl ht sB nB) H1 (Ex.refl H1) _ fun a2 u2 H2 ha2 e2 g2 b2 => ?_
      refine ⟨a1, a2, u1, u2, rfl, rfl, e2 _ _ g1, g2, sz_of (by rw [All2.len b1, All2.len b2]; omega), fun c hc => ?_⟩
      have nc := Ex.new (o := .lst (u1 ++ u2)) hc
      refine r c (u1 ++ u2) _ ((e1.trans e2).trans nc) (sq_of upd_same) (fun H3 e3 => sq_of (e3 _ _ upd_same)) ?_
      exact All2.app (BeastsT.ex' b1 (e2.trans nc)) (BeastsT.ex' b2 nc)
    have hp : ∀ x : Int × Int, x ∈ tab (E'.map (·.1)) rs.length rs.length ++ tab (B'.map (·.1)) rs.length rs.length ↔ ∃ i j : Nat, i < j ∧ j < rs.length ∧ x = ((i : Int), (j : Int)) ∧ ¬ keepP (E'.map (·.1)) (B'.map (·.1)) i (j - i - 1) = true := fun x => by
      rw [List.mem_append, mem_tab, mem_tab]
      constructor
      · rintro (⟨i, j, h1, h2, h3, h4⟩ | ⟨i, j, h1, h2, h3, h4⟩)
        · refine ⟨i, j, h1, h2, h3, fun z => ?_⟩
          rw [((keep_iff h1).mp z).1] at h4
          cases h4
        · refine ⟨i, j, h1, h2, h3, fun z => ?_⟩
          rw [((keep_iff h1).mp z).2] at h4
          cases h4
      · rintro ⟨i, j, h1, h2, h3, h4⟩
        rw [keep_iff h1] at h4
        cases c1 : bef (E'.map (·.1)) j i with
        | true => exact .inl ⟨i, j, h1, h2, h3, c1⟩
        | false =>
          cases c2 : bef (B'.map (·.1)) j i with
          | true => exact .inr ⟨i, j, h1, h2, h3, c2⟩
          | false => exact absurd ⟨c1, c2⟩ h4
    refine q_asg (ev_lenR (K := K) (ev_var rfl) (hv.ex e1)) fun H3 e3 => ?_
    have d3 := e3 _ _ g1
    refine ⟨.int (rs.length : Int), rfl, (rs.length : Int), rfl, by omega, by omega, fun Dl hDl => ?_⟩
    refine in_it walk_range (fun i H4 => Ex H3 H4 ∧ ∃ us, H4 Dl = some (.lst us) ∧ BeastsT H4 us (tabP (keepP (E'.map (·.1)) (B'.map (·.1))) rs.length i)) ⟨Ex.new hDl, [], upd_same, All2.nil⟩ (fun _ _ _ _ => True.intro) (fun i x H4 H5 hi p y => ?_) (fun H4 p => ?_)
    · obtain ⟨rfl, hx⟩ := y
      have hx : x = V.int ((0 : Int) + (i : Int)) := hx
      rw [Int.zero_add] at hx
      subst hx
      obtain ⟨r1, us, r2, r3⟩ := p
      have hi' : i < rs.length := by omega
      refine ⟨rfl, t_yes ?_⟩
      refine i_rng2 (i := (i : Int) + 1) (j := (rs.length : Int)) (ea_cons (ev_op (ev_var rfl) ev_c rv_I0) (ea_cons (ev_var rfl) ea_nil)) ⟨by omega, by omega, by omega, by omega⟩ fun H6 e6 => ?_
      have hn : (((rs.length : Nat) : Int) - ((i : Int) + 1)).toNat = rs.length - (i + 1) := by omega
      rw [hn]
      refine in_it walk_range (fun j H7 => Ex H3 H7 ∧ ∃ us, H7 Dl = some (.lst us) ∧ BeastsT H7 us (tabP (keepP (E'.map (·.1)) (B'.map (·.1))) rs.length i ++ tabPR (keepP (E'.map (·.1)) (B'.map (·.1))) i j)) ⟨r1.trans e6, us, e6 _ _ r2, by
          show BeastsT H6 us (tabP (keepP (E'.map (·.1)) (B'.map (·.1))) rs.length i ++ [])
          rw [List.append_nil]
          exact BeastsT.ex' r3 e6⟩ (fun _ _ _ _ => True.intro) (fun j x H7 H8 hj p y => ?_) (fun H7 p => ?_)
      · obtain ⟨rfl, hx⟩ := y
        have ej : (i : Int) + 1 + (j : Int) = ((i + 1 + j : Nat) : Int) := by omega
        have hx : x = V.int ((i : Int) + 1 + (j : Int)) := hx
        rw [ej] at hx
        subst hx
        obtain ⟨s1, us, s2, s3⟩ := p
        refine ⟨rfl, ?_⟩
        refine t_ev (b := !decide ((((i : Int), ((i + 1 + j : Nat) : Int)) : Int × Int) ∈ tab (E'.map (·.1)) rs.length rs.length ++ tab (B'.map (·.1)) rs.length rs.length)) (et_dnotin (b := ((i : Int), ((i + 1 + j : Nat) : Int))) (key_new (ev_var rfl) (ev_var rfl)) (ev_var rfl) (s1 _ _ d3) pd) fun H9 e9 => ?_
        have hb : (!decide ((((i : Int), ((i + 1 + j : Nat) : Int)) : Int × Int) ∈ tab (E'.map (·.1)) rs.length rs.length ++ tab (B'.map (·.1)) rs.length rs.length)) = keepP (E'.map (·.1)) (B'.map (·.1)) i j := by
          have := hp ((i : Int), ((i + 1 + j : Nat) : Int))
          cases hk : keepP (E'.map (·.1)) (B'.map (·.1)) i j with
          | true =>
            rw [decide_eq_false]
            · rfl
            · intro z
              obtain ⟨i', j', h1, h2, h3, h4⟩ := this.mp z
              obtain ⟨e1, e2⟩ := pair_inj h3
              subst e1 e2
              rw [show i + 1 + j - i - 1 = j by omega] at h4
              exact h4 hk
          | false =>
            rw [decide_eq_true]
            · rfl
            · refine this.mpr ⟨i, i + 1 + j, by omega, by omega, rfl, ?_⟩
              rw [show i + 1 + j - i - 1 = j by omega, hk]
              decide
        rw [hb]
        have e10 := tabPR_succ (keepP (E'.map (·.1)) (B'.map (·.1))) i j
        cases hin : keepP (E'.map (·.1)) (B'.map (·.1)) i j with
        | true =>
          rw [hin, if_pos rfl] at e10
          refine ⟨_, rfl, _, rfl, by show 2 ≤ sizeLine; decide, fun TT hT => ?_⟩
          have g9 : (upd H9 TT (.tup [.int (i : Int), .int ((i + 1 + j : Nat) : Int)])) Dl = some (.lst us) := Ex.new hT _ _ (e9 _ _ s2)
          refine ⟨us, g9, ?_, Ex.mut ((s1.trans e9).trans (Ex.new hT)) hDl, us ++ [.ref TT], upd_same, ?_⟩
          · rw [All2.len s3, List.length_append]
            have h1 := tabP_len (keepP (E'.map (·.1)) (B'.map (·.1))) rs.length i
            have h2 := tabPR_len (keepP (E'.map (·.1)) (B'.map (·.1))) i j
            have h3 : i * rs.length ≤ 30 * 30 := Nat.mul_le_mul (by omega) hl
            exact sz_lt (by omega)
          · rw [e10, ← List.append_assoc]
            exact BeastsT.exB' (All2.app (BeastsT.ex' (BeastsT.ex' s3 e9) (Ex.new hT)) (.cons ⟨TT, rfl, upd_same⟩ .nil)) (ExB.refl _ _).upd g9
        | false =>
          rw [hin, if_neg (by decide), List.append_nil] at e10
          refine ⟨s1.trans e9, us, e9 _ _ s2, ?_⟩
          rw [e10]
          exact BeastsT.ex' s3 e9
      · obtain ⟨s1, us, s2, s3⟩ := p
        rw [← tabP_succ] at s3
        exact ⟨s1, us, s2, s3⟩
    · obtain ⟨r1, us, r2, r3⟩ := p
      exact q Dl us E' B' H4 sE nE sB nB (fresh_back (e1.trans e3) hDl) ((e1.trans e3).trans r1) r2 r3
theorem ok_first_not_kept {f f1 f2 : Addr} {fd fd1 fd2 : FuncData} (F : FnP K "first_not_kept" s_first_not_kept f fd) (g : mg "first_not_kept" = some (.ref f)) (b : Binds K fd ["row", "order"] []) (h_places_of : Has P w K mg base 1 "places_of" ["order"] (spPlaces K) f1 fd1) (h_kept_pairs : Has P w K mg base 4 "kept_pairs" ["row"] (spKept K) f2 fd2) : Has P w K mg base 5 "first_not_kept" ["row", "order"] (spNone K) f fd := by
  refine ⟨F.ok sc_first_not_kept (fun vs H Q E h => ?_) (fun cdv A outer s H vs Q E hr h => ?_), g, F.kp, b⟩
  · obtain ⟨v, o, rs, L, rfl, _⟩ := h
    rfl
  · obtain ⟨v, o, rs, L, rfl, W, q⟩ := h
    have hu := room_u1 hr
    refine ⟨_, PSs.nox (pss_cons (ps_set (i := 2) sc_first_not_kept.nd rfl (.inl rfl) (pe_call h_places_of.G (hr.mono (by decide)) (by rfl) h_places_of.g h_places_of.kp h_places_of.b .nil pass0 (pa_cons (pv 1) pa_nil)))
      (pss_cons (ps_for PassesOwn.never rfl (pi_list (pe_call h_kept_pairs.G (hr.mono (by decide)) (by rfl) h_kept_pairs.g h_kept_pairs.kp h_kept_pairs.b .nil pass0 (pa_cons (pv 0) pa_nil))) (pg_tup rfl (pgs_cons (pg_name (i := 3) sc_first_not_kept.nd rfl (Or.inl rfl)) (pgs_cons (pg_name (i := 4) sc_first_not_kept.nd rfl (Or.inl rfl)) pgs_nil)))
        (pss_one (ps_if (pt_cmpR op_lt (pe_dget hu (pv 2) (pv 4) (fun _ _ => rfl)) (pe_dget hu (pv 2) (pv 3) (fun _ _ => rfl)) (nomark _)) (pss_one (ps_ret (pe_tup (pa_cons (pv 3) (pa_cons (pv 4) pa_nil))))) pss_nil)))
      (pss_one (ps_ret pe_non)))), ?_⟩
    have lenL := W.lenL
    refine ⟨.ref o, rfl, o, L.map (·.1), rfl, W.ord, W.nd, by rw [lenL]; exact W.len, fun Dd kvs H2 hDd p1 p2 p3 => ?_⟩
    refine ⟨v, rfl, v, rs, rfl, W.row.ex p1, W.len, W.tl, fun q2 us E' B' H3 sE nE sB nB hq2 e3 g3 bs => ?_⟩
    obtain ⟨ds, run⟩ := W.run
    have hpl : ∀ j : Nat, j < rs.length → ∃ p : Nat, (L.map (·.1))[p]? = some j ∧ valV kvs (.inl (j : Int)) = some (.int (p : Int)) := fun j hj => by
      obtain ⟨p, hp⟩ := List.getElem?_of_mem (W.all j (by rw [lenL]; exact hj))
      exact ⟨p, hp, p3.at' p j (List.getElem?_eq_some_iff.mp hp).1 hp⟩
    refine ⟨q2, rfl, ⟨_, sq_of g3⟩, ?_⟩
    refine for_list (K := K) (xs := us) (fun k σ' H' => ∃ (y3 y4 : Option V), σ' = [some v, some (.ref o), some (.ref Dd), y3, y4] ∧ Ex H3 H') ⟨_, _, rfl, Ex.refl _⟩ (fun k σ' H' _ hW => ?_) (fun k x σ' H4 hx hW => ?_) (fun σ' H4 hW => ?_)
    · obtain ⟨y3, y4, rfl, c⟩ := hW
      exact sq_of (c _ _ g3)
    · obtain ⟨y3, y4, rfl, e4⟩ := hW
      obtain ⟨pr, hpr, T, rfl, hT⟩ := BeastsT.at' bs hx
      obtain ⟨i, j, h1, h2, rfl, hk⟩ := mem_tabP.mp (List.mem_of_getElem? hpr)
      obtain ⟨k1, k2⟩ := (keep_iff h1).mp hk
      have hL := kept_stays W.tl run sE nE sB nB h1 h2 k1 k2
      obtain ⟨pi, hpi, hvi⟩ := hpl i (by omega)
      obtain ⟨pj, hpj, hvj⟩ := hpl j h2
      rw [bef_iff W.nd hpj hpi] at hL
      have hlt := of_decide_eq_false hL
      refine ⟨T, _, rfl, st_of (e4 _ _ hT), rfl, _, _, rfl, _, _, rfl, rfl, ?_⟩
      have d4 := (e3.trans e4) _ _ p2
      refine s_when (b := false) (et_is (et_test (ev_op (ev_dget (k := .inl (j : Int)) (ev_var rfl) (ev_var rfl) d4 hvj) (ev_dget (k := .inl (i : Int)) (ev_var rfl) (ev_var rfl) d4 hvi) rv_I0)) (decide_eq_false (by omega))) (fun z => by cases z) fun _ H5 e5 => ?_
      exact ⟨_, _, rfl, e4.trans e5⟩
    · obtain ⟨y3, y4, rfl, e4⟩ := hW
      exact q H4 ((p1.trans e3).trans e4)
theorem ok_refuse_not_kept {f f1 : Addr} {fd fd1 : FuncData} (F : FnP K "refuse_not_kept" s_refuse_not_kept f fd) (g : mg "refuse_not_kept" = some (.ref f)) (b : Binds K fd ["row", "order"] []) (h_first_not_kept : Has P w K mg base 5 "first_not_kept" ["row", "order"] (spNone K) f1 fd1) : Has P w K mg base 6 "refuse_not_kept" ["row", "order"] (spNone K) f fd := by
  refine ⟨F.ok sc_refuse_not_kept (fun vs H Q E h => ?_) (fun cdv A outer s H vs Q E hr h => ?_), g, F.kp, b⟩
  · obtain ⟨v, o, rs, L, rfl, _⟩ := h
    rfl
  · obtain ⟨v, o, rs, L, rfl, W, q⟩ := h
    refine ⟨_, PSs.nox (pss_cons (ps_set (i := 2) sc_refuse_not_kept.nd rfl (.inl rfl) (pe_call h_first_not_kept.G (hr.mono (by decide)) (by rfl) h_first_not_kept.g h_first_not_kept.kp h_first_not_kept.b .nil pass0 (pa_cons (pv 0) (pa_cons (pv 1) pa_nil))))
      (pss_one (ps_if (pt_cmpR op_notN (pv 2) pe_non (nomark _)) (pss_one ps_never) pss_nil))), ?_⟩
    refine ⟨v, rfl, .ref o, rfl, v, o, rs, L, rfl, W, fun H2 e2 => ?_⟩
    refine ⟨.non, rfl, rfl, false, by rw [decide_eq_true rfl]; rfl, ?_⟩
    exact q H2 e2
theorem ok_how_far {f f1 f2 : Addr} {fd fd1 fd2 : FuncData} (F : FnP K "how_far" s_how_far f fd) (g : mg "how_far" = some (.ref f)) (b : Binds K fd ["row", "order"] []) (h_refuse_not_kept : Has P w K mg base 6 "refuse_not_kept" ["row", "order"] (spNone K) f1 fd1) (h_turned_about : Has P w K mg base 2 "turned_about" ["order"] (spTurnedT K) f2 fd2) (m_len : mg "len" = none) : Has P w K mg base 7 "how_far" ["row", "order"] (spHowFar K) f fd := by
  refine ⟨F.ok sc_how_far (fun vs H Q E h => ?_) (fun cdv A outer s H vs Q E hr h => ?_), g, F.kp, b⟩
  · obtain ⟨v, o, rs, L, rfl, _⟩ := h
    rfl
  · obtain ⟨v, o, rs, L, rfl, W, q⟩ := h
    refine ⟨_, PSs.nox (pss_cons (ps_expr (pe_call h_refuse_not_kept.G (hr.mono (by decide)) (by rfl) h_refuse_not_kept.g h_refuse_not_kept.kp h_refuse_not_kept.b .nil pass0 (pa_cons (pv 0) (pa_cons (pv 1) pa_nil))))
      (pss_one (ps_ret (pe_callB call_len_seq (by rfl) m_len PySem.boot_len (pa_cons (pe_call h_turned_about.G (hr.mono (by decide)) (by rfl) h_turned_about.g h_turned_about.kp h_turned_about.b .nil pass0 (pa_cons (pv 1) pa_nil)) pa_nil))))), ?_⟩
    have lenL := W.lenL
    refine ⟨v, rfl, .ref o, rfl, v, o, rs, L, rfl, W, fun H2 e2 => ?_⟩
    have W2 := W.ex e2
    refine ⟨.ref o, rfl, o, L.map (·.1), rfl, W2.ord, W.nd, W.all, by rw [lenL]; exact W.len, fun q2 us H3 hq2 e3 g3 bs => ⟨q2, us, rfl, .inl (sq_of g3), ?_⟩⟩
    rw [lenL] at bs
    rw [All2.len bs]
    exact q H3 (e2.trans e3)
theorem ok_deeds_toward {f f1 f2 f3 : Addr} {fd fd1 fd2 fd3 : FuncData} (F : FnP K "deeds_toward" s_deeds_toward f fd) (g : mg "deeds_toward" = some (.ref f)) (b : Binds K fd ["row", "order"] []) (h_places_of : Has P w K mg base 1 "places_of" ["order"] (spPlaces K) f1 fd1) (h_can_fall : Has P w K mg base 1 "can_fall" ["row", "place"] (spCanFall K) f2 fd2) (h_can_pass : Has P w K mg base 1 "can_pass" ["row", "place"] (spCanPass K) f3 fd3) (m_len : mg "len" = none) (m_range : mg "range" = none) : Has P w K mg base 2 "deeds_toward" ["row", "order"] (spDeeds K) f fd := by
  refine ⟨F.ok sc_deeds_toward (fun vs H Q E h => ?_) (fun cdv A outer s H vs Q E hr h => ?_), g, F.kp, b⟩
  · obtain ⟨v, o, rs, L, rfl, _⟩ := h
    rfl
  · obtain ⟨v, o, rs, L, rfl, W, l0, q⟩ := h
    have hu := room_u1 hr
    refine ⟨_, PSs.nox (pss_cons (ps_set (i := 2) sc_deeds_toward.nd rfl (.inr rfl) (pe_call h_places_of.G (hr.mono (by decide)) (by rfl) h_places_of.g h_places_of.kp h_places_of.b .nil pass0 (pa_cons (pv 1) pa_nil)))
      (pss_cons (ps_setLc (i := 3) (own := [("place", 5)]) (g := gName 5) (by rfl) sc_deeds_toward.nd rfl rfl (sw_true rfl rfl rfl (by decide +kernel)) (pi_range1 (by rfl) m_range (pa_cons (pe_op op_sub (pe_callB call_len_seq (by rfl) m_len PySem.boot_len (pa_cons (pv 0) pa_nil)) pe_int) pa_nil)) (blkOk_by (own := [("place", 5)]) (N := ["row", "order", "place_of", "places", "falls", "place"]) (sc := defScope s_deeds_toward) (by decide +kernel)) (fun _ _ _ _ _ => (pg_name (i := 5) sc_deeds_toward.nd rfl (Or.inl rfl))) (fun _ _ _ _ _ => (pts_one (pt_cmpR op_lt (pe_dget hu (pv 2) (pe_op op_add (pv 5) pe_int) (fun _ _ => rfl)) (pe_dget hu (pv 2) (pv 5) (fun _ _ => rfl)) (nomark _)))) (fun _ _ _ _ _ => (pv 5)))
      (pss_cons (ps_setLc (i := 4) (own := [("place", 5)]) (g := gName 5) (by rfl) sc_deeds_toward.nd rfl rfl (sw_true rfl rfl rfl (by decide +kernel)) (pi_list (pv 3)) (blkOk_by (own := [("place", 5)]) (N := ["row", "order", "place_of", "places", "falls", "place"]) (sc := defScope s_deeds_toward) (by decide +kernel)) (fun _ _ _ _ _ => (pg_name (i := 5) sc_deeds_toward.nd rfl (Or.inl rfl))) (fun _ _ _ _ _ => (pts_one (pt_val (pe_call h_can_fall.G (hr.mono (by decide)) (by rfl) h_can_fall.g h_can_fall.kp h_can_fall.b .nil pass0 (pa_cons (pv 0) (pa_cons (pv 5) pa_nil)))))) (fun _ _ _ _ _ => (pe_tup (pa_cons pe_str (pa_cons (pv 5) pa_nil)))))
      (pss_one (ps_ret (pe_op op_cat (pv 4) (pe_lc (own := [("place", 5)]) (g := gName 5) (by rfl) sc_deeds_toward.nd (pi_list (pv 3)) (blkOk_by (own := [("place", 5)]) (N := ["row", "order", "place_of", "places", "falls", "place"]) (sc := defScope s_deeds_toward) (by decide +kernel)) (fun _ _ _ _ _ => (pg_name (i := 5) sc_deeds_toward.nd rfl (Or.inl rfl))) (fun _ _ _ _ _ => (pts_one (pt_val (pe_call h_can_pass.G (hr.mono (by decide)) (by rfl) h_can_pass.g h_can_pass.kp h_can_pass.b .nil pass0 (pa_cons (pv 0) (pa_cons (pe_op op_add (pv 5) pe_int) pa_nil)))))) (fun _ _ _ _ _ => (pe_tup (pa_cons pe_str (pa_cons (pe_op op_add (pv 5) pe_int) pa_nil))))))))))), ?_⟩
    have lenL := W.lenL
    have wl := W.len
    refine ⟨.ref o, rfl, o, L.map (·.1), rfl, W.ord, W.nd, by omega, fun Dd kvs H2 hDd e2 g2 pd => ?_⟩
    have W2 := W.ex e2
    have hpl : ∀ j : Nat, j < rs.length → ∃ p : Nat, (L.map (·.1))[p]? = some j ∧ valV kvs (.inl (j : Int)) = some (.int (p : Int)) := fun j hj => by
      obtain ⟨p, hp⟩ := List.getElem?_of_mem (W.all j (by omega))
      exact ⟨p, hp, pd.at' p j (List.getElem?_eq_some_iff.mp hp).1 hp⟩
    refine g_at [some v, some (.ref o), some (.ref Dd), none, none, none] rfl ?_
    have key := el_lcR1 (σ := [some v, some (.ref o), some (.ref Dd), none, none, none]) (H := H2) (j := 5) (vs := [5]) (n := (rs.length : Int) - 1) (ta := tCons (tOp (rI0 fun i j => .int (i - j)) (tCB (rLenS K) (tCons (tVar 0) tNil)) (tC (.int 1))) tNil) (t := tTest (tOp (rI0 fun i j => .bl (decide (i < j))) (tDGet (tVar 2) (tOp (rI0 fun i j => .int (i + j)) (tVar 5) (tC (.int 1)))) (tDGet (tVar 2) (tVar 5)))) (te := tVar 5) (fun p => bef (L.map (·.1)) (p + 1) p) (fun p => .int (p : Int)) (ea_cons (ev_op (ev_lenR (K := K) (ev_var rfl) W2.row) ev_c rv_I0) ea_nil) ⟨by omega, by omega⟩ (fun x => rfl) (fun i H3 e3 hi => ?_) (fun i H3 e3 hi _ => ev_var rfl)
    · have en : ((rs.length : Int) - 1).toNat = rs.length - 1 := by omega
      rw [en] at key
      have key : EvL _ _ _ (natsV (adjL (L.map (·.1)) (rs.length - 1))) := key
      have lenA : (adjL (L.map (·.1)) (rs.length - 1)).length ≤ 30 := by
        unfold adjL
        have := List.length_filter_le (fun p => bef (L.map (·.1)) (p + 1) p) (List.range (rs.length - 1))
        rw [List.length_range] at this
        omega
      have inA : ∀ x ∈ adjL (L.map (·.1)) (rs.length - 1), x + 1 < rs.length := fun x hx => by
        have := (mem_adj.mp hx).1
        omega
      refine q_asgL key fun pl H3 hpl e3 g3 => ?_
      refine s_at [some v, some (.ref o), some (.ref Dd), some (.ref pl), none, none] rfl ?_
      refine q_run ?_
      refine edd_lc (K := K) (o := pl) (l := adjL (L.map (·.1)) (rs.length - 1)) (σ := [some v, some (.ref o), some (.ref Dd), some (.ref pl), none, none]) (H := H3) (te := tVar 3) (j := 5) (vs := [5]) (t1 := tC (.str "fall")) (t2 := tVar 5) (tt := tB (tCall (spCanFall K) [] E0 (tCons (tVar 0) (tCons (tVar 5) tNil)))) false (fallB rs) (fun p => p) (ev_var rfl) (sq_of g3) (by omega) (fun x => rfl) (fun x hx H4 e4 => ?_) (fun x hx H4 e4 => ev_c) (fun x hx H4 e4 => ev_var rfl) (Ex.refl H3) _ fun fa u1 H4 hfa e4 g4 b4 => ?_
      · exact et_B (ev_call (ea_cons (ev_var rfl) (ea_cons (ev_var rfl) ea_nil)) (fun H1 e1 Q q E => ⟨v, rs, x, rfl, (W2.ex (e3.trans (e4.trans e1))).row, by have := inA x hx; omega, q⟩))
      refine s_at [some v, some (.ref o), some (.ref Dd), some (.ref pl), some (.ref fa), none] rfl ?_
      refine ⟨.ref fa, rfl, ?_⟩
      refine edd_lc (K := K) (o := pl) (l := adjL (L.map (·.1)) (rs.length - 1)) (σ := [some v, some (.ref o), some (.ref Dd), some (.ref pl), some (.ref fa), none]) (H := H4) (te := tVar 3) (j := 5) (vs := [5]) (t1 := tC (.str "pass")) (t2 := tOp (rI0 fun i j => .int (i + j)) (tVar 5) (tC (.int 1))) (tt := tB (tCall (spCanPass K) [] E0 (tCons (tVar 0) (tCons (tOp (rI0 fun i j => .int (i + j)) (tVar 5) (tC (.int 1))) tNil)))) true (fun p => letsN rs (p + 1)) (fun p => p + 1) (ev_var rfl) (sq_of (e4 _ _ g3)) (by omega) (fun x => rfl) (fun x hx H5 e5 => ?_) (fun x hx H5 e5 => ev_c) (fun x hx H5 e5 => ev_op (ev_var rfl) ev_c rv_I0) (Ex.refl H4) _ fun fb u2 H5 hfb e5 g5 b5 => ?_
      · exact et_B (ev_call (ea_cons (ev_var rfl) (ea_cons (ev_op (ev_var rfl) ev_c rv_I0) ea_nil)) (fun H1 e1 Q q E => ⟨v, rs, x + 1, rfl, (W2.ex ((e3.trans e4).trans (e5.trans e1))).row, inA x hx, q⟩))
      have b4' := deeds_ex e5 b4
      refine ⟨fa, fb, u1, u2, rfl, rfl, e5 _ _ g4, g5, sz_of (by
        have h1 := List.length_filter_le (fallB rs) (adjL (L.map (·.1)) (rs.length - 1))
        have h2 := List.length_filter_le (fun p => letsN rs (p + 1)) (adjL (L.map (·.1)) (rs.length - 1))
        rw [All2.len b4, All2.len b5, List.length_map, List.length_map]
        omega), fun c hc => ?_⟩
      have nc := Ex.new (o := .lst (u1 ++ u2)) hc
      have e25 := (e3.trans e4).trans e5
      exact q c (u1 ++ u2) _ (fresh_back e2 (fresh_back e25 hc)) (e2.trans (e25.trans nc)) upd_same (deeds_ex nc (All2.app b4' b5))
    · obtain ⟨pi, hpi, hvi⟩ := hpl i (by omega)
      obtain ⟨pj, hpj, hvj⟩ := hpl (i + 1) (by omega)
      have d3 := e3 _ _ g2
      refine et_is (et_test (ev_op (ev_dget (k := .inl ((i + 1 : Nat) : Int)) (ev_var rfl) (ev_op (ev_var rfl) ev_c rv_I0) d3 hvj) (ev_dget (k := .inl (i : Int)) (ev_var rfl) (ev_var rfl) d3 hvi) rv_I0)) ?_
      rw [bef_iff W.nd hpj hpi]
      exact decide_eq_decide.mpr (by omega)
theorem ok_nearer {f f1 f2 : Addr} {fd fd1 fd2 : FuncData} (F : FnP K "nearer" s_nearer f fd) (g : mg "nearer" = some (.ref f)) (b : Binds K fd ["row", "order"] []) (h_refuse_not_kept : Has P w K mg base 6 "refuse_not_kept" ["row", "order"] (spNone K) f1 fd1) (h_deeds_toward : Has P w K mg base 2 "deeds_toward" ["row", "order"] (spDeeds K) f2 fd2) : Has P w K mg base 7 "nearer" ["row", "order"] (spDeeds K) f fd := by
  refine ⟨F.ok sc_nearer (fun vs H Q E h => ?_) (fun cdv A outer s H vs Q E hr h => ?_), g, F.kp, b⟩
  · obtain ⟨v, o, rs, L, rfl, _⟩ := h
    rfl
  · obtain ⟨v, o, rs, L, rfl, W, l0, q⟩ := h
    refine ⟨_, PSs.nox (pss_cons (ps_expr (pe_call h_refuse_not_kept.G (hr.mono (by decide)) (by rfl) h_refuse_not_kept.g h_refuse_not_kept.kp h_refuse_not_kept.b .nil pass0 (pa_cons (pv 0) (pa_cons (pv 1) pa_nil))))
      (pss_one (ps_ret (pe_call h_deeds_toward.G (hr.mono (by decide)) (by rfl) h_deeds_toward.g h_deeds_toward.kp h_deeds_toward.b .nil pass0 (pa_cons (pv 0) (pa_cons (pv 1) pa_nil)))))), ?_⟩
    refine ⟨v, rfl, .ref o, rfl, v, o, rs, L, rfl, W, fun H2 e2 => ?_⟩
    exact ⟨v, rfl, .ref o, rfl, v, o, rs, L, rfl, W.ex e2, l0, fun a us H3 ha e3 g3 b3 => q a us H3 (fresh_back e2 ha) (e2.trans e3) g3 b3⟩
theorem ok_law_dip {f : Addr} {fd : FuncData} (F : FnP K "_law_dip" s_law_dip f fd) (g : mg "_law_dip" = some (.ref f)) (b : Binds K fd ["_law_script", "_law_k"] []) (m_len : mg "len" = none) (m_abs : mg "abs" = none) (m_int : mg "int" = none) :
    Has P w K mg base 1 "_law_dip" ["_law_script", "_law_k"] (spDip K) f fd := by
  refine ⟨F.ok sc_law_dip (fun vs H Q E h => ?_) (fun cdv A outer s H vs Q E hr h => ?_), g, F.kp, b⟩
  · obtain ⟨a, k, ns, rfl, _⟩ := h
    rfl
  · obtain ⟨a, k, ns, rfl, hS, hk, q⟩ := h
    refine ⟨_, PSs.nox (pss_cons (ps_set (i := 2) sc_law_dip.nd rfl (.inl rfl) (pe_ifExp (pt_cmpR op_lt (pv 1) (pe_callB call_len_seq (by rfl) m_len PySem.boot_len (pa_cons (pv 0) pa_nil)) (nomark _)) (pe_ix ix_list (pv 0) (pv 1) (fun _ _ => rfl)) pe_int))
      (pss_one (ps_ret (pe_lst (pa_cons (pe_op op_mul (pe_callB call_abs (by rfl) m_abs (by decide +kernel) (pa_cons (pv 2) pa_nil)) (pe_callTy call_int1 (by rfl) m_int (by decide +kernel) (pa_cons (pe_cmpR op_ge (pe_callB call_abs (by rfl) m_abs (by decide +kernel) (pa_cons (pv 2) pa_nil)) (pe_op op_pow pe_int pe_int) (nomark _)) pa_nil))) (pa_cons (pe_op op_add (pe_op op_add (pe_op op_modN (pv 2) pe_int) (pe_op op_mul pe_int (pv 1))) pe_int) (pa_cons pe_int pa_nil))))))), ?_⟩
    refine q_asg (v := .int (ns.getD k 0)) (ev_if (b := decide ((k : Int) < ((ns.map V.int).length : Int))) (et_test (ev_op (ev_var rfl) (ev_len (ev_var rfl) hS) rv_I0)) (fun hd => ?_) (fun hd => ?_)) fun H1 e1 => ?_
    · have hk2 : k < ns.length := by
        have := of_decide_eq_true hd
        rw [List.length_map] at this
        omega
      have e : (ns.map V.int)[k]? = some (.int (ns.getD k 0)) := by
        rw [List.getElem?_map, List.getElem?_eq_getElem hk2, List.getD_eq_getElem?_getD, List.getElem?_eq_getElem hk2] <;> rfl
      exact ev_op (ev_var rfl) (ev_var rfl) (rv_ixL hS (atI_nat e))
    · have hk2 : ns.length ≤ k := by
        have := of_decide_eq_false hd
        rw [List.length_map] at this
        omega
      refine ev_is ev_c ?_
      rw [List.getD_eq_getElem?_getD, List.getElem?_eq_none hk2] <;> rfl
    · generalize ns.getD k 0 = c
      have r1 := fmod_lo (a := c) (show (0 : Int) < 2305843009213693951 by decide)
      have r2 := fmod_hi (a := c) (show (0 : Int) < 2305843009213693951 by decide)
      refine s_retL (el_lst (ea_cons (ev_op (ev_cb (ea_cons (ev_var rfl) ea_nil) rc_abs) (ev_cb (ea_cons (ev_op (ev_cb (ea_cons (ev_var rfl) ea_nil) rc_abs) (ev_op ev_c ev_c (rv_I ⟨by decide, by decide, by decide⟩)) rv_I0) ea_nil) rc_intB) (rv_I (.inr ?_))) (ea_cons (ev_op (ev_op (ev_op (ev_var rfl) ev_c (rv_I (by decide))) (ev_op ev_c (ev_var rfl) (rv_I (.inl ⟨by decide, by decide⟩))) rv_I0) ev_c rv_I0) (ea_cons ev_c ea_nil))) (by show 3 ≤ 100000; decide)) fun p H2 hp e2 h2 => ?_
      · exact b01 _
      · refine q p H2 (fresh_back e1 hp) (e1.trans e2) ⟨_, _, _, h2, ?_, by omega, by omega, by decide, by decide⟩
        refine Int.mul_nonneg ?_ ?_
        · split <;> omega
        · exact b01n _
theorem ok_law_take {f : Addr} {fd : FuncData} (F : FnP K "_law_take" s_law_take f fd) (g : mg "_law_take" = some (.ref f)) (b : Binds K fd ["_law_box", "_law_many"] []) : Has P w K mg base 1 "_law_take" ["_law_box", "_law_many"] spTake f fd := by
  refine ⟨F.ok sc_law_take (fun vs H Q E h => ?_) (fun cdv A outer s H vs Q E hr h => ?_), g, F.kp, b⟩
  · obtain ⟨p, m, n, rfl, _⟩ := h
    rfl
  · obtain ⟨p, m, n, rfl, hm, hm2, ⟨a, b, c, hb, ha, hb0, hb1, hc0, hc1⟩, hn, q⟩ := h
    refine ⟨_, PSs.nox (pss_cons (ps_if (pt_cmpR op_gt (pe_ix ix_list (pv 0) pe_int (fun _ _ => rfl)) pe_int (nomark _)) (pss_cons (ps_set (i := 2) sc_law_take.nd rfl (.inl rfl) (pe_op op_modN (pe_ix ix_list (pv 0) pe_int (fun _ _ => rfl)) (pv 1)))
      (pss_cons (ps_asg (pe_op op_fdivW (pe_ix ix_list (pv 0) pe_int (fun _ _ => rfl)) (pv 1)) (pg_sub (pv 0) pe_int set_list))
      (pss_one (ps_ret (pv 2))))) pss_nil)
      (pss_cons (ps_asg (pe_op op_add (pe_ix ix_list (pv 0) pe_int (fun _ _ => rfl)) pe_int) (pg_sub (pv 0) pe_int set_list))
      (pss_cons (ps_set (i := 3) sc_law_take.nd rfl (.inl rfl) (pe_op op_modN (pe_op op_powW (pe_op op_add (pe_ix ix_list (pv 0) pe_int (fun _ _ => rfl)) (pe_op op_mul pe_int (pe_ix ix_list (pv 0) pe_int (fun _ _ => rfl)))) pe_int) pe_int))
      (pss_cons (ps_set (i := 4) sc_law_take.nd rfl (.inl rfl) (pe_op op_modN (pe_op op_mulW (pe_op op_add (pe_op op_add (pv 3) (pe_ix ix_list (pv 0) pe_int (fun _ _ => rfl))) (pe_op op_fdivW (pe_ix ix_list (pv 0) pe_int (fun _ _ => rfl)) pe_int)) (pe_op op_add (pe_op op_add (pe_op op_modN (pv 3) pe_int) pe_int) (pe_ix ix_list (pv 0) pe_int (fun _ _ => rfl)))) pe_int))
      (pss_one (ps_ret (pe_op op_modN (pe_op op_fdivW (pe_op op_modN (pe_op op_add (pe_op op_mul (pv 4) pe_int) (pv 3)) pe_int) pe_int) (pv 1)))))))), ?_⟩
    refine q_when (b := decide (a > 0)) (et_B (ev_op (ev_op (ev_var rfl) ev_c (rv_ixL (sq_of hb) rfl)) ev_c rv_I0)) (fun hd H1 e1 => ?_) (fun hd H1 e1 => ?_)
    · have hb1' := e1 _ _ hb
      refine q_asg (ev_op (ev_op (ev_var rfl) ev_c (rv_ixL (sq_of hb1') rfl)) (ev_var rfl) (rv_I (show m ≠ 0 by omega))) fun H2 e2 => ?_
      have hb2' := e2 _ _ hb1'
      refine q_setL (j := 0) hb2' (ev_op (ev_op (ev_var rfl) ev_c (rv_ixL (sq_of hb2') rfl)) (ev_var rfl) (rv_I (divW_ok hm hm2))) (ev_var rfl) ev_c (by show 0 < 3; decide) fun H3 e3 => ?_
      refine s_ret (ev_var rfl) fun H4 e4 => ?_
      refine q _ H4 (fmod_lo hm) (fmod_hi hm) (((ExB.of ((e1.trans e2).trans e3)).upd).trans (.of e4)) ⟨a / m, b, c, e4 _ _ upd_same, Int.ediv_nonneg ha (by omega), hb0, hb1, hc0, by omega⟩
    · have hb1' := e1 _ _ hb
      refine q_setL (j := 2) hb1' (ev_op (ev_op (ev_var rfl) ev_c (rv_ixL (sq_of hb1') rfl)) ev_c rv_I0) (ev_var rfl) ev_c (by show 2 < 3; decide) fun H2 e2 => ?_
      have hx : upd H2 p (.lst ([V.int a, .int b, .int c].set 2 (.int (c + 1)))) p = some (.lst [V.int a, .int b, .int (c + 1)]) := upd_same
      have eb : ExB p H (upd H2 p (.lst ([V.int a, .int b, .int c].set 2 (.int (c + 1))))) := (ExB.of (e1.trans e2)).upd
      generalize upd H2 p (.lst ([V.int a, .int b, .int c].set 2 (.int (c + 1)))) = H3 at hx eb ⊢
      have hlim : c + 1 ≤ (Lim : Int) + 1 := by omega
      have g1 : CPowW (b + 39373 * (c + 1)) 5 := pow_ok (big_of (by omega) hlim 39373 b (by decide) (by decide) hb0 (by omega))
      have r1 := fmod_lo (a := (b + 39373 * (c + 1)) ^ (5 : Int).toNat) (show (0 : Int) < 2147483647 by decide)
      have r2 := fmod_hi (a := (b + 39373 * (c + 1)) ^ (5 : Int).toNat) (show (0 : Int) < 2147483647 by decide)
      refine q_asg (v := .int (((b + 39373 * (c + 1)) ^ (5 : Int).toNat).fmod 2147483647)) (ev_op (ev_op (ev_op (ev_op (ev_var rfl) ev_c (rv_ixL (sq_of hx) rfl)) (ev_op ev_c (ev_op (ev_var rfl) ev_c (rv_ixL (sq_of hx) rfl)) (rv_I (.inl ⟨by decide, by decide⟩))) rv_I0) ev_c (rv_I g1)) ev_c (rv_I (by decide))) fun H4 e4 => ?_
      generalize ((b + 39373 * (c + 1)) ^ (5 : Int).toNat).fmod 2147483647 = o at r1 r2 ⊢
      have hx4 := e4 _ _ hx
      have d0 : 0 ≤ b / 1000003 := by omega
      have d1 : b / 1000003 ≤ b := by omega
      have g2 : CMulW (o + (c + 1) + b / 1000003) (o.fmod 40009 + 7 + (c + 1)) := by
        have s1 := fmod_lo (a := o) (show (0 : Int) < 40009 by decide)
        have s2 := fmod_hi (a := o) (show (0 : Int) < 40009 by decide)
        have e1 : o + (c + 1) + b / 1000003 = (o + b / 1000003) + 1 * (c + 1) := by omega
        have e2 : o.fmod 40009 + 7 + (c + 1) = (o.fmod 40009 + 7) + 1 * (c + 1) := by omega
        rw [e1, e2]
        exact mulW_ok (big_of (by omega) hlim 1 _ (by decide) (by decide) (by omega) (by omega)) (big_of (by omega) hlim 1 _ (by decide) (by decide) (by omega) (by omega))
      refine q_asg (ev_op (ev_op (ev_op (ev_op (ev_var rfl) (ev_op (ev_var rfl) ev_c (rv_ixL (sq_of hx4) rfl)) rv_I0) (ev_op (ev_op (ev_var rfl) ev_c (rv_ixL (sq_of hx4) rfl)) ev_c (rv_I (divW_ok (by decide) (by decide)))) rv_I0) (ev_op (ev_op (ev_op (ev_var rfl) ev_c (rv_I (by decide))) ev_c rv_I0) (ev_op (ev_var rfl) ev_c (rv_ixL (sq_of hx4) rfl)) rv_I0) (rv_I g2)) ev_c (rv_I (by decide))) fun H5 e5 => ?_
      refine s_ret (ev_op (ev_op (ev_op (ev_op (ev_op (ev_var rfl) ev_c (rv_I (.inr ⟨by decide, by decide⟩))) (ev_var rfl) rv_I0) ev_c (rv_I (by decide))) ev_c (rv_I (divW_ok (by decide) (by decide)))) (ev_var rfl) (rv_I (show m ≠ 0 by omega))) fun H6 e6 => ?_
      refine q _ H6 (fmod_lo hm) (fmod_hi hm) (eb.trans (.of ((e4.trans e5).trans e6))) ⟨a, b, c + 1, e6 _ _ (e5 _ _ hx4), ha, hb0, hb1, by omega, by omega⟩
theorem ok_law_folded {f : Addr} {fd : FuncData} (F : FnP K "_law_folded" s_law_folded f fd) (g : mg "_law_folded" = some (.ref f)) (b : Binds K fd ["_law_script", "_law_many"] []) (m_list : mg "list" = none) (m_enumerate : mg "enumerate" = none) :
    Has P w K mg base 1 "_law_folded" ["_law_script", "_law_many"] (spFolded K) f fd := by
  refine ⟨F.ok sc_law_folded (fun vs H Q E h => ?_) (fun cdv A outer s H vs Q E hr h => ?_), g, F.kp, b⟩
  · obtain ⟨a, k, ns, rfl, _⟩ := h
    rfl
  · obtain ⟨a, m, ns, rfl, hm, hm2, hS, hlen, q⟩ := h
    refine ⟨_, PSs.nox (pss_cons (ps_set (i := 2) sc_law_folded.nd rfl (.inl rfl) (pe_callTy call_list_of (by rfl) m_list (by decide +kernel) (pa_cons (pe_slice sl_list (pv 0) po_none (po_some (pv 1))) pa_nil)))
      (pss_cons (ps_for PassesOwn.never rfl (pi_enum (by rfl) m_enumerate (pa_cons (pe_slice sl_list (pv 0) (po_some (pv 1)) (po_some pe_int)) pa_nil)) (pg_tup rfl (pgs_cons (pg_name (i := 3) sc_law_folded.nd rfl (Or.inl rfl)) (pgs_cons (pg_name (i := 4) sc_law_folded.nd rfl (Or.inl rfl)) pgs_nil)))
        (pss_one (ps_asg (pe_op op_add (pe_ix ix_list (pv 2) (pe_op op_modN (pv 3) (pv 1)) (fun _ _ => rfl)) (pe_op op_mul (pv 4) (pe_op op_add (pv 3) pe_int))) (pg_sub (pv 2) (pe_op op_modN (pv 3) (pv 1)) set_list))))
      (pss_one (ps_ret (pv 2))))), ?_⟩
    refine q_asgL (el_listN (el_sl (ev_var rfl) eo_none (eo_some (ev_var rfl)) hS)) fun l H1 hl e1 h1 => ?_
    rw [cut_to, ← List.map_take] at h1
    obtain ⟨zs, hzs, hzl⟩ := cut_ints ns (some (m : Int)) (some 63)
    rw [HT.sIx_nat] at hzl
    refine q_forE (el_sl (ev_var rfl) (eo_some (ev_var rfl)) (eo_some ev_c) (ex_l e1 hS)) (fun c i σ' H' => ∃ (y3 y4 : Option V) (ms : List Int), σ' = [some (.ref a), some (.int (m : Int)), some (.ref l), y3, y4] ∧ ms.length = min m ns.length ∧ H' l = some (.lst (ms.map V.int)) ∧ H' c = some (.lst (cutV (ns.map V.int) (some (m : Int)) (some 63))) ∧ Ex H H' ∧ l ≠ c) (fun c H2 hc e2 h2 => ?_) (fun c i σ' H' hi p => ?_) (fun c i x σ' H' T hx p hT => ?_) (fun c σ' H' p => ?_)
    · exact ⟨none, none, ns.take m, rfl, by rw [List.length_take], e2 _ _ h1, h2, e1.trans e2, ne_of_none h1 hc⟩
    · obtain ⟨y3, y4, ms, rfl, p1, p2, p3, p4, p5⟩ := p
      exact sq_of p3
    · obtain ⟨y3, y4, ms, rfl, p1, p2, p3, p4, p5⟩ := p
      rw [hzs, List.getElem?_map] at hx
      obtain ⟨z, hz, rfl⟩ := Option.map_eq_some_iff.mp hx
      have hi := (List.getElem?_eq_some_iff.mp hz).1
      have hms : ms.length = m := by omega
      refine ⟨T, _, rfl, st_of upd_same, rfl, _, _, rfl, _, _, rfl, rfl, ?_⟩
      have hlT : l ≠ T := ne_of_none p2 hT
      have h2 : (upd H' T (.tup [.int (i : Nat), .int z])) l = some (.lst (ms.map V.int)) := by
        rw [upd_ne hlT]
        exact p2
      have hj : i % m < ms.length := by
        rw [hms]
        exact Nat.mod_lt _ hm
      have hg : (ms.map V.int)[i % m]? = some (.int (ms[i % m])) := by
        rw [List.getElem?_map, List.getElem?_eq_getElem hj] <;> rfl
      have eI : Ev (tOp (rI (fun _ j => j ≠ 0) fun i j => .int (i.fmod j)) (tVar 3) (tVar 1)) [some (.ref a), some (.int (m : Int)), some (.ref l), some (.int (i : Nat)), some (.int z)] (upd H' T (.tup [.int (i : Nat), .int z])) (.int ((i % m : Nat) : Int)) := ev_is (ev_op (ev_var rfl) (ev_var rfl) (rv_I (show (m : Int) ≠ 0 by omega))) (by rw [fmod_nat])
      refine s_setL (j := i % m) h2 (ev_op (ev_op (ev_var rfl) eI (rv_ixL (sq_of h2) (atI_nat hg))) (ev_op (ev_var rfl) (ev_op (ev_var rfl) ev_c rv_I0) (rv_I (.inr ?_))) rv_I0) (ev_var rfl) eI (by rw [List.length_map]; exact hj) fun H3 e3 => ?_
      · have : zs.length ≤ 63 := by omega
        exact ⟨by omega, by omega⟩
      · refine ⟨some (.int (i : Nat)), some (.int z), ms.set (i % m) (ms[i % m] + z * ((i : Int) + 2)), rfl, by rw [List.length_set]; exact p1, ?_, ?_, ?_, p5⟩
        · rw [upd_same, List.map_set]
        · rw [upd_ne (Ne.symm p5)]
          exact e3 _ _ (Ex.new hT _ _ p3)
        · exact Ex.mut ((p4.trans (Ex.new hT)).trans e3) hl
    · obtain ⟨y3, y4, ms, rfl, p1, p2, p3, p4, p5⟩ := p
      exact s_ret (ev_var rfl) fun H2 e2 => q l H2 ms hl (p4.trans e2) (by omega) (e2 _ _ p2)
theorem ok_law_same {f : Addr} {fd : FuncData} (F : FnP K "_law_same" s_law_same f fd) (g : mg "_law_same" = some (.ref f)) (b : Binds K fd ["_law_found", "_law_due"] []) (m_isinstance : mg "isinstance" = none) (m_list : mg "list" = none) (m_tuple : mg "tuple" = none) (m_bool : mg "bool" = none) (m_str : mg "str" = none) (m_int : mg "int" = none) (m_len : mg "len" = none) (m_all : mg "all" = none) (m_zip : mg "zip" = none) :
    ∀ d, Has P w K mg base d "_law_same" ["_law_found", "_law_due"] (spSame K d) f fd
  | 0 => ⟨has_none, g, F.kp, b⟩
  | d + 1 => by
    have h_law_same := ok_law_same F g b m_isinstance m_list m_tuple m_bool m_str m_int m_len m_all m_zip d
    refine ⟨F.ok sc_law_same (fun vs H Q E h => ?_) (fun cdv A outer s H vs Q E hr h => ?_), g, F.kp, b⟩
    · obtain ⟨x, y, rfl, _⟩ := h
      rfl
    · obtain ⟨x, y, rfl, hA, q⟩ := h
      refine ⟨_, PSs.nox (pss_cons (ps_if (pt_val (pe_callB call_isiT (by rfl) m_isinstance (by decide +kernel) (pa_cons (pv 1) (pa_cons (pe_tup (pa_cons (pe_bltn (v := .ty "list") (by rfl) m_list (by decide +kernel) rfl) (pa_cons (pe_bltn (v := .ty "tuple") (by rfl) m_tuple (by decide +kernel) rfl) pa_nil))) pa_nil)))) (pss_cons (ps_if (PW.pt (pw_or (pt_cmpR op_ne (pe_callB call_isi (by rfl) m_isinstance (by decide +kernel) (pa_cons (pv 0) (pa_cons (pe_bltn (v := .ty "list") (by rfl) m_list (by decide +kernel) rfl) pa_nil))) (pe_callB call_isi (by rfl) m_isinstance (by decide +kernel) (pa_cons (pv 1) (pa_cons (pe_bltn (v := .ty "list") (by rfl) m_list (by decide +kernel) rfl) pa_nil))) (nomark _)) (pw_or1 (pt_cmpR op_ne (pe_callB call_isi (by rfl) m_isinstance (by decide +kernel) (pa_cons (pv 0) (pa_cons (pe_bltn (v := .ty "tuple") (by rfl) m_tuple (by decide +kernel) rfl) pa_nil))) (pe_callB call_isi (by rfl) m_isinstance (by decide +kernel) (pa_cons (pv 1) (pa_cons (pe_bltn (v := .ty "tuple") (by rfl) m_tuple (by decide +kernel) rfl) pa_nil))) (nomark _))))) (pss_one (ps_ret pe_bl)) pss_nil)
      (pss_one (ps_ret (pe_and (pe_cmpR op_eq (pe_callB call_len_seq (by rfl) m_len PySem.boot_len (pa_cons (pv 0) pa_nil)) (pe_callB call_len_seq (by rfl) m_len PySem.boot_len (pa_cons (pv 1) pa_nil)) (nomark _)) (pe_one (pe_callB (cr_all rfl) (by rfl) m_all (by decide +kernel) (pa_cons (pe_lc (own := [("_law_one", 2), ("_law_two", 3)]) (g := gTup K 2 (gCons (gName 2) (gCons (gName 3) gNil))) (by rfl) sc_law_same.nd (pi_zipA (by rfl) m_zip (pa_cons (pv 0) (pa_cons (pv 1) pa_nil))) (blkOk_by (own := [("_law_one", 2), ("_law_two", 3)]) (N := ["_law_found", "_law_due", "_law_one", "_law_two"]) (sc := defScope s_law_same) (by decide +kernel)) (fun _ _ _ _ _ => (pg_tup rfl (pgs_cons (pg_name (i := 2) sc_law_same.nd rfl (Or.inl rfl)) (pgs_cons (pg_name (i := 3) sc_law_same.nd rfl (Or.inl rfl)) pgs_nil)))) (fun _ _ _ _ _ => pts_nil) (fun _ _ _ _ _ => (pe_call h_law_same.G hr (by rfl) h_law_same.g h_law_same.kp h_law_same.b .nil pass0 (pa_cons (pv 2) (pa_cons (pv 3) pa_nil))))) pa_nil))))))) pss_nil)
      (pss_cons (ps_if (PW.pt (pw_or (pt_cmpR op_isN (pv 1) pe_non (nomark _)) (pw_or1 (pt_cmpR op_isN (pv 0) pe_non (nomark _))))) (pss_one (ps_ret (pe_and (pe_cmpR op_isN (pv 1) pe_non (nomark _)) (pe_one (pe_cmpR op_isN (pv 0) pe_non (nomark _)))))) pss_nil)
      (pss_cons (ps_if (PW.pt (pw_or (pt_val (pe_callB call_isi (by rfl) m_isinstance (by decide +kernel) (pa_cons (pv 1) (pa_cons (pe_bltn (v := .ty "bool") (by rfl) m_bool (by decide +kernel) rfl) pa_nil)))) (pw_or1 (pt_val (pe_callB call_isi (by rfl) m_isinstance (by decide +kernel) (pa_cons (pv 1) (pa_cons (pe_bltn (v := .ty "str") (by rfl) m_str (by decide +kernel) rfl) pa_nil))))))) (pss_one (ps_ret (pe_and (pe_cmpR op_eq (pe_callB call_isi (by rfl) m_isinstance (by decide +kernel) (pa_cons (pv 0) (pa_cons (pe_bltn (v := .ty "bool") (by rfl) m_bool (by decide +kernel) rfl) pa_nil))) (pe_callB call_isi (by rfl) m_isinstance (by decide +kernel) (pa_cons (pv 1) (pa_cons (pe_bltn (v := .ty "bool") (by rfl) m_bool (by decide +kernel) rfl) pa_nil))) (nomark _)) (pe_one (pe_cmpR op_eq (pv 0) (pv 1) (nomark _)))))) pss_nil)
      (pss_one (ps_ret (pe_and (pe_callB call_isi (by rfl) m_isinstance (by decide +kernel) (pa_cons (pv 0) (pa_cons (pe_bltn (v := .ty "int") (by rfl) m_int (by decide +kernel) rfl) pa_nil))) (pe_and (pe_not (pe_callB call_isi (by rfl) m_isinstance (by decide +kernel) (pa_cons (pv 0) (pa_cons (pe_bltn (v := .ty "bool") (by rfl) m_bool (by decide +kernel) rfl) pa_nil)))) (pe_one (pe_cmpR op_eq (pv 0) (pv 1) (nomark _)))))))))), ?_⟩
      rcases hA with ⟨rfl, hf⟩ | ⟨a, c, xs, ys, rfl, rfl, h3, h4, h5, h6⟩
      · cases x with
        | int i =>
          refine q_when (et_B (ev_isiT (ev_var rfl) (.int i) kit_int)) (fun hd => by cases hd) fun _ H1 e1 => ?_
          refine q_when (b := false) (et_or (a := false) (b := false) (et_test (ev_op (ev_var rfl) ev_c (rv_isN2 rfl))) fun _ => et_test (ev_op (ev_var rfl) ev_c (rv_isN2 rfl))) (fun hd => by cases hd) fun _ H2 e2 => ?_
          refine q_when (b := false) (et_or (a := false) (b := false) (et_B (ev_isi (T := "int") (C := "bool") (ev_var rfl) (.int i) (by decide +kernel))) fun _ => et_B (ev_isi (T := "int") (C := "str") (ev_var rfl) (.int i) (by decide +kernel))) (fun hd => by cases hd) fun _ H3 e3 => ?_
          refine s_ret (v := .bl true) (ev_andV (a := true) (b := true) (ev_isi (T := "int") (C := "int") (b := true) (ev_var rfl) (.int i) (by decide +kernel)) fun _ => ev_andV (a := true) (b := true) (ev_notV (ev_isi (T := "int") (C := "bool") (b := false) (ev_var rfl) (.int i) (by decide +kernel))) fun _ => ev_is (ev_op (ev_var rfl) (ev_var rfl) (rv_eq rfl)) (by rw [decide_eq_true rfl])) fun H4 e4 => q H4 (((e1.trans e2).trans e3).trans e4)
        | bl i =>
          refine q_when (et_B (ev_isiT (ev_var rfl) (.bl i) kit_bool)) (fun hd => by cases hd) fun _ H1 e1 => ?_
          refine q_when (b := false) (et_or (a := false) (b := false) (et_test (ev_op (ev_var rfl) ev_c (rv_isN2 rfl))) fun _ => et_test (ev_op (ev_var rfl) ev_c (rv_isN2 rfl))) (fun hd => by cases hd) fun _ H2 e2 => ?_
          refine q_when (b := true) (et_or (a := true) (b := true) (et_B (ev_isi (T := "bool") (C := "bool") (ev_var rfl) (.bl i) (by decide +kernel))) fun hd => by cases hd) (fun _ H3 e3 => ?_) (fun hd => by cases hd)
          refine s_ret (v := .bl true) (ev_andV (a := true) (b := true) (ev_op (ev_isi (T := "bool") (C := "bool") (b := true) (ev_var rfl) (.bl i) (by decide +kernel)) (ev_isi (T := "bool") (C := "bool") (b := true) (ev_var rfl) (.bl i) (by decide +kernel)) (rv_eq rfl)) fun _ => ev_is (ev_op (ev_var rfl) (ev_var rfl) (rv_eq rfl)) (by rw [decide_eq_true rfl])) fun H4 e4 => q H4 (((e1.trans e2).trans e3).trans e4)
        | str i =>
          refine q_when (et_B (ev_isiT (ev_var rfl) (.str i) kit_str)) (fun hd => by cases hd) fun _ H1 e1 => ?_
          refine q_when (b := false) (et_or (a := false) (b := false) (et_test (ev_op (ev_var rfl) ev_c (rv_isN2 rfl))) fun _ => et_test (ev_op (ev_var rfl) ev_c (rv_isN2 rfl))) (fun hd => by cases hd) fun _ H2 e2 => ?_
          refine q_when (b := true) (et_or (a := false) (b := true) (et_B (ev_isi (T := "str") (C := "bool") (b := false) (ev_var rfl) (.str i) (by decide +kernel))) fun _ => et_B (ev_isi (T := "str") (C := "str") (b := true) (ev_var rfl) (.str i) (by decide +kernel))) (fun _ H3 e3 => ?_) (fun hd => by cases hd)
          refine s_ret (v := .bl true) (ev_andV (a := true) (b := true) (ev_op (ev_isi (T := "str") (C := "bool") (b := false) (ev_var rfl) (.str i) (by decide +kernel)) (ev_isi (T := "str") (C := "bool") (b := false) (ev_var rfl) (.str i) (by decide +kernel)) (rv_eq rfl)) fun _ => ev_is (ev_op (ev_var rfl) (ev_var rfl) (rv_eq rfl)) (by rw [decide_eq_true rfl])) fun H4 e4 => q H4 (((e1.trans e2).trans e3).trans e4)
        | non =>
          refine q_when (et_B (ev_isiT (ev_var rfl) .non kit_non)) (fun hd => by cases hd) fun _ H1 e1 => ?_
          refine q_when (b := true) (et_or (a := true) (b := true) (et_test (ev_op (ev_var rfl) ev_c (rv_isN2 rfl))) fun _ => et_test (ev_op (ev_var rfl) ev_c (rv_isN2 rfl))) (fun _ H2 e2 => ?_) (fun hd => by cases hd)
          refine s_ret (v := .bl true) (ev_andV (a := true) (b := true) (ev_op (ev_var rfl) ev_c (rv_isN2 rfl)) fun _ => ev_op (ev_var rfl) ev_c (rv_isN2 rfl)) fun H4 e4 => q H4 ((e1.trans e2).trans e4)
        | byt _ => exact hf.elim
        | flt _ => exact hf.elim
        | ref _ => exact hf.elim
        | ty _ => exact hf.elim
      · rcases h3 with ⟨ha, hc⟩ | ⟨ha, hc⟩
        · refine q_when (et_B (ev_isiT (ev_var rfl) (.lst hc) kit_list)) (fun _ H1 e1 => ?_) (fun hd => by cases hd)
          refine q_when (b := false) (et_or (et_test (ev_op (ev_isi (T := "list") (b := true) (ev_var rfl) (.lst (ex_l e1 ha)) (by decide +kernel)) (ev_isi (T := "list") (b := true) (ev_var rfl) (.lst (ex_l e1 hc)) (by decide +kernel)) (rv_ne rfl))) fun _ => et_test (ev_op (ev_isi (T := "list") (b := false) (ev_var rfl) (.lst (ex_l e1 ha)) (by decide +kernel)) (ev_isi (T := "list") (b := false) (ev_var rfl) (.lst (ex_l e1 hc)) (by decide +kernel)) (rv_ne rfl))) (fun hd => by cases hd) fun _ H2 e2 => ?_
          have e12 := e1.trans e2
          refine s_ret (v := .bl true) (ev_andV (a := true) (b := true) (ev_is (ev_op (ev_lenA (ev_var rfl) (.inl (ex_l e12 ha))) (ev_lenA (ev_var rfl) (.inl (ex_l e12 hc))) (rv_eq rfl)) (by rw [h4, decide_eq_true rfl])) fun _ => ev_allT (el_same h4 h5 (.inl ⟨ex_l e12 ha, ex_l e12 hc⟩) fun i u v hu hv => (h6 i u v hu hv).ex e12)) fun H4 e4 => q H4 (e12.trans e4)
        · refine q_when (et_B (ev_isiT (ev_var rfl) (.tup hc) kit_tuple)) (fun _ H1 e1 => ?_) (fun hd => by cases hd)
          refine q_when (b := false) (et_or (et_test (ev_op (ev_isi (T := "tuple") (b := false) (ev_var rfl) (.tup (ex_t e1 ha)) (by decide +kernel)) (ev_isi (T := "tuple") (b := false) (ev_var rfl) (.tup (ex_t e1 hc)) (by decide +kernel)) (rv_ne rfl))) fun _ => et_test (ev_op (ev_isi (T := "tuple") (b := true) (ev_var rfl) (.tup (ex_t e1 ha)) (by decide +kernel)) (ev_isi (T := "tuple") (b := true) (ev_var rfl) (.tup (ex_t e1 hc)) (by decide +kernel)) (rv_ne rfl))) (fun hd => by cases hd) fun _ H2 e2 => ?_
          have e12 := e1.trans e2
          refine s_ret (v := .bl true) (ev_andV (a := true) (b := true) (ev_is (ev_op (ev_lenA (ev_var rfl) (.inr (ex_t e12 ha))) (ev_lenA (ev_var rfl) (.inr (ex_t e12 hc))) (rv_eq rfl)) (by rw [h4, decide_eq_true rfl])) fun _ => ev_allT (el_same h4 h5 (.inr ⟨ex_t e12 ha, ex_t e12 hc⟩) fun i u v hu hv => (h6 i u v hu hv).ex e12)) fun H4 e4 => q H4 (e12.trans e4)
theorem ok_law_of {f f1 : Addr} {fd fd1 : FuncData} (F : FnP K "_law_of" s_law_of f fd) (g : mg "_law_of" = some (.ref f)) (b : Binds K fd ["_law_box", "_law_pool"] []) (h_law_take : Has P w K mg base 1 "_law_take" ["_law_box", "_law_many"] spTake f1 fd1) (m_len : mg "len" = none) :
    Has P w K mg base 2 "_law_of" ["_law_box", "_law_pool"] (spOf K) f fd := by
  refine ⟨F.ok sc_law_of (fun vs H Q E h => ?_) (fun cdv A outer s H vs Q E hr h => ?_), g, F.kp, b⟩
  · obtain ⟨p, l, xs, n, rfl, _⟩ := h
    rfl
  · obtain ⟨p, l, xs, n, rfl, hl, h0, h1, hne, hb, hn, q⟩ := h
    refine ⟨_, PSs.nox (pss_one (ps_ret (pe_ix ix_list (pv 1) (pe_call h_law_take.G (hr.mono (by decide)) (by rfl) h_law_take.g h_law_take.kp h_law_take.b .nil pass0 (pa_cons (pv 0) (pa_cons (pe_callB call_len_seq (by rfl) m_len PySem.boot_len (pa_cons (pv 1) pa_nil)) pa_nil))) (fun _ _ => rfl)))), ?_⟩
    refine ⟨.ref l, rfl, .ref p, rfl, .ref l, rfl, l, xs, rfl, .inl hl, p, (xs.length : Int), n, rfl, by omega, by omega, hb, hn, fun r H1 r0 r1 e1 hb1 => ?_⟩
    obtain ⟨k, rfl⟩ := Int.eq_ofNat_of_zero_le r0
    have hk : k < xs.length := by omega
    exact ⟨l, xs, k, xs[k], rfl, rfl, e1.l hne hl, atI_nat (List.getElem?_eq_getElem hk), q k _ H1 (List.getElem?_eq_getElem hk) e1 hb1⟩
theorem ok_law_row {f f1 f2 : Addr} {fd fd1 fd2 : FuncData} (F : FnP K "_law_row" s_law_row f fd) (g : mg "_law_row" = some (.ref f)) (b : Binds K fd ["_law_box", "_law_most"] []) (h_law_take : Has P w K mg base 1 "_law_take" ["_law_box", "_law_many"] spTake f1 fd1) (h_law_of : Has P w K mg base 2 "_law_of" ["_law_box", "_law_pool"] (spOf K) f2 fd2) (m_range : mg "range" = none) (m_tuple : mg "tuple" = none) :
    Has P w K mg base 3 "_law_row" ["_law_box", "_law_most"] (spRow K) f fd := by
  refine ⟨F.ok sc_law_row (fun vs H Q E h => ?_) (fun cdv A outer s H vs Q E hr h => ?_), g, F.kp, b⟩
  · obtain ⟨p, m, n, rfl, _⟩ := h
    rfl
  · obtain ⟨p, m, n, rfl, hm, hm2, hb, hn, q⟩ := h
    refine ⟨_, PSs.nox (pss_cons (ps_par3 (i := 2) (j := 3) (l := 4) (by rfl) sc_law_row.nd rfl rfl rfl (by decide) (by decide) (by decide) rfl rfl rfl (pa_cons (pe_op op_add pe_int (pe_call h_law_take.G (hr.mono (by decide)) (by rfl) h_law_take.g h_law_take.kp h_law_take.b .nil pass0 (pa_cons (pv 0) (pa_cons (pv 1) pa_nil)))) (pa_cons (pe_call h_law_take.G (hr.mono (by decide)) (by rfl) h_law_take.g h_law_take.kp h_law_take.b .nil pass0 (pa_cons (pv 0) (pa_cons pe_int pa_nil))) (pa_cons (pe_call h_law_of.G (hr.mono (by decide)) (by rfl) h_law_of.g h_law_of.kp h_law_of.b .nil pass0 (pa_cons (pv 0) (pa_cons (pe_lst (pa_cons pe_int (pa_cons pe_int (pa_cons pe_int (pa_cons pe_int pa_nil))))) pa_nil))) pa_nil))) (by rfl))
      (pss_cons (ps_par (i := 5) (j := 6) (by rfl) sc_law_row.nd rfl rfl (by decide) rfl rfl (pa_cons (pe_ix ix_list (pe_lst (pa_cons pe_int (pa_cons pe_int (pa_cons pe_int (pa_cons pe_int (pa_cons pe_int (pa_cons pe_int pa_nil))))))) (pv 3) (fun _ _ => rfl)) (pa_cons (pe_ix ix_list (pe_lst (pa_cons pe_int (pa_cons pe_int (pa_cons pe_int (pa_cons pe_int (pa_cons pe_int (pa_cons pe_int pa_nil))))))) (pv 3) (fun _ _ => rfl)) pa_nil)) (by rfl))
      (Evl.pss_cut (ps_par (i := 7) (j := 8) (by rfl) sc_law_row.nd rfl rfl (by decide) rfl rfl (pa_cons (pe_ix ix_list (pe_lst (pa_cons pe_int (pa_cons (pe_un un_neg pe_int) (pa_cons (pe_un un_neg pe_int) (pa_cons pe_int (pa_cons (pe_op op_sub (pe_op op_pow pe_int pe_int) pe_int) (pa_cons (pe_un un_neg pe_int) pa_nil))))))) (pv 3) (fun _ _ => rfl)) (pa_cons (pe_ifExp (pt_cmpR op_eq (pv 3) pe_int (nomark _)) (pe_call h_law_take.G (hr.mono (by decide)) (by rfl) h_law_take.g h_law_take.kp h_law_take.b .nil pass0 (pa_cons (pv 0) (pa_cons pe_int pa_nil))) pe_int) pa_nil)) (by rfl))
      (pss_cons (ps_set (i := 9) sc_law_row.nd rfl (.inl rfl) (pe_lst pa_nil))
      (pss_cons (ps_for PassesOwn.never rfl (pi_range1 (by rfl) m_range (pa_cons (pv 2) pa_nil)) (pg_name (i := 10) sc_law_row.nd rfl (Or.inl rfl))
        (pss_one (ps_expr (pe_bm PySem.F.plainAttrs_list PySem.F.slot_list_append PySem.F.type_list_append mt_append (pv 9) (pa_cons (pe_tup (pa_cons (pe_op op_add (pe_op op_add (pv 7) (pe_op op_mul (pv 4) (pv 10))) (pe_call h_law_take.G (hr.mono (by decide)) (by rfl) h_law_take.g h_law_take.kp h_law_take.b .nil pass0 (pa_cons (pv 0) (pa_cons (pv 5) pa_nil)))) (pa_cons (pe_op op_add (pv 8) (pe_call h_law_take.G (hr.mono (by decide)) (by rfl) h_law_take.g h_law_take.kp h_law_take.b .nil pass0 (pa_cons (pv 0) (pa_cons (pv 6) pa_nil)))) pa_nil))) pa_nil)))))
      (pss_one (ps_ret (pe_tupleOf (by rfl) m_tuple (pv 9))))))))), ?_⟩
    refine ⟨.ref p, rfl, .int (m : Int), rfl, p, (m : Int), n, rfl, by omega, by omega, hb, by omega, fun r1 H1 r10 r11 e1 hb1 => ?_⟩
    refine ⟨1, r1, rfl, rfl, .ref p, rfl, p, 6, n + 1, rfl, by decide, by decide, hb1, by omega, fun way H2 w0 w1 e2 hb2 => ?_⟩
    refine ⟨.ref p, rfl, by show 4 ≤ sizeLine; decide, fun l hl => ?_⟩
    refine ⟨p, l, _, n + 2, rfl, sq_of upd_same, by show 0 < 4; decide, by show 4 < 100000; decide, (hb2.ne hl).symm, hb2.ex (Ex.new hl), by omega, fun k x H3 hx e3 hb3 => ?_⟩
    obtain ⟨rise, rfl, hr0, hr1⟩ : ∃ rise : Int, x = .int rise ∧ 0 ≤ rise ∧ rise ≤ 3 := by
      match k, hx with
      | 0, hx => cases hx; exact ⟨0, rfl, by decide, by decide⟩
      | 1, hx => cases hx; exact ⟨0, rfl, by decide, by decide⟩
      | 2, hx => cases hx; exact ⟨1, rfl, by decide, by decide⟩
      | 3, hx => cases hx; exact ⟨3, rfl, by decide, by decide⟩
      | k + 4, hx => cases hx
    have eb3 : ExB p H H3 := ((e1.trans e2).trans (.of (Ex.new hl))).trans e3
    clear e1 e2 e3 hb1 hb2
    refine ⟨_, _, _, rfl, ?_⟩
    obtain ⟨high, hh, ah⟩ := at_ints (zs := [9, 9, 30, 60, 25, 200]) w0 w1
    obtain ⟨dear, hd, ad⟩ := at_ints (zs := [3, 1, 1, 10, 4, 40]) w0 w1
    have hh0 : 0 < high ∧ high ≤ 200 := by
      simp only [List.mem_cons, List.not_mem_nil, or_false] at hh
      omega
    have hd0 : 0 < dear ∧ dear ≤ 40 := by
      simp only [List.mem_cons, List.not_mem_nil, or_false] at hd
      omega
    refine ⟨by show 6 ≤ sizeLine; decide, fun l2 hl2 => ⟨.int way, rfl, l2, _, way, .int high, rfl, rfl, sq_of upd_same, ah, ?_⟩⟩
    refine ⟨by show 6 ≤ sizeLine; decide, fun l3 hl3 => ⟨.int way, rfl, l3, _, way, .int dear, rfl, rfl, sq_of upd_same, ad, _, _, rfl, ?_⟩⟩
    have eb4 := (eb3.new (o := .lst [.int 9, .int 9, .int 30, .int 60, .int 25, .int 200]) hl2).new (o := .lst [.int 3, .int 1, .int 1, .int 10, .int 4, .int 40]) hl3
    have hb4 := (hb3.ex (Ex.new (o := .lst [.int 9, .int 9, .int 30, .int 60, .int 25, .int 200]) hl2)).ex (Ex.new (o := .lst [.int 3, .int 1, .int 1, .int 10, .int 4, .int 40]) hl3)
    clear eb3 hb3
    obtain ⟨bs, hbs, abs⟩ := at_ints (zs := [0, -4, -15, 0, 10 ^ (12 : Int).toNat - 1000, -100]) w0 w1
    have hbs0 : -100 ≤ bs ∧ bs ≤ 999999999000 := by
      have e12 : (10 : Int) ^ (12 : Int).toNat - 1000 = 999999999000 := by decide
      rw [e12] at hbs
      simp only [List.mem_cons, List.not_mem_nil, or_false] at hbs
      omega
    refine q_cut (M := fun σ' H' => ∃ toll : Int, σ' = [some (.ref p), some (.int (m : Int)), some (.int (1 + r1)), some (.int way), some (.int rise), some (.int high), some (.int dear), some (.int bs), some (.int toll), none, none] ∧ 0 ≤ toll ∧ toll ≤ 6 ∧ ExB p H H' ∧ Bx H' p (n + 4)) ?_ (fun σ' H5 hM => ?_)
    · refine ⟨4, rfl, 15, rfl, 10, 12, rfl, rfl, ⟨by decide, by decide, by decide⟩, _, 1000, rfl, rfl, 100, rfl, by show 6 ≤ sizeLine; decide, fun l4 hl4 => ⟨.int way, rfl, l4, _, way, .int bs, rfl, rfl, sq_of upd_same, abs, ?_⟩⟩
      refine ⟨.int way, rfl, rfl, _, rfl, ite2 (fun e => ?_) (fun e => ?_)⟩
      · refine ⟨.ref p, rfl, p, 6, n + 3, rfl, by decide, by decide, hb4.ex (Ex.new hl4), by omega, fun r H5 r0 r1 e5 hb5 => ⟨_, _, rfl, r, rfl, r0, by omega, (eb4.new hl4).trans e5, hb5⟩⟩
      · exact ⟨_, _, rfl, 0, rfl, by decide, by decide, eb4.new hl4, (hb4.ex (Ex.new hl4)).le (by omega)⟩
    · obtain ⟨toll, rfl, t0, t1, eb5, hb5⟩ := hM
      refine q_asgL (el_lst ea_nil (by show 0 ≤ 100000; decide)) fun l5 H6 hl5 e6 h6 => ?_
      have hpl : p ≠ l5 := hb5.ne hl5
      have hl5H : H l5 = none := eb5.back hl5 (Ne.symm hpl)
      refine q_forR1 (n := 1 + r1) (ea_cons (ev_var rfl) ea_nil) (by omega) (fun i σ' H' => ∃ (y : Option V) (vs : List V) (rs : HH.Row), σ' = [some (.ref p), some (.int (m : Int)), some (.int (1 + r1)), some (.int way), some (.int rise), some (.int high), some (.int dear), some (.int bs), some (.int toll), some (.ref l5), y] ∧ rs.length = i ∧ H' l5 = some (.lst vs) ∧ Beasts K H' vs rs ∧ (∀ b ∈ rs, Tame b) ∧ Bx H' p (n + 4 + 2 * i) ∧ ExB p H H') (fun H7 e7 => ?_) (fun i σ' H7 hi hp => ?_) (fun σ' H7 hp => ?_)
      · exact ⟨none, [], [], rfl, rfl, e7 _ _ h6, Beasts.nil, (fun b h => by cases h), (hb5.ex (e6.trans e7)).le (by omega), eb5.trans (.of (e6.trans e7))⟩
      · obtain ⟨y, vs, rs, rfl, p1, p2, p3, p4, p5, p6⟩ := hp
        have hri := mul_bd hr0 hr1 (Int.natCast_nonneg i) (show (i : Int) ≤ 40 by omega)
        refine ⟨.ref l5, rfl, .inl ⟨rfl, _, sq_of p2⟩, .int bs, rfl, .int rise, rfl, .int (i : Int), rfl, rise, (i : Int), rfl, rfl, .inl ⟨by omega, by omega⟩, bs, rise * (i : Int), rfl, rfl, .ref p, rfl, .int high, rfl, p, high, n + 4 + 2 * i, rfl, by omega, by omega, p5, by omega, fun s1 H8 s10 s11 e8 hb8 => ?_⟩
        refine ⟨_, _, rfl, rfl, .int toll, rfl, .ref p, rfl, .int dear, rfl, p, dear, n + 4 + 2 * i + 1, rfl, by omega, by omega, hb8, by omega, fun s2 H9 s20 s21 e9 hb9 => ?_⟩
        refine ⟨toll, s2, rfl, rfl, by show 2 ≤ sizeLine; decide, fun T hT => ?_⟩
        have q8 := e8 _ _ (Ne.symm hpl) p2
        have q9 := e9 _ _ (Ne.symm hpl) q8
        have hlT : l5 ≠ T := ne_of_none q9 hT
        have q10 : (upd H9 T (.tup [.int (bs + rise * (i : Int) + s1), .int (toll + s2)])) l5 = some (.lst vs) := by
          rw [upd_ne hlT]
          exact q9
        obtain ⟨xs8, hx8⟩ := p5.lst
        obtain ⟨xs9, hx9⟩ := hb8.lst
        have b10 : Beasts K (upd H9 T (.tup [.int (bs + rise * (i : Int) + s1), .int (toll + s2)])) vs rs := ((p3.exB e8 hx8).exB e9 hx9).ex (Ex.new hT)
        have bt : BeastAt K (upd H9 T (.tup [.int (bs + rise * (i : Int) + s1), .int (toll + s2)])) (.ref T) (bs + rise * (i : Int) + s1, toll + s2) := ⟨T, rfl, st_of upd_same⟩
        refine ⟨l5, vs, .ref T, rfl, rfl, q10, sz_lt (by rw [p3.1]; omega), some (.int (i : Int)), vs ++ [.ref T], rs ++ [(bs + rise * (i : Int) + s1, toll + s2)], rfl, ?_, upd_same, ?_, ?_, ?_, ?_⟩
        · rw [List.length_append, p1]
          rfl
        · exact (b10.app (Beasts.one bt)).exB (ExB.refl _ _).upd q10
        · intro b hb
          rcases List.mem_append.mp hb with h | h
          · exact p4 b h
          · have e := List.mem_singleton.mp h
            subst e
            have e12 : (10 : Int) ^ 12 = 1000000000000 := by decide
            unfold Tame
            rw [e12]
            refine ⟨?_, ?_, ?_, ?_⟩ <;> dsimp only <;> omega
        · exact (((hb9.ex (Ex.new hT)).mut hpl).le (by omega))
        · exact ((((p6.trans e8).trans e9).new hT).mut hl5H)
      · obtain ⟨y, vs, rs, rfl, p1, p2, p3, p4, p5, p6⟩ := hp
        refine ⟨.ref l5, rfl, .inl ⟨l5, vs, rfl, sq_of p2, fun T hT => ?_⟩⟩
        exact q _ _ rs (p6.new hT) ((p5.ex (Ex.new hT)).le (by omega)) ⟨T, vs, rfl, st_of upd_same, p3.ex (Ex.new hT)⟩ (by omega) (by omega) p4
theorem ok_law_lets {f : Addr} {fd : FuncData} (F : FnP K "_law_lets" s_law_lets f fd) (g : mg "_law_lets" = some (.ref f)) (b : Binds K fd ["_law_row_here", "_law_place"] []) : Has P w K mg base 1 "_law_lets" ["_law_row_here", "_law_place"] (spCanPass K) f fd := by
  refine ⟨F.ok sc_law_lets (fun vs H Q E h => ?_) (fun cdv A outer s H vs Q E hr h => ?_), g, F.kp, b⟩
  · obtain ⟨v, rs, p, rfl, _⟩ := h
    rfl
  · obtain ⟨v, rs, p, rfl, hv, hp, q⟩ := h
    refine ⟨_, PSs.nox (pss_one (ps_ret (pe_and (pe_cmpR op_gt (pv 1) pe_int (nomark _)) (pe_one (pe_cmpR op_gt (pe_op op_sub (pe_ix ix_tup (pe_ix ix_tup (pv 0) (pv 1) (fun _ _ => rfl)) pe_int (fun _ _ => rfl)) (pe_ix ix_tup (pe_ix ix_tup (pv 0) (pe_op op_sub (pv 1) pe_int) (fun _ _ => rfl)) pe_int (fun _ _ => rfl))) (pe_ix ix_tup (pe_ix ix_tup (pv 0) (pe_op op_sub (pv 1) pe_int) (fun _ _ => rfl)) pe_int (fun _ _ => rfl)) (nomark _)))))), ?_⟩
    refine s_ret (v := .bl (decide ((p : Int) > 0) && decide (sS rs p - tS rs (p - 1) > sS rs (p - 1)))) (ev_andV (ev_op (ev_var rfl) ev_c rv_I0) fun hb => ?_) fun H1 e1 => ?_
    · have hp0 : 0 < p := by
        have := of_decide_eq_true hb
        omega
      refine ev_op (ev_op (ev_str (ev_var rfl) hv (ev_var rfl) rfl (row_get hp)) (ev_tol (ev_var rfl) hv (ev_op (ev_var rfl) ev_c rv_I0) (show (p : Int) - 1 = ((p - 1 : Nat) : Int) by omega) (row_get (by omega))) rv_I0) (ev_str (ev_var rfl) hv (ev_op (ev_var rfl) ev_c rv_I0) (show (p : Int) - 1 = ((p - 1 : Nat) : Int) by omega) (row_get (by omega))) rv_I0
    · have e : letsN rs p = (decide ((p : Int) > 0) && decide (sS rs p - tS rs (p - 1) > sS rs (p - 1))) := by
        unfold letsN
        congr 1
        exact decide_eq_decide.mpr (by omega)
      rw [← e]
      exact q H1 e1
theorem ok_law_passed {f : Addr} {fd : FuncData} (F : FnP K "_law_passed" s_law_passed f fd) (g : mg "_law_passed" = some (.ref f)) (b : Binds K fd ["_law_row_here", "_law_place"] []) : Has P w K mg base 1 "_law_passed" ["_law_row_here", "_law_place"] (spPassed K) f fd := by
  refine ⟨F.ok sc_law_passed (fun vs H Q E h => ?_) (fun cdv A outer s H vs Q E hr h => ?_), g, F.kp, b⟩
  · obtain ⟨v, rs, p, rfl, _⟩ := h
    rfl
  · obtain ⟨v, rs, p, rfl, hv, hl, ⟨h0, hp⟩, q⟩ := h
    refine ⟨_, PSs.nox (pss_cons (ps_asg (pe_tup (pa_cons (pe_ix ix_tup (pv 0) (pe_op op_sub (pv 1) pe_int) (fun _ _ => rfl)) (pa_cons (pe_ix ix_tup (pv 0) (pv 1) (fun _ _ => rfl)) pa_nil))) (pg_tup rfl (pgs_cons (pg_name (i := 2) sc_law_passed.nd rfl (Or.inl rfl)) (pgs_cons (pg_tup rfl (pgs_cons (pg_name (i := 3) sc_law_passed.nd rfl (Or.inl rfl)) (pgs_cons (pg_name (i := 4) sc_law_passed.nd rfl (Or.inl rfl)) pgs_nil))) pgs_nil))))
      (pss_one (ps_ret (pe_op op_catA (pe_op op_catA (pe_slice sl_tupA (pv 0) po_none (po_some (pe_op op_sub (pv 1) pe_int))) (pe_tup (pa_cons (pe_tup (pa_cons (pe_op op_sub (pv 3) (pe_ix ix_tup (pv 2) pe_int (fun _ _ => rfl))) (pa_cons (pv 4) pa_nil))) (pa_cons (pv 2) pa_nil)))) (pe_slice sl_tupA (pv 0) (po_some (pe_op op_add (pv 1) pe_int)) po_none))))), ?_⟩
    obtain ⟨a, h1, h2⟩ := ev_beast (te := tVar 0) (ti := tOp (rI0 fun i j => .int (i - j)) (tVar 1) (tC (.int 1))) (σ := start ["_law_row_here", "_law_place", "_law_ahead", "_law_strength", "_law_toll"] [v, .int (p : Int)]) (ev_var rfl) hv (ev_op (ev_var rfl) ev_c rv_I0) (show (p : Int) - 1 = ((p - 1 : Nat) : Int) by omega) (row_get (i := p - 1) (by omega))
    obtain ⟨c, g1, g2⟩ := ev_beast (te := tVar 0) (ti := tVar 1) (σ := start ["_law_row_here", "_law_place", "_law_ahead", "_law_strength", "_law_toll"] [v, .int (p : Int)]) (ev_var rfl) hv (ev_var rfl) rfl (row_get hp)
    refine q_asg12 h1 g1 g2 fun H1 e1 => ?_
    refine s_retR (rs := passR rs p) (er_cat (er_cat (er_to (er_val (ev_var rfl) (hv.ex e1)) (ev_op (ev_var rfl) ev_c rv_I0) (show (p : Int) - 1 = ((p - 1 : Nat) : Int) by omega)) (er_two (eb_tup (ev_op (ev_var rfl) (ev_op (ev_var rfl) ev_c (rv_ixT (ex_t e1 h2) rfl)) rv_I0) (ev_var rfl)) (eb_val (ev_var rfl) ⟨a, rfl, ex_t e1 h2⟩)) ?_) (er_from (er_val (ev_var rfl) (hv.ex e1)) (ev_op (ev_var rfl) ev_c rv_I0) (show (p : Int) + 1 = ((p + 1 : Nat) : Int) by omega)) ?_) fun v' H2 e2 h => q v' H2 (e1.trans e2) h
    · rw [List.length_take]
      show min (p - 1) rs.length + 2 ≤ 100000
      omega
    · rw [List.length_append, List.length_take, List.length_drop]
      show min (p - 1) rs.length + 2 + (rs.length - (p + 1)) ≤ 100000
      omega
theorem ok_law_fallen {f : Addr} {fd : FuncData} (F : FnP K "_law_fallen" s_law_fallen f fd) (g : mg "_law_fallen" = some (.ref f)) (b : Binds K fd ["_law_row_here", "_law_place"] []) : Has P w K mg base 1 "_law_fallen" ["_law_row_here", "_law_place"] (spFallen K) f fd := by
  refine ⟨F.ok sc_law_fallen (fun vs H Q E h => ?_) (fun cdv A outer s H vs Q E hr h => ?_), g, F.kp, b⟩
  · obtain ⟨v, rs, p, rfl, _⟩ := h
    rfl
  · obtain ⟨v, rs, p, rfl, hv, hl, hp, q⟩ := h
    refine ⟨_, PSs.nox (pss_cons (ps_asg (pe_tup (pa_cons (pe_ix ix_tup (pv 0) (pv 1) (fun _ _ => rfl)) (pa_cons (pe_ix ix_tup (pv 0) (pe_op op_add (pv 1) pe_int) (fun _ _ => rfl)) pa_nil))) (pg_tup rfl (pgs_cons (pg_tup rfl (pgs_cons (pg_name (i := 2) sc_law_fallen.nd rfl (Or.inl rfl)) (pgs_cons (pg_name (i := 3) sc_law_fallen.nd rfl (Or.inl rfl)) pgs_nil))) (pgs_cons (pg_name (i := 4) sc_law_fallen.nd rfl (Or.inl rfl)) pgs_nil))))
      (pss_one (ps_ret (pe_op op_catA (pe_op op_catA (pe_slice sl_tupA (pv 0) po_none (po_some (pv 1))) (pe_tup (pa_cons (pv 4) (pa_cons (pe_tup (pa_cons (pe_op op_add (pv 2) (pe_ix ix_tup (pv 4) pe_int (fun _ _ => rfl))) (pa_cons (pv 3) pa_nil))) pa_nil)))) (pe_slice sl_tupA (pv 0) (po_some (pe_op op_add (pv 1) pe_int)) po_none))))), ?_⟩
    obtain ⟨a, h1, h2⟩ := ev_beast (te := tVar 0) (ti := tOp (rI0 fun i j => .int (i + j)) (tVar 1) (tC (.int 1))) (σ := start ["_law_row_here", "_law_place", "_law_strength", "_law_toll", "_law_behind_here"] [v, .int (p : Int)]) (ev_var rfl) hv (ev_op (ev_var rfl) ev_c rv_I0) (show (p : Int) + 1 = ((p + 1 : Nat) : Int) by omega) (row_get hp)
    obtain ⟨c, g1, g2⟩ := ev_beast (te := tVar 0) (ti := tVar 1) (σ := start ["_law_row_here", "_law_place", "_law_strength", "_law_toll", "_law_behind_here"] [v, .int (p : Int)]) (ev_var rfl) hv (ev_var rfl) rfl (row_get (i := p) (by omega))
    refine q_asg21 g1 h1 g2 fun H1 e1 => ?_
    refine s_retR (rs := fallR rs p) (er_cat (er_cat (er_to (er_val (ev_var rfl) (hv.ex e1)) (ev_var rfl) rfl) (er_two (eb_val (ev_var rfl) ⟨a, rfl, ex_t e1 h2⟩) (eb_tup (ev_op (ev_var rfl) (ev_op (ev_var rfl) ev_c (rv_ixT (ex_t e1 h2) rfl)) rv_I0) (ev_var rfl))) ?_) (er_from (er_val (ev_var rfl) (hv.ex e1)) (ev_op (ev_var rfl) ev_c rv_I0) (show (p : Int) + 2 = ((p + 2 : Nat) : Int) by omega)) ?_) fun v' H2 e2 h => q v' H2 (e1.trans e2) h
    · rw [List.length_take]
      show min p rs.length + 2 ≤ 100000
      omega
    · rw [List.length_append, List.length_take, List.length_drop]
      show min p rs.length + 2 + (rs.length - (p + 2)) ≤ 100000
      omega
end
end K71
set_option maxHeartbeats 4000000
namespace K71
open PySem PySem.Spec PyProof.Rows L2 Evl HH RZ
section
variable {P : Program} {w : World} {K : PySem.W.Frag} {mg : Str → Option Value} {base : Heap}
theorem ok_way_to {f f1 f2 f3 : Addr} {fd fd1 fd2 fd3 : FuncData} (F : FnP K "way_to" s_way_to f fd) (g : mg "way_to" = some (.ref f)) (b : Binds K fd ["row", "order"] []) (h_refuse_not_kept : Has P w K mg base 6 "refuse_not_kept" ["row", "order"] (spNone K) f1 fd1) (h_deeds_toward : Has P w K mg base 2 "deeds_toward" ["row", "order"] (spDeeds K) f2 fd2) (h_led : Has P w K mg base 3 "led" ["row", "deeds"] (spLedA K) f3 fd3) (m_tuple : mg "tuple" = none) : Has P w K mg base 7 "way_to" ["row", "order"] (spWay K) f fd := by
  have h_led := h_led.weak led_weak
  refine ⟨F.ok sc_way_to (fun vs H Q E h => ?_) (fun cdv A outer s H vs Q E hr h => ?_), g, F.kp, b⟩
  · obtain ⟨v, o, rs, L0, rfl, _⟩ := h
    rfl
  · obtain ⟨v, o, rs, L0, rfl, W, l0, q⟩ := h
    refine ⟨_, PSs.nox (pss_cons (ps_expr (pe_call h_refuse_not_kept.G (hr.mono (by decide)) (by rfl) h_refuse_not_kept.g h_refuse_not_kept.kp h_refuse_not_kept.b .nil pass0 (pa_cons (pv 0) (pa_cons (pv 1) pa_nil))))
      (pss_cons (ps_set (i := 2) sc_way_to.nd rfl (.inl rfl) (pe_lst pa_nil))
      (pss_cons (ps_set (i := 3) sc_way_to.nd rfl (.inl rfl) (pv 0))
      (pss_cons (ps_set (i := 4) sc_way_to.nd rfl (.inl rfl) (pv 1))
      (pss_cons (ps_set (i := 5) sc_way_to.nd rfl (.inl rfl) (pe_call h_deeds_toward.G (hr.mono (by decide)) (by rfl) h_deeds_toward.g h_deeds_toward.kp h_deeds_toward.b .nil pass0 (pa_cons (pv 3) (pa_cons (pv 4) pa_nil))))
      (pss_cons (ps_while PassesOwn.never (pt_tru (pv 5)) (pss_cons (ps_expr (pe_bm PySem.F.plainAttrs_list PySem.F.slot_list_append PySem.F.type_list_append mt_append (pv 2) (pa_cons (pe_ix ix_list (pv 5) pe_int (fun _ _ => rfl)) pa_nil)))
      (pss_cons (ps_asg (pe_call h_led.G (hr.mono (by decide)) (by rfl) h_led.g h_led.kp h_led.b .nil pass0 (pa_cons (pv 3) (pa_cons (pe_slice sl_list (pv 5) po_none (po_some pe_int)) pa_nil))) (pg_tup rfl (pgs_cons (pg_name (i := 3) sc_way_to.nd rfl (Or.inl rfl)) (pgs_cons (pg_name (i := 6) sc_way_to.nd rfl (Or.inr rfl)) pgs_nil))))
      (pss_cons (ps_set (i := 4) sc_way_to.nd rfl (.inl rfl) (pe_tupleOf (by rfl) m_tuple (pe_lc (own := [("who", 7)]) (g := gName 7) (by rfl) sc_way_to.nd (pi_tup (pv 4)) (blkOk_by (own := [("who", 7)]) (N := ["row", "order", "way", "now", "goal", "deeds", "step", "who"]) (sc := defScope s_way_to) (by decide +kernel)) (fun _ _ _ _ _ => (pg_name (i := 7) sc_way_to.nd rfl (Or.inl rfl))) (fun _ _ _ _ _ => pts_nil) (fun _ _ _ _ _ => (pe_bmF PySem.F.slot_tuple_index PySem.F.type_tuple_index (mt_tup_indexK (K := K)) (pv 6) (pa_cons (pv 7) pa_nil))))))
      (pss_one (ps_set (i := 5) sc_way_to.nd rfl (.inl rfl) (pe_call h_deeds_toward.G (hr.mono (by decide)) (by rfl) h_deeds_toward.g h_deeds_toward.kp h_deeds_toward.b .nil pass0 (pa_cons (pv 3) (pa_cons (pv 4) pa_nil)))))))))
      (pss_one (ps_ret (pv 2))))))))), ?_⟩
    refine ⟨v, rfl, .ref o, rfl, v, o, rs, L0, rfl, W, fun H2 e2 => ?_⟩
    refine ⟨by show 0 ≤ sizeLine; decide, fun fa hfa => ?_⟩
    have n1 := Ex.new (o := .lst []) hfa
    have gf : (upd H2 fa (.lst [])) fa = some (.lst []) := upd_same
    have hfH : H fa = none := fresh_back e2 hfa
    have W1 := (W.ex e2).ex n1
    have e21 := e2.trans n1
    generalize upd H2 fa (.lst []) = H3 at n1 gf W1 e21 ⊢
    refine g_at [some v, some (.ref o), some (.ref fa), none, none, none, none, none] rfl ?_
    refine q_asg (ev_var rfl) fun H4 e4 => ?_
    refine s_at [some v, some (.ref o), some (.ref fa), some v, none, none, none, none] rfl ?_
    refine q_asg (ev_var rfl) fun H5 e5 => ?_
    refine s_at [some v, some (.ref o), some (.ref fa), some v, some (.ref o), none, none, none] rfl ?_
    have e45 := e4.trans e5
    have W5 := W1.ex e45
    refine ⟨v, rfl, .ref o, rfl, v, o, rs, L0, rfl, W5, l0, fun dq us H6 hdq e6 g6 b6 => ?_⟩
    refine g_at [some v, some (.ref o), some (.ref fa), some v, some (.ref o), some (.ref dq), none, none] rfl ?_
    have t0 := tab_small (L0.map (·.1)) W.len
    dsimp only
    refine q_while (fun m σ' H' => ∃ (v' : V) (o' dq : Addr) (r : HH.Row) (L : List Cow) (us ws : List V) (dsf : List Deed) (y6 y7 : Option V), σ' = [some v, some (.ref o), some (.ref fa), some v', some (.ref o'), some (.ref dq), y6, y7] ∧ m = (tab (L.map (·.1)) r.length r.length).length ∧ Went K H' v' o' r L ∧ 0 < r.length ∧ H' dq = some (.lst us) ∧ All2 (DeedAt K H') us (nearD r (L.map (·.1))) ∧ H' fa = some (.lst ws) ∧ ws.length + m ≤ 10000 ∧ Ex H H' ∧ dq ≠ fa ∧ All2 (DeedAt K H') ws dsf ∧ ∀ ds', WayR r (L.map (·.1)) ds' → WayR rs (L0.map (·.1)) (dsf ++ ds')) (tab (L0.map (·.1)) rs.length rs.length).length ?_ fun m σ' H' hW => ?_
    · refine ⟨v, o, dq, rs, L0, us, [], [], none, none, rfl, rfl, W5.ex e6, l0, g6, b6, (e45.trans e6) _ _ gf, ?_, e21.trans (e45.trans e6), ?_, .nil, fun ds' h => h⟩
      · show 0 + _ ≤ 10000
        omega
      · exact fun z => by rw [z, (e45) _ _ gf] at hdq; cases hdq
    · obtain ⟨v', o', dq, r, L, us, ws, dsf, y6, y7, rfl, rfl, W, l0, g1, b1, gf, few, x, ne, wd, way⟩ := hW
      refine ⟨!us.isEmpty, (fun H1 e1 Q q => ⟨.ref dq, rfl, !us.isEmpty, .inl ⟨us, sq_of (e1 _ _ g1), rfl⟩, q H1 (Ex.refl _)⟩), fun hd H1 e1 => ?_, fun hd H1 e1 => ?_⟩
      · cases hu : us with
        | nil =>
          rw [hu] at hd
          cases hd
        | cons u us' =>
          obtain ⟨d, hd0, du⟩ := All2.get b1 (show us[0]? = some u by rw [hu]; rfl)
          obtain ⟨rest, hnear⟩ : ∃ rest, nearD r (L.map (·.1)) = d :: rest := by
            cases c : nearD r (L.map (·.1)) with
            | nil => rw [c] at hd0; cases hd0
            | cons d' rest => rw [c] at hd0; cases hd0; exact ⟨rest, rfl⟩
          obtain ⟨ok, bd⟩ := near_ok (List.mem_of_getElem? hd0)
          obtain ⟨L1, run1, row1, ids1, atl⟩ := deed_run ok
          obtain ⟨lenD, tlD⟩ := doR_ok ok W.tl
          obtain ⟨ds, run⟩ := W.run
          have ids := run_ids W.tl run
          have idsL1 := run_ids W.tl run1
          have nd1 : (L1.map (·.1)).Nodup := idsL1.nodup_iff.mpr List.nodup_range
          refine ⟨_, fun σ2 H2 h => h, ?_⟩
          have g1' := e1 _ _ g1
          rw [hu] at g1'
          have a0 : atI (u :: us') ((0 : Nat) : Int) = some u := atI_nat rfl
          refine q_app (e1 _ _ gf) (ev_var rfl) (ev_op (ev_var rfl) ev_c (rv_ixL (K := K) (sq_of g1') a0)) (by omega) fun H2 e2 => ?_
          have gf2 := (e1.trans e2) _ _ gf
          have x2 : ExB fa H2 (upd H2 fa (.lst (ws ++ [u]))) := (ExB.refl _ _).upd
          have row2 := (W.row.ex (e1.trans e2)).exL x2 gf2
          have ord2 := x2.t gf2 (ex_t (e1.trans e2) W.ord)
          have gd2 := x2 _ _ ne (e2 _ _ g1')
          have du2 : DeedAt K (upd H2 fa (.lst (ws ++ [u]))) u d := by
            obtain ⟨p, hp, tp⟩ := du.ex' (e1.trans e2)
            exact ⟨p, hp, x2.t gf2 tp⟩
          have wd2 : All2 (DeedAt K (upd H2 fa (.lst (ws ++ [u])))) (ws ++ [u]) (dsf ++ [d]) := All2.app (deeds_exB x2 gf2 (deeds_ex (e1.trans e2) wd)) (.cons du2 .nil)
          have eH : Ex H (upd H2 fa (.lst (ws ++ [u]))) := Ex.mut (x.trans (e1.trans e2)) hfH
          have gf3 : (upd H2 fa (.lst (ws ++ [u]))) fa = some (.lst (ws ++ [u])) := upd_same
          generalize upd H2 fa (.lst (ws ++ [u])) = H3 at row2 ord2 gd2 du2 wd2 eH gf3 ⊢
          refine ⟨v', rfl, .ref dq, rfl, ?_⟩
          refine ⟨(1 : Int), rfl, dq, u :: us', rfl, sq_of gd2, fun cq hcq => ?_⟩
          rw [show cutV (u :: us') none (some 1) = [u] from cut_to (u :: us') 1]
          have n4 := Ex.new (o := .lst [u]) hcq
          have gc : (upd H3 cq (.lst [u])) cq = some (.lst [u]) := upd_same
          generalize upd H3 cq (.lst [u]) = H4 at n4 gc ⊢
          refine ⟨v', r, cq, u, d, rfl, row2.ex n4, W.len, sq_of gc, du2.ex' n4, ok, fun q5 t5 v5 H5 e5 h5 row5 ft5 => ?_⟩
          refine ⟨q5, _, rfl, st_of h5, rfl, _, _, rfl, _, _, rfl, rfl, ?_⟩
          try dsimp only
          refine s_at [some v, some (.ref o), some (.ref fa), some v5, some (.ref o'), some (.ref dq), some (.ref t5), y7] rfl ?_
          have e35 := n4.trans e5
          have mem : ∀ y ∈ L.map (·.1), y ∈ L1.map (·.1) := fun y hy => idsL1.mem_iff.mpr (ids.mem_iff.mp hy)
          obtain ⟨ps, hps⟩ := Classical.axiomOfChoice (r := fun y k => y ∈ L.map (·.1) → (L1.map (·.1))[k]? = some y) fun y => by
            by_cases hy : y ∈ L.map (·.1)
            · obtain ⟨k, hk⟩ := List.getElem?_of_mem (mem y hy)
              exact ⟨k, fun _ => hk⟩
            · exact ⟨0, fun h => absurd h hy⟩
          have lenL := W.lenL
          have wl := W.len
          rw [← ids1] at ft5
          have key := eu_tupL (K := K) (el_mapT (K := K) (σ := [some v, some (.ref o), some (.ref fa), some v5, some (.ref o'), some (.ref dq), some (.ref t5), y7]) (H := H5) (te := tVar 4) (t1 := tBMF (rTIdx K) (tVar 6) (tCons (tVar 7) tNil)) (o := o') (l := L.map (·.1)) (j := 7) (vs := [7]) (fun y => .int (ps y : Int)) (ev_var rfl) (ex_t e35 ord2) (by omega) (fun y => rfl) (fun y hy H1 e1 H2 e2 Q2 q2 => ?_))
          · refine key H5 (Ex.refl H5) _ fun gq H6 hgq e6 g6 => ?_
            refine g_at [some v, some (.ref o), some (.ref fa), some v5, some (.ref gq), some (.ref dq), some (.ref t5), y7] rfl ?_
            have ag : Again (L1.map (·.1)) (L.map (·.1)) ((L.map (·.1)).map ps) := by
              refine ⟨?_, fun z hz => ?_⟩
              · rw [List.map_map]
                refine (List.map_id _).symm.trans (List.map_congr_left fun y hy => ?_)
                show y = HH.ixN (L1.map (·.1)) (ps y)
                unfold HH.ixN
                rw [hps y hy]
                rfl
              · obtain ⟨y, hy, rfl⟩ := List.mem_map.mp hz
                exact (List.getElem?_eq_some_iff.mp (hps y hy)).1
            have kp := keeps_again W.tl run1 run ag
            rw [row1] at kp
            have g6 : H6 gq = some (.tup (natsV ((L.map (·.1)).map ps))) := by
              rw [g6]
              unfold natsV
              simp only [List.map_map]
              rfl
            generalize (L.map (·.1)).map ps = sl at ag kp g6
            obtain ⟨L2, W2, eL2⟩ := went_of (row5.ex e6) (by rw [lenD]; exact W.len) tlD (st_of g6) kp
            refine ⟨v5, rfl, .ref gq, rfl, v5, gq, doR r d, L2, rfl, W2, by omega, fun dq2 us2 H7 hdq2 e7 g7 b7 => ?_⟩
            have e37 := e35.trans (e6.trans e7)
            have gf7 := e37 _ _ gf3
            have les : (tab sl r.length r.length).length < (tab (L.map (·.1)) r.length r.length).length := by
              refine tab_less ids atl bd ?_ fun z hz => ?_
              · rw [← ids1]
                exact ag.1
              · have := ag.2 z hz
                rw [idsL1.length_eq, List.length_range] at this
                exact this
            refine ⟨_, les, v5, gq, dq2, doR r d, L2, us2, ws ++ [u], dsf ++ [d], some (.ref t5), y7, rfl, ?_, W2.ex e7, by omega, g7, b7, gf7, ?_, eH.trans e37, ?_, deeds_ex e37 wd2, fun ds' h => ?_⟩
            · rw [eL2, lenD]
            · rw [List.length_append]
              show ws.length + 1 + _ ≤ 10000
              omega
            · exact fun z => by rw [z, (e35.trans e6) _ _ gf3] at hdq2; cases hdq2
            · rw [List.append_assoc]
              refine way _ (WayR.cons hnear (by rw [← ids1]; exact ag) ?_)
              rw [← eL2]
              exact h
          · have hk := hps y hy
            obtain ⟨ob, pt, hbf⟩ := ft5.ex (e1.trans e2)
            refine ⟨.ref t5, rfl, ⟨t5, ob, _, rfl, hbf, pt⟩, .int (y : Int), rfl, t5, (L1.map (·.1)).map fun (x : Nat) => (x : Int), (y : Int), ps y, rfl, rfl, ?_, ?_, fun m hm z => ?_, q2 H2 (Ex.refl H2)⟩
            · rw [← natsV_int]
              exact (ft5.ex (e1.trans e2)).sq
            · rw [List.getElem?_map, hk]
              rfl
            · rw [List.getElem?_map] at z
              cases c : (L1.map (·.1))[m]? with
              | none =>
                rw [c] at z
                cases z
              | some w' =>
                rw [c] at z
                have : (w' : Int) = (y : Int) := Option.some.inj z
                have e : w' = y := by omega
                subst e
                have := nd_at nd1 c hk
                omega
      · have hnil : nearD r (L.map (·.1)) = [] := by
          cases hu : us with
          | nil =>
            rw [hu] at b1
            cases c : nearD r (L.map (·.1)) with
            | nil => rfl
            | cons a b => rw [c] at b1; cases b1
          | cons u us' =>
            rw [hu] at hd
            cases hd
        refine s_ret (D := { nx := fun _ H' => Q .non H', rt := Q }) (ev_var rfl) fun H8 e8 => q fa ws dsf H8 hfH (x.trans (e1.trans e8)) ((e1.trans e8) _ _ gf) (deeds_ex (e1.trans e8) wd) ?_
        have := way [] (.nil hnil)
        rw [List.append_nil] at this
        exact this
end
end K71
set_option maxHeartbeats 4000000
namespace K71
open PySem PySem.Spec PyProof.Rows L2 Evl HH RZ
section
variable {P : Program} {w : World} {K : PySem.W.Frag} {mg : Str → Option Value} {base : Heap}
theorem ok_law_deeds {f f1 f2 f3 : Addr} {fd fd1 fd2 fd3 : FuncData} (F : FnP K "_law_deeds" s_law_deeds f fd) (g : mg "_law_deeds" = some (.ref f)) (b : Binds K fd ["_law_pen"] []) (h_law_lets : Has P w K mg base 1 "_law_lets" ["_law_row_here", "_law_place"] (spCanPass K) f1 fd1) (h_law_passed : Has P w K mg base 1 "_law_passed" ["_law_row_here", "_law_place"] (spPassed K) f2 fd2) (h_law_fallen : Has P w K mg base 1 "_law_fallen" ["_law_row_here", "_law_place"] (spFallen K) f3 fd3)
    (m_range : mg "range" = none) (m_len : mg "len" = none) : Has P w K mg base 2 "_law_deeds" ["_law_pen"] (spDts K) f fd := by
  refine ⟨F.ok sc_law_deeds (fun vs H Q E h => ?_) (fun cdv A outer s H vs Q E hr h => ?_), g, F.kp, b⟩
  · obtain ⟨v, rs, rfl, _⟩ := h
    rfl
  · obtain ⟨v, rs, rfl, hv, r0, rm, q⟩ := h
    refine ⟨_, PSs.nox (pss_cons (ps_set (i := 1) sc_law_deeds.nd rfl (.inl rfl) (pe_lst pa_nil))
      (pss_cons (ps_for PassesOwn.never rfl (pi_range2 (by rfl) m_range (pa_cons pe_int (pa_cons (pe_callB call_len_seq (by rfl) m_len PySem.boot_len (pa_cons (pv 0) pa_nil)) pa_nil))) (pg_name (i := 2) sc_law_deeds.nd rfl (Or.inl rfl))
        (pss_one (ps_if (pt_val (pe_call h_law_lets.G (hr.mono (by decide)) (by rfl) h_law_lets.g h_law_lets.kp h_law_lets.b .nil pass0 (pa_cons (pv 0) (pa_cons (pv 2) pa_nil)))) (pss_one (ps_expr (pe_bm PySem.F.plainAttrs_list PySem.F.slot_list_append PySem.F.type_list_append mt_append (pv 1) (pa_cons (pe_tup (pa_cons (pe_tup (pa_cons pe_str (pa_cons (pv 2) pa_nil))) (pa_cons (pe_call h_law_passed.G (hr.mono (by decide)) (by rfl) h_law_passed.g h_law_passed.kp h_law_passed.b .nil pass0 (pa_cons (pv 0) (pa_cons (pv 2) pa_nil))) (pa_cons (pv 2) pa_nil)))) pa_nil)))) (pss_one (ps_if (pt_cmpR op_gt (pe_ix ix_tup (pe_ix ix_tup (pv 0) (pe_op op_sub (pv 2) pe_int) (fun _ _ => rfl)) pe_int (fun _ _ => rfl)) (pe_ix ix_tup (pe_ix ix_tup (pv 0) (pv 2) (fun _ _ => rfl)) pe_int (fun _ _ => rfl)) (nomark _)) (pss_one (ps_expr (pe_bm PySem.F.plainAttrs_list PySem.F.slot_list_append PySem.F.type_list_append mt_append (pv 1) (pa_cons (pe_tup (pa_cons (pe_tup (pa_cons pe_str (pa_cons (pe_op op_sub (pv 2) pe_int) pa_nil))) (pa_cons (pe_call h_law_fallen.G (hr.mono (by decide)) (by rfl) h_law_fallen.g h_law_fallen.kp h_law_fallen.b .nil pass0 (pa_cons (pv 0) (pa_cons (pe_op op_sub (pv 2) pe_int) pa_nil))) (pa_cons (pv 2) pa_nil)))) pa_nil)))) pss_nil)))))
      (pss_one (ps_ret (pv 1))))), ?_⟩
    refine ⟨by show 0 ≤ sizeLine; decide, fun fa hfa => ?_⟩
    have n1 := Ex.new (o := .lst []) hfa
    have gf1 : (upd H fa (.lst [])) fa = some (.lst []) := upd_same
    generalize upd H fa (.lst []) = H1 at n1 gf1 ⊢
    try dsimp only
    refine g_at [some v, some (.ref fa), none] rfl ?_
    have row1 := hv.ex n1
    refine q_forR2 (lo := 1) (n := (rs.length : Int)) (ea_cons ev_c (ea_cons (ev_lenR (K := K) (ev_var rfl) row1) ea_nil)) ⟨by decide, by decide, by omega, by omega⟩ (fun i σ' H' => ∃ (us : List V) (y2 : Option V), σ' = [some v, some (.ref fa), y2] ∧ ExB fa H1 H' ∧ Ex H H' ∧ H' fa = some (.lst us) ∧ DtsAt K H' us rs (movesP rs i))
      (fun H3 e3 => ⟨[], _, rfl, .of e3, n1.trans e3, e3 _ _ gf1, .nil⟩) (fun i σ' H3 hi hW => ?_) (fun σ' H3 hW => ?_)
    · obtain ⟨us, y2, rfl, x3, e3, gf3, tr3⟩ := hW
      have ei : (1 : Int) + (i : Int) = ((i + 1 : Nat) : Int) := by omega
      rw [ei]
      have hi1 : i + 1 < rs.length := by omega
      refine s_at [some v, some (.ref fa), some (.int ((i + 1 : Nat) : Int))] rfl ?_
      have ul : us.length = (movesP rs i).length := All2.len tr3
      have dl := mv_len (rs := rs) (n := i)
      have row3 := hv.ex e3
      have mvE : movesB rs (i + 1) = (letsN rs (i + 1) || fallsN rs i) := rfl
      have fin : ∀ (tr dq : Addr) (v2 : V) (H12 : Hp), movesB rs (i + 1) = true → Ex H3 H12 → H12 tr = some (.tup [V.ref dq, v2, .int ((i + 1 : Nat) : Int)]) → DeedAt K H12 (.ref dq) (dP rs i) → RowAt K H12 v2 (doR rs (dP rs i)) → ∃ (us : List V) (z2 : Option V), [some v, some (.ref fa), some (.int ((i + 1 : Nat) : Int))] = [some v, some (.ref fa), z2] ∧ ExB fa H1 (upd H12 fa (.lst (us ++ [V.ref tr]))) ∧ Ex H (upd H12 fa (.lst (us ++ [V.ref tr]))) ∧ H12 fa = some (.lst us) ∧ us.length < 100000 ∧ DtsAt K (upd H12 fa (.lst (us ++ [V.ref tr]))) (us ++ [V.ref tr]) rs (movesP rs (i + 1)) := by
        intro tr dq v2 H12 hm e12 gt hd h2
        have gf12 := e12 _ _ gf3
        have x12 : ExB fa H12 (upd H12 fa (.lst (us ++ [V.ref tr]))) := (ExB.refl _ _).upd
        refine ⟨us, _, rfl, (x3.trans (.of e12)).trans x12, Ex.mut (e3.trans e12) hfa, gf12, by omega, ?_⟩
        rw [mv_succ, if_pos hm]
        have tri : DtAt K H12 (.ref tr) rs i := ⟨tr, _, _, rfl, st_of gt, hd, h2⟩
        exact All2.app (All2.mono (fun v p h => (h.ex e12).exL x12 gf12) tr3) (.cons (tri.exL x12 gf12) .nil)
      refine s_if (b := letsN rs (i + 1)) (et_B (ev_call (ea_cons (ev_var rfl) (ea_cons (ev_var rfl) ea_nil)) (sv_can_pass row3 hi1))) (fun hb H4 e4 => ?_) (fun hb H4 e4 => ?_)
      · have hd1 : dP rs i = (true, i + 1) := by unfold dP; rw [if_pos hb]
        refine s_appX (e4 _ _ gf3) (ev_var rfl) (by omega) fun H5 e5 => ?_
        refine ⟨.int ((i + 1 : Nat) : Int), rfl, by show 2 ≤ sizeLine; decide, fun dq hdq => ?_⟩
        have n6 := Ex.new (o := .tup [V.str "pass", .int ((i + 1 : Nat) : Int)]) hdq
        have gd6 : (upd H5 dq (.tup [V.str "pass", .int ((i + 1 : Nat) : Int)])) dq = some (.tup [V.str "pass", .int ((i + 1 : Nat) : Int)]) := upd_same
        have e46 := (e4.trans e5).trans n6
        refine ⟨v, rfl, .int ((i + 1 : Nat) : Int), rfl, v, rs, i + 1, rfl, row3.ex e46, by omega, ⟨Nat.succ_pos _, hi1⟩, fun v2 H7 e7 hv2 => ?_⟩
        refine ⟨.int ((i + 1 : Nat) : Int), rfl, by show 3 ≤ sizeLine; decide, fun tr htr => ?_⟩
        have n8 := Ex.new (o := .tup [V.ref dq, v2, .int ((i + 1 : Nat) : Int)]) htr
        obtain ⟨us', z2, h1, h2, h3, h4, h5, h6⟩ := fin tr dq v2 (upd H7 tr (.tup [V.ref dq, v2, .int ((i + 1 : Nat) : Int)])) (by rw [mvE, hb]; rfl) ((e46.trans e7).trans n8) upd_same ⟨dq, rfl, by rw [hd1]; exact st_of ((e7.trans n8) _ _ gd6)⟩ (by rw [hd1]; exact hv2.ex n8)
        exact ⟨fa, us', .ref tr, rfl, rfl, h4, sz_lt (by omega), _, _, h1, h2, h3, upd_same, h6⟩
      · refine s_when (b := fallsN rs i) (et_is (et_test (ev_op (ev_str (K := K) (ev_var rfl) (row3.ex e4) (ev_op (ev_var rfl) ev_c rv_I0) (show ((i + 1 : Nat) : Int) - 1 = ((i : Nat) : Int) by omega) (row_get (by omega))) (ev_str (K := K) (ev_var rfl) (row3.ex e4) (ev_var rfl) rfl (row_get hi1)) rv_I0)) rfl) (fun hf H5 e5 => ?_) (fun hf H5 e5 => ?_)
        · have hd1 : dP rs i = (false, i) := by unfold dP; rw [if_neg (by rw [hb]; decide)]
          have e45 := e4.trans e5
          refine s_appX (e45 _ _ gf3) (ev_var rfl) (by omega) fun H6 e6 => ?_
          refine ⟨_, rfl, _, _, rfl, rfl, by show 2 ≤ sizeLine; decide, fun dq hdq => ?_⟩
          have n7 := Ex.new (o := .tup [V.str "fall", V.int (((i + 1 : Nat) : Int) - 1)]) hdq
          have gd7 : (upd H6 dq (.tup [V.str "fall", V.int (((i + 1 : Nat) : Int) - 1)])) dq = some (.tup [V.str "fall", .int ((i : Nat) : Int)]) := by
            rw [upd_same, show ((i + 1 : Nat) : Int) - 1 = (i : Int) by omega]
          have e47 := (e45.trans e6).trans n7
          refine ⟨v, rfl, ?_⟩
          refine (ev_is (ev_op (ev_var rfl) ev_c rv_I0) (by congr 1; omega) : Ev (tOp (rI0 fun i j => .int (i - j)) (tVar 2) (tC (.int 1))) [some v, some (.ref fa), some (.int ((i + 1 : Nat) : Int))] _ (.int ((i : Nat) : Int))) _ (Ex.refl _) _ fun H8 e8 => ?_
          refine ⟨v, rs, i, rfl, row3.ex (e47.trans e8), by omega, hi1, fun v2 H9 e9 hv2 => ?_⟩
          refine ⟨.int ((i + 1 : Nat) : Int), rfl, by show 3 ≤ sizeLine; decide, fun tr htr => ?_⟩
          have n8 := Ex.new (o := .tup [V.ref dq, v2, .int ((i + 1 : Nat) : Int)]) htr
          obtain ⟨us', z2, h1, h2, h3, h4, h5, h6⟩ := fin tr dq v2 (upd H9 tr (.tup [V.ref dq, v2, .int ((i + 1 : Nat) : Int)])) (by rw [mvE, hf, Bool.or_true]) (((e47.trans e8).trans e9).trans n8) upd_same ⟨dq, rfl, by rw [hd1]; exact st_of (((e8.trans e9).trans n8) _ _ gd7)⟩ (by rw [hd1]; exact hv2.ex n8)
          exact ⟨fa, us', .ref tr, rfl, rfl, h4, sz_lt (by omega), _, _, h1, h2, h3, upd_same, h6⟩
        · refine ⟨us, _, rfl, x3.trans (.of (e4.trans e5)), e3.trans (e4.trans e5), (e4.trans e5) _ _ gf3, ?_⟩
          rw [mv_succ, if_neg (by rw [mvE, hb, hf]; decide), List.append_nil]
          exact All2.mono (fun v p h => h.ex (e4.trans e5)) tr3
    · obtain ⟨us, y2, rfl, x3, e3, gf3, tr3⟩ := hW
      rw [show ((rs.length : Int) - 1).toNat = rs.length - 1 by omega] at tr3
      exact s_ret (σ := [some v, some (.ref fa), y2]) (D := { nx := fun _ H' => Q .non H', rt := Q }) (ev_var rfl) fun H4 e4 => q fa us H4 hfa (e3.trans e4) (e4 _ _ gf3) (All2.mono (fun v p h => h.ex e4) tr3)
end
end K71
set_option maxHeartbeats 4000000
namespace K71
open PySem PySem.Spec PyProof.Rows L2 Evl HH RZ
section
variable {P : Program} {w : World} {K : PySem.W.Frag} {mg : Str → Option Value} {base : Heap}
theorem ok_is_deed {f f1 : Addr} {fd fd1 : FuncData} (F : FnP K "is_deed" s_is_deed f fd) (g : mg "is_deed" = some (.ref f)) (b : Binds K fd ["thing"] []) (h_is_number : Has P w K mg base 1 "is_number" ["thing"] spIsNum f1 fd1) (m_isinstance : mg "isinstance" = none) (m_tuple : mg "tuple" = none) (m_len : mg "len" = none) : Has P w K mg base 2 "is_deed" ["thing"] (spIsDeed K) f fd := by
  refine ⟨F.ok sc_is_deed (fun vs H Q E h => ?_) (fun cdv A outer s H vs Q E hr h => ?_), g, F.kp, b⟩
  · obtain ⟨v, d, rfl, _⟩ := h
    rfl
  · obtain ⟨v, ⟨w', p⟩, rfl, hd, q⟩ := h
    obtain ⟨dp, rfl, hdp⟩ := hd
    refine ⟨_, PSs.nox (pss_cons (ps_if (PW.pt (pw_or (pt_not (pt_val (pe_callB call_isi (by rfl) m_isinstance (by decide +kernel) (pa_cons (pv 0) (pa_cons (pe_bltn (v := .ty "tuple") (by rfl) m_tuple (by decide +kernel) rfl) pa_nil))))) (pw_or1 (pt_cmpR op_ne (pe_callB call_len_seq (by rfl) m_len PySem.boot_len (pa_cons (pv 0) pa_nil)) pe_int (nomark _))))) (pss_one (ps_ret pe_bl)) pss_nil)
      (pss_one (ps_ret (pe_and (pe_cmpR op_in_seq (pe_ix ix_tup (pv 0) pe_int (fun _ _ => rfl)) (pe_tup (pa_cons pe_str (pa_cons pe_str pa_nil))) (by with_unfolding_all rfl)) (pe_one (pe_call h_is_number.G (hr.mono (by decide)) (by rfl) h_is_number.g h_is_number.kp h_is_number.b .nil pass0 (pa_cons (pe_ix ix_tup (pv 0) pe_int (fun _ _ => rfl)) pa_nil))))))), ?_⟩
    refine q_when (b := false) (et_is (et_or (et_not (et_B (ev_isi (K := K) (ev_var rfl) (.tup hdp) (b := true) (by decide +kernel)))) fun _ => et_test (ev_op (ev_lenT (K := K) (ev_var rfl) hdp) ev_c (rv_ne rfl))) (by simp)) (fun z => by cases z) fun _ H1 e1 => ?_
    have hdp1 := ex_t e1 hdp
    have hin : inV (V.str (wordOf w')) [V.str "pass", V.str "fall"] = true := by cases w' <;> decide
    refine s_ret (ev_andV (a := true) (b := true) (fun H2 e2 Q k => ?_) fun _ => ev_call (ea_cons (ev_op (ev_var rfl) ev_c (rv_ixT (K := K) hdp1 (atI_nat (j := 1) rfl))) ea_nil) (fun H5 e5 Q5 q5 E5 => ⟨_, rfl, q5⟩)) fun H2 e2 => q H2 (e1.trans e2)
    refine (ev_op (ev_var rfl) ev_c (rv_ixT (K := K) hdp1 (atI_nat (j := 0) (v := V.str (wordOf w')) rfl)) : Ev _ _ H1 (.str (wordOf w'))) H2 e2 _ fun H3 e3 => ⟨by show 2 ≤ sizeLine; decide, fun tp htp => ⟨tp, [V.str "pass", V.str "fall"], rfl, .inr (st_of upd_same), rfl, rfl, ?_⟩⟩
    show Q (.bl (inV (V.str (wordOf w')) [V.str "pass", V.str "fall"])) _
    rw [hin]
    exact k _ (e3.trans (Ex.new htp))
theorem ok_leads_to {f f1 : Addr} {fd fd1 : FuncData} (F : FnP K "leads_to" s_leads_to f fd) (g : mg "leads_to" = some (.ref f)) (b : Binds K fd ["row", "order", "deeds"] []) (h_led : Has P w K mg base 3 "led" ["row", "deeds"] (spLedA K) f1 fd1) : Has P w K mg base 4 "leads_to" ["row", "order", "deeds"] (spLeads K) f fd := by
  refine ⟨F.ok sc_leads_to (fun vs H Q E h => ?_) (fun cdv A outer s H vs Q E hr h => ?_), g, F.kp, b⟩
  · obtain ⟨v, o, c, rs, us, ds, rfl, _⟩ := h
    rfl
  · obtain ⟨v, o, c, rs, us, ds, rfl, hv, hl, hc, hd, oks, ho, q⟩ := h
    refine ⟨_, PSs.nox (pss_one (ps_try_calm (fun pn xe => (pss_one (ps_ret (pe_cmpR (op_eqDK (K := K) (by exact hr.units)) (pe_ix (ix_tupK (K := K)) (pe_call h_led.G (hr.mono (by decide)) (by rfl) h_led.g h_led.kp h_led.b .nil pass0 (pa_cons (pv 0) (pa_cons (pv 2) pa_nil))) pe_int (fun _ _ => rfl)) (pv 1) (nomark _))))))), ?_⟩
    refine s_ret (v := .bl true) (fun H1 e1 Q1 k => ?_) fun H1 e1 => q H1 e1
    refine ⟨v, rfl, .ref c, rfl, v, rs, c, us, ds, rfl, hv.ex e1, hl, ex_l e1 hc, deeds_ex e1 hd, oks, fun qq t v' H2 e2 gq hv' ft => ?_⟩
    show rIxT K (V.ref qq) (V.int ((1 : Nat) : Int)) H2 (fun x H1 => tVar 1 (L2.start ["row", "order", "deeds"] [v, V.ref o, V.ref c]) H1 fun y H2 => rEqD K x y H2 Q1)
    exact (rv_ixT (K := K) (st_of gq) (atI_nat (j := 1) (v := .ref t) rfl)) H2 (Ex.refl _) _ fun H3 e3 => ⟨.ref o, rfl, (rv_eqD1 (dp_nats (ft.ex e3).sq) (dp_nats (ex_t ((e1.trans e2).trans e3) ho)) (nice_nats _) (by decide)) H3 (Ex.refl _) _ fun H4 e4 => k H4 ((e2.trans e3).trans e4)⟩
theorem ok_shows_way {f f1 f2 f3 : Addr} {fd fd1 fd2 fd3 : FuncData} (F : FnP K "shows_way" s_shows_way f fd) (g : mg "shows_way" = some (.ref f)) (b : Binds K fd ["row", "order", "thing"] []) (h_turned_about : Has P w K mg base 2 "turned_about" ["order"] (spTurnedT K) f1 fd1) (h_is_deed : Has P w K mg base 2 "is_deed" ["thing"] (spIsDeed K) f2 fd2) (h_leads_to : Has P w K mg base 4 "leads_to" ["row", "order", "deeds"] (spLeads K) f3 fd3)
    (m_isinstance : mg "isinstance" = none) (m_list : mg "list" = none) (m_len : mg "len" = none) (m_all : mg "all" = none) : Has P w K mg base 5 "shows_way" ["row", "order", "thing"] (spShowsW K) f fd := by
  refine ⟨F.ok sc_shows_way (fun vs H Q E h => ?_) (fun cdv A outer s H vs Q E hr h => ?_), g, F.kp, b⟩
  · obtain ⟨v, o, c, rs, L, us, rfl, _⟩ := h
    rfl
  · obtain ⟨v, o, c, rs, L, us, rfl, W, r0, hc, ul, hq⟩ := h
    refine ⟨_, PSs.nox (pss_cons (ps_if (PW.pt (pw_or (pt_not (pt_val (pe_callB call_isi (by rfl) m_isinstance (by decide +kernel) (pa_cons (pv 2) (pa_cons (pe_bltn (v := .ty "list") (by rfl) m_list (by decide +kernel) rfl) pa_nil))))) (pw_or1 (pt_cmpR op_ne (pe_callB call_len_seq (by rfl) m_len PySem.boot_len (pa_cons (pv 2) pa_nil)) (pe_callB call_len_seq (by rfl) m_len PySem.boot_len (pa_cons (pe_call h_turned_about.G (hr.mono (by decide)) (by rfl) h_turned_about.g h_turned_about.kp h_turned_about.b .nil pass0 (pa_cons (pv 1) pa_nil)) pa_nil)) (nomark _))))) (pss_one (ps_ret pe_bl)) pss_nil)
      (pss_one (ps_ret (pe_and (pe_callB (cr_all rfl) (by rfl) m_all (by decide +kernel) (pa_cons (pe_lc (own := [("part", 3)]) (g := gName 3) (by rfl) sc_shows_way.nd (pi_list (pv 2)) (blkOk_by (own := [("part", 3)]) (N := ["row", "order", "thing", "part"]) (sc := defScope s_shows_way) (by decide +kernel)) (fun _ _ _ _ _ => (pg_name (i := 3) sc_shows_way.nd rfl (Or.inl rfl))) (fun _ _ _ _ _ => pts_nil) (fun _ _ _ _ _ => (pe_call h_is_deed.G (hr.mono (by decide)) (by rfl) h_is_deed.g h_is_deed.kp h_is_deed.b .nil pass0 (pa_cons (pv 3) pa_nil)))) pa_nil)) (pe_one (pe_call h_leads_to.G (hr.mono (by decide)) (by rfl) h_leads_to.g h_leads_to.kp h_leads_to.b .nil pass0 (pa_cons (pv 0) (pa_cons (pv 1) (pa_cons (pv 2) pa_nil))))))))), ?_⟩
    have id1 := W.ids
    have ll := W.lenL
    have wl := W.len
    have t2 : EvT (tTest (tOp rNe (tCB (rLenS K) (tCons (tVar 2) tNil)) (tCB (rLenS K) (tCons (tCall (spTurnedT K) [] E0 (tCons (tVar 1) tNil)) tNil)))) [some v, some (.ref o), some (.ref c), none] H (!decide (us.length = farN (L.map (·.1)) rs.length)) := by
      refine et_is (et_test (ev_op (ev_len (K := K) (ev_var rfl) hc) (fun H11 e11 Q k => (⟨.ref o, rfl, o, L.map (·.1), rfl, ex_t e11 W.ord, W.nd, W.all, by omega, fun uq uus H12 huq e12 g12 bs12 => ⟨uq, uus, rfl, .inl (sq_of g12), by rw [All2.len bs12]; exact k H12 e12⟩⟩ : (tCB (rLenS K) (tCons (tCall (spTurnedT K) [] E0 (tCons (tVar 1) tNil)) tNil)) [some v, some (.ref o), some (.ref c), none] H11 Q)) (rv_ne rfl))) ?_
      rw [ll]
      show (!decide (V.int (us.length : Int) = V.int (farN (L.map (·.1)) rs.length : Int))) = _
      congr 1
      rw [Bool.eq_iff_iff, decide_eq_true_iff, decide_eq_true_iff]
      constructor
      · intro z
        injection z with z
        omega
      · intro z
        rw [z]
    have t1 := et_not (et_B (ev_isi (K := K) (σ := [some v, some (.ref o), some (.ref c), none]) (ev_var (i := 2) rfl) (.lst hc) (C := "list") (b := true) (by decide +kernel)))
    rcases hq with ⟨hne, q⟩ | ⟨ds, hlen, hd, oks, hfin, q⟩
    · refine q_when (b := true) (et_is (et_or t1 fun _ => t2) (by rw [decide_eq_false hne]; rfl)) (fun _ H1 e1 => ?_) (fun z => by cases z)
      exact s_ret ev_c fun H2 e2 => q H2 (e1.trans e2)
    · refine q_when (b := false) (et_is (et_or t1 fun _ => t2) (by rw [decide_eq_true hlen]; rfl)) (fun z => by cases z) (fun _ H1 e1 => ?_)
      have hd1 := deeds_ex e1 hd
      have hc1 := ex_l e1 hc
      have lc := el_lcL (K := K) (σ := [some v, some (.ref o), some (.ref c), none]) (H := H1) (a := c) (xs := us) (tl := tVar 2) (j := 3) (vs := [3]) (t := tYes) (te := tCall (spIsDeed K) [] E0 (tCons (tVar 3) tNil)) (fun _ => true) (fun k => (fun _ : V => V.bl true) (us.getD k .non)) (ev_var rfl) hc1 (by omega) (fun x => rfl) (fun k x H5 e5 hx => et_yes) (fun k x H5 e5 hx _ => by
        obtain ⟨d, hd0, dAt⟩ := All2.get hd1 hx
        exact ev_call (ea_cons (ev_var (i := 3) rfl) ea_nil) (fun H6 e6 Q6 q6 E6 => ⟨x, d, rfl, dAt.ex' (e5.trans e6), q6⟩))
      rw [given_map (fun _ : V => V.bl true) .non us, show (us.map fun _ => V.bl true) = (us.map fun _ => true).map V.bl by rw [List.map_map]; rfl] at lc
      refine s_ret (ev_andV (a := true) (b := true) (fun H2 e2 Q k => ?_) fun _ => ev_call (ea_cons (ev_var rfl) (ea_cons (ev_var rfl) (ea_cons (ev_var rfl) ea_nil))) (fun H5 e5 Q5 q5 E5 => ⟨v, o, c, rs, us, ds, rfl, W.row.ex (e1.trans e5), by omega, ex_l e5 hc1, deeds_ex e5 hd1, oks, by rw [hfin]; exact ex_t (e1.trans e5) W.ord, q5⟩)) fun H2 e2 => q H2 (e1.trans e2)
      refine c_cb (c_consK ?_)
      refine lc H2 e2 _ fun la H3 hla e3 g3 => ⟨la, us.map fun _ => true, rfl, sq_of g3, ?_⟩
      have : (us.map fun _ => true).all id = true := by
        rw [List.all_eq_true]
        intro x hx
        obtain ⟨_, _, rfl⟩ := List.mem_map.mp hx
        rfl
      rw [this]
      exact k H3 e3
theorem ok_law_again {f : Addr} {fd : FuncData} (F : FnP K "_law_again" s_law_again f fd) (g : mg "_law_again" = some (.ref f)) (b : Binds K fd ["_law_order", "_law_seats"] []) (m_tuple : mg "tuple" = none) : Has P w K mg base 1 "_law_again" ["_law_order", "_law_seats"] (spAgainL K) f fd := by
  refine ⟨F.ok sc_law_again (fun vs H Q E h => ?_) (fun cdv A outer s H vs Q E hr h => ?_), g, F.kp, b⟩
  · obtain ⟨a, b, l2, l1, rfl, _⟩ := h
    rfl
  · obtain ⟨a, b, l2, l1, rfl, ha, hb, nd, mem, hl, q⟩ := h
    refine ⟨_, PSs.nox (pss_one (ps_ret (pe_tupleOfF (by rfl) m_tuple (pe_lc (own := [("_law_who", 2)]) (g := gName 2) (by rfl) sc_law_again.nd (pi_list (pv 0)) (blkOk_by (own := [("_law_who", 2)]) (N := ["_law_order", "_law_seats", "_law_who"]) (sc := defScope s_law_again) (by decide +kernel)) (fun _ _ _ _ _ => (pg_name (i := 2) sc_law_again.nd rfl (Or.inl rfl))) (fun _ _ _ _ _ => pts_nil) (fun _ _ _ _ _ => (pe_bmK (K := K) (pe_bm PySem.F.plainAttrs_list PySem.F.slot_list_index PySem.F.type_list_index (mt_indexK (K := K)) (pv 1) (pa_cons (pv 2) pa_nil)))))))), ?_⟩
    obtain ⟨ps, hps⟩ := Classical.axiomOfChoice (r := fun x k => x ∈ l2 → l1[k]? = some x) fun x => by
      by_cases hx : x ∈ l2
      · obtain ⟨k, hk⟩ := List.getElem?_of_mem (mem x hx)
        exact ⟨k, fun _ => hk⟩
      · exact ⟨0, fun h => absurd h hx⟩
    have l2n : (natsV l2).length = l2.length := natsV_len l2
    have lc := el_lcL (K := K) (σ := [some (.ref a), some (.ref b), none]) (H := H) (a := a) (xs := natsV l2) (tl := tVar 0) (j := 2) (vs := [2]) (t := tYes) (te := tBM K "list" (rIndex K) (tVar 1) (tCons (tVar 2) tNil)) (fun _ => true) (fun k => (fun x : Nat => V.int (ps x : Int)) (l2.getD k 0)) (ev_var rfl) ha (by omega) (fun x => rfl) (fun k x H5 e5 hx => et_yes) (fun k x H5 e5 hx _ => by
      have hx2 : k < l2.length := by
        have := (List.getElem?_eq_some_iff.mp hx).1
        omega
      have hk2 : l2[k]? = some (l2.getD k 0) := by
        rw [List.getD_eq_getElem?_getD, List.getElem?_eq_getElem hx2]
        rfl
      have ex : x = V.int ((l2.getD k 0 : Nat) : Int) := by
        rw [natsV_at hk2] at hx
        exact (Option.some.inj hx).symm
      subst ex
      have hk := hps _ (List.mem_of_getElem? hk2)
      generalize l2.getD k 0 = y at *
      intro H6 e6 Q6 q6
      refine ⟨.ref b, rfl, .inl ⟨rfl, _, ex_l (e5.trans e6) hb⟩, .int (y : Int), rfl, b, natsV l1, .int (y : Int), ps y, .int (y : Int), rfl, rfl, ex_l (e5.trans e6) hb, rfl, ?_, natsV_at hk, by simp [eqV], fun m z hm hz => ?_, q6 H6 (Ex.refl _)⟩
      · rw [List.all_eq_true]
        intro u hu
        unfold natsV at hu
        obtain ⟨_, _, rfl⟩ := List.mem_map.mp hu
        rfl
      · unfold natsV at hz
        rw [List.getElem?_map, Option.map_eq_some_iff] at hz
        obtain ⟨t, ht, rfl⟩ := hz
        have : t ≠ y := fun z => by
          subst z
          have := nd_at nd ht hk
          omega
        have : (t : Int) ≠ (y : Int) := by omega
        simpa [eqV] using this)
    rw [l2n, given_map (fun x : Nat => V.int (ps x : Int)) 0 l2] at lc
    refine c_ret (c_then ?_)
    refine lc H (Ex.refl H) _ fun la H1 hla e1 g1 => ⟨la, _, rfl, sq_of g1, fun t ob pt ht => ?_⟩
    have n2 := Ex.new (o := .frz ob (.tup (l2.map fun x : Nat => V.int (ps x : Int)))) ht
    refine q t (l2.map ps) _ (fresh_back e1 ht) (e1.trans n2) ⟨ob, pt, ?_⟩ ⟨?_, ?_⟩
    · rw [upd_same]
      unfold natsV
      rw [List.map_map]
      rfl
    · rw [List.map_map]
      refine (List.map_id l2).symm.trans (List.map_congr_left fun x hx => ?_)
      show x = HH.ixN l1 (ps x)
      unfold HH.ixN
      rw [hps x hx]
      rfl
    · intro y hy
      obtain ⟨x, hx, rfl⟩ := List.mem_map.mp hy
      exact (List.getElem?_eq_some_iff.mp (hps x hx)).1
end
end K71
set_option maxHeartbeats 4000000
namespace K71
open PySem PySem.Spec PyProof.Rows L2 Evl HH RZ
section
variable {P : Program} {w : World} {K : PySem.W.Frag} {mg : Str → Option Value} {base : Heap}
theorem swap_vals {l : List Nat} {i : Nat} : natsV (swapL l i) = (natsV l).take i ++ [.int (HH.ixN l (i + 1) : Int), .int (HH.ixN l i : Int)] ++ (natsV l).drop (i + 2) := by
  unfold natsV swapL
  rw [List.map_append, List.map_append, List.map_take, List.map_drop]
  rfl
theorem ok_law_behind {f f1 : Addr} {fd fd1 : FuncData} (F : FnP K "_law_behind" s_law_behind f fd) (g : mg "_law_behind" = some (.ref f)) (b : Binds K fd ["_law_pen", "_law_went"] []) (h_law_deeds : Has P w K mg base 2 "_law_deeds" ["_law_pen"] (spDts K) f1 fd1)
    (m_tuple : mg "tuple" = none) (m_range : mg "range" = none) (m_len : mg "len" = none) : Has P w K mg base 3 "_law_behind" ["_law_pen", "_law_went"] (spBehindD K) f fd := by
  refine ⟨F.ok sc_law_behind (fun vs H Q E h => ?_) (fun cdv A outer s H vs Q E hr h => ?_), g, F.kp, b⟩
  · obtain ⟨v, c, rs, us, ds, rfl, _⟩ := h
    rfl
  · obtain ⟨v, c, rs, us, ds, rfl, hv, r0, rm, tl, hc, hd, oks, q⟩ := h
    refine ⟨_, PSs.nox (pss_cons (ps_set (i := 2) sc_law_behind.nd rfl (.inl rfl) (pe_tupRgF rfl (by rfl) m_tuple (prg_1 (by rfl) m_range (pe_callB call_len_seq (by rfl) m_len PySem.boot_len (pa_cons (pv 0) pa_nil)))))
      (pss_cons (ps_for PassesOwn.never rfl (pi_list (pv 1)) (pg_name (i := 3) sc_law_behind.nd rfl (Or.inr rfl))
        (pss_cons (ps_setLc (i := 4) (own := [("_law_one_of", 6)]) (g := gName 6) (by rfl) sc_law_behind.nd rfl rfl (sw_true rfl rfl rfl (by decide +kernel)) (pi_list (pe_call h_law_deeds.G (hr.mono (by decide)) (by rfl) h_law_deeds.g h_law_deeds.kp h_law_deeds.b .nil pass0 (pa_cons (pv 0) pa_nil))) (blkOk_by (own := [("_law_one_of", 6)]) (N := ["_law_pen", "_law_went", "_law_seats", "_law_due", "_law_some", "_law_at", "_law_one_of"]) (sc := defScope s_law_behind) (by decide +kernel)) (fun _ _ _ _ _ => (pg_name (i := 6) sc_law_behind.nd rfl (Or.inl rfl))) (fun _ _ _ _ _ => (pts_one (pt_cmpR (op_eqDK (K := K) (by exact hr.units)) (pe_ix (ix_tupK (K := K)) (pv 6) pe_int (fun _ _ => rfl)) (pv 3) (nomark _)))) (fun _ _ _ _ _ => (pv 6)))
      (pss_cons (ps_if (pt_cmpR (op_eqD hr.units) (pv 4) (pe_lst pa_nil) (nomark _)) (pss_one (ps_ret pe_non)) pss_nil)
      (pss_cons (ps_par (i := 0) (j := 5) (by rfl) sc_law_behind.nd rfl rfl (by decide) rfl rfl (pa_cons (pe_ix (ix_tupK (K := K)) (pe_ix ix_list (pv 4) pe_int (fun _ _ => rfl)) pe_int (fun _ _ => rfl)) (pa_cons (pe_ix (ix_tupK (K := K)) (pe_ix ix_list (pv 4) pe_int (fun _ _ => rfl)) pe_int (fun _ _ => rfl)) pa_nil)) (by rfl))
      (pss_one (ps_set (i := 2) sc_law_behind.nd rfl (.inl rfl) (pe_op op_catAF (pe_op op_catAF (pe_slice sl_tupA (pv 2) po_none (po_some (pe_op op_sub (pv 5) pe_int))) (pe_tupF (pa_cons (pe_ix ix_tup (pv 2) (pv 5) (fun _ _ => rfl)) (pa_cons (pe_ix ix_tup (pv 2) (pe_op op_sub (pv 5) pe_int) (fun _ _ => rfl)) pa_nil)))) (pe_slice sl_tupA (pv 2) (po_some (pe_op op_add (pv 5) pe_int)) po_none))))))))
      (pss_one (ps_ret (pv 2))))), ?_⟩
    obtain ⟨a5, vs5, rfl, ta5, bs5⟩ := hv
    have hv : RowAt K H (.ref a5) rs := ⟨a5, vs5, rfl, ta5, bs5⟩
    refine ⟨.ref a5, rfl, a5, vs5, rfl, .inr ta5, _, rfl, RgOk.of_le (by decide) (by rw [bs5.1]; omega) (by decide) (by omega), fun rt ob hob hrt => ?_⟩
    have erg : rgV 0 (vs5.length : Int) = natsV (List.range rs.length) := by
      rw [bs5.1, ord_tag, ordL_nats, tag_ids]
    rw [erg]
    have n2 := Ex.new (o := .frz ob (.tup (natsV (List.range rs.length)))) hrt
    have hot : FrzT (upd H rt (.frz ob (.tup (natsV (List.range rs.length))))) rt (natsV (List.range rs.length)) := FrzT.ofNew hob
    generalize upd H rt (.frz ob (.tup (natsV (List.range rs.length)))) = H2 at n2 hot ⊢
    have hv2 := hv.ex n2
    have ul : us.length = ds.length := All2.len hd
    try dsimp only
    refine g_at [some (.ref a5), some (.ref c), some (.ref rt), none, none, none, none] rfl ?_
    refine ⟨.ref c, rfl, c, rfl, ⟨_, ex_l n2 hc⟩, ?_⟩
    refine for_list (K := K) (xs := us) (fun i σ' H' => Ex H2 H' ∧ ∃ (v' : V) (t : Addr) (y3 y4 y5 y6 : Option V), σ' = [some v', some (.ref c), some (.ref t), y3, y4, y5, y6] ∧ RowAt K H' v' ((ds.take i).foldl doR rs) ∧ SqT K H' t (natsV ((ds.take i).foldl swD (List.range rs.length))))
      ⟨Ex.refl _, .ref a5, rt, _, _, _, _, rfl, hv2, hot.sq⟩ (fun i σ' H' _ hW => ex_l (n2.trans hW.1) hc) (fun i x σ' H' hx hW => ?_) (fun σ' H' hW => ?_)
    · obtain ⟨x3, v', t, y3, y4, y5, y6, rfl, hw, ft⟩ := hW
      have hi : i < ds.length := by
        have := (List.getElem?_eq_some_iff.mp hx).1
        omega
      have hdi := List.getElem?_eq_getElem hi
      have ok := oks i _ hdi
      obtain ⟨ln1, ln2⟩ := led_len oks i (by omega)
      have tlr := led_tl tl oks i (by omega)
      rw [take_do hdi, take_do hdi]
      obtain ⟨d0, hd0, dAtu⟩ := All2.get (deeds_ex (n2.trans x3) hd) hx
      rw [hdi] at hd0
      cases hd0
      generalize ds[i] = d at *
      generalize (ds.take i).foldl doR rs = r at *
      generalize (ds.take i).foldl swD (List.range rs.length) = l at *
      refine g_at [some v', some (.ref c), some (.ref t), some x, y4, y5, y6] rfl ?_
      have mvd := mv_len (rs := r) (n := r.length - 1)
      have one := one_move_p tlr ok
      have hlt := okD_lt ok
      try dsimp only
      refine q_run ?_
      refine ⟨v', rfl, v', r, rfl, hw, by omega, by omega, fun q2 us2 H4 hq2 e4 g4 dts => ⟨q2, rfl, ⟨_, sq_of g4⟩, fun D hD => ?_⟩⟩
      have dA4 := dAtu.ex' e4
      have us2l : us2.length ≤ 30 := by
        have := All2.len dts
        omega
      refine in_it (walk_list (K := K) (a := q2) (xs := us2)) (fun k H' => Ex H4 H' ∧ ∃ ys, H' D = some (.lst ys) ∧ DtsAt K H' ys r (((movesP r (r.length - 1)).take k).filter fun p => decide (dP r p = d))) ⟨Ex.new hD, [], upd_same, .nil⟩ (fun k H' _ z => sq_of (z.1 _ _ g4)) (fun k x6 H6 H5 hk z y => ?_) (fun H5 z => ?_)
      · obtain ⟨rfl, hx2⟩ := y
        obtain ⟨x5, ys, gD5, fl5⟩ := z
        obtain ⟨pk, hpk, dt⟩ := All2.get dts hx2
        have dt5 := dt.ex x5
        refine ⟨rfl, ?_⟩
        have tk : (movesP r (r.length - 1)).take (k + 1) = (movesP r (r.length - 1)).take k ++ [pk] := by
          rw [List.take_add_one, hpk]
          rfl
        have yl : ys.length ≤ 30 := by
          have := All2.len fl5
          have h2 := List.length_filter_le (fun p => decide (dP r p = d)) ((movesP r (r.length - 1)).take k)
          rw [List.length_take] at h2
          omega
        obtain ⟨tt, dv, rv, rfl, ht, hdv, hrv⟩ := id dt5
        have tst : EvT (tTest (tOp (rEqD K) (tOp (rIxT K) (tVar 6) (tC (.int 0))) (tVar 3))) [some v', some (.ref c), some (.ref t), some x, y4, y5, some (.ref tt)] H5 (decide (dP r pk = d)) := et_test (ev_op (ev_op (ev_var rfl) ev_c (rv_ixT (K := K) ht (atI_nat (j := 0) (v := dv) rfl))) (ev_var rfl) (rv_eqDeed hdv (dA4.ex' x5)))
        refine tst H5 (Ex.refl _) _ fun H7 e7 => ite2 (fun hc => ?_) (fun hc => ?_)
        · refine ⟨.ref tt, rfl, ys, e7 _ _ gD5, sz_lt (by omega), Ex.mut (x5.trans e7) hD, ys ++ [.ref tt], upd_same, ?_⟩
          have xD : ExB D H7 (upd H7 D (.lst (ys ++ [.ref tt]))) := (ExB.refl _ _).upd
          rw [tk, List.filter_append, show [pk].filter (fun p => decide (dP r p = d)) = [pk] by have hc2 := of_decide_eq_true hc; simp [hc2]]
          exact All2.app (All2.mono (fun v p h => (h.ex e7).exL xD (e7 _ _ gD5)) fl5) (.cons ((dt5.ex e7).exL xD (e7 _ _ gD5)) .nil)
        · refine ⟨x5.trans e7, ys, e7 _ _ gD5, ?_⟩
          rw [tk, List.filter_append, show [pk].filter (fun p => decide (dP r p = d)) = [] by simp [show ¬ dP r pk = d from fun z => hc (decide_eq_true z)], List.append_nil]
          exact All2.mono (fun v p h => h.ex e7) fl5
      · obtain ⟨x5, ys, gD5, fl5⟩ := z
        rw [List.take_of_length_le (by have := All2.len dts; omega), one] at fl5
        obtain ⟨u, rfl, dt⟩ : ∃ u, ys = [u] ∧ DtAt K H5 u r (atD d) := by
          cases fl5 with
          | cons h t => cases t; exact ⟨_, rfl, h⟩
        obtain ⟨dpx, dp1, dp2⟩ := dts_dp (.cons dt .nil : DtsAt K H5 [u] r [atD d])
        refine s_at [some v', some (.ref c), some (.ref t), some x, some (.ref D), y5, y6] rfl ?_
        refine q_when (b := false) (et_test (ev_eqNil (K := K) (ev_var rfl) (sq_of gD5) dp1 dp2 (by decide))) (fun z => by cases z) fun _ H6 e6 => ?_
        obtain ⟨tt, dv, rv, rfl, ht, hdv, hrv⟩ := dt.ex e6
        have gD6 := e6 _ _ gD5
        obtain ⟨ed, _⟩ := ok_is_dP tlr ok
        rw [← ed] at hrv
        try dsimp only
        refine q_par2 ?_
        refine (ev_op (ev_op (ev_var rfl) ev_c (rv_ixL (K := K) (sq_of gD6) (atI_nat (j := 0) (v := .ref tt) rfl))) ev_c (rv_ixT (K := K) ht (atI_nat (j := 1) (v := rv) rfl)) : Ev (tOp (rIxT K) (tOp (rIxL K) (tVar 4) (tC (.int 0))) (tC (.int 1))) [some v', some (.ref c), some (.ref t), some x, some (.ref D), y5, y6] H6 rv) H6 (Ex.refl _) _ fun H7 e7 => ?_
        refine (ev_op (ev_op (ev_var rfl) ev_c (rv_ixL (K := K) (sq_of (e7 _ _ gD6)) (atI_nat (j := 0) (v := .ref tt) rfl))) ev_c (rv_ixT (K := K) (ex_t e7 ht) (atI_nat (j := 2) (v := .int ((atD d + 1 : Nat) : Int)) rfl)) : Ev (tOp (rIxT K) (tOp (rIxL K) (tVar 4) (tC (.int 0))) (tC (.int 2))) [some v', some (.ref c), some (.ref t), some x, some (.ref D), y5, y6] H7 (.int ((atD d + 1 : Nat) : Int))) H7 (Ex.refl _) _ fun H8 e8 => ?_
        refine ⟨_, _, rfl, ?_⟩
        try dsimp only
        refine s_at [some rv, some (.ref c), some (.ref t), some x, some (.ref D), some (.int ((atD d + 1 : Nat) : Int)), y6] rfl ?_
        have e38 : Ex H' H8 := ((e4.trans x5).trans e6).trans (e7.trans e8)
        have ft8 := ex_t e38 ft
        have at0 : atI (natsV l) ((atD d : Nat) : Int) = some (.int (HH.ixN l (atD d) : Int)) := atI_nat (natsV_at (ixN_at (by omega)))
        have at1 : atI (natsV l) ((atD d + 1 : Nat) : Int) = some (.int (HH.ixN l (atD d + 1) : Int)) := atI_nat (natsV_at (ixN_at (by omega)))
        have ev1 : Ev (tOp (rI0 fun i j => .int (i - j)) (tVar 5) (tC (.int 1))) [some rv, some (.ref c), some (.ref t), some x, some (.ref D), some (.int ((atD d + 1 : Nat) : Int)), y6] H8 (.int ((atD d : Nat) : Int)) := ev_is (ev_op (ev_var rfl) ev_c rv_I0) (by congr 1; omega)
        have up : EvTf (tOp (rCatAF K) (tOp (rCatAF K) (tSl (rSlA K) (tVar 2) tNoPart (tPart (tOp (rI0 fun i j => .int (i - j)) (tVar 5) (tC (.int 1))))) (tTupF (tCons (tOp (rIxT K) (tVar 2) (tVar 5)) (tCons (tOp (rIxT K) (tVar 2) (tOp (rI0 fun i j => .int (i - j)) (tVar 5) (tC (.int 1)))) tNil)))) (tSl (rSlA K) (tVar 2) (tPart (tOp (rI0 fun i j => .int (i + j)) (tVar 5) (tC (.int 1)))) tNoPart)) [some rv, some (.ref c), some (.ref t), some x, some (.ref D), some (.int ((atD d + 1 : Nat) : Int)), y6] H8 (natsV (swapL l (atD d))) := by
          rw [swap_vals]
          refine ef_catR (ef_catL (ep_to (ep_val (ev_var rfl) ft8) ev1 rfl) (ef_two (ev_op (ev_var rfl) (ev_var rfl) (rv_ixT (K := K) ft8 at1)) (ev_op (ev_var rfl) ev1 (rv_ixT (K := K) ft8 at0))) (by simp) ?_) (ep_from (ep_val (ev_var rfl) ft8) (ev_op (ev_var rfl) ev_c rv_I0) (show ((atD d + 1 : Nat) : Int) + 1 = ((atD d + 2 : Nat) : Int) by omega)) (by simp) ?_
          · rw [List.length_take, natsV_len]
            show min _ l.length + 2 ≤ 100000
            omega
          · rw [List.length_append, List.length_take, List.length_drop, natsV_len]
            show min _ l.length + 2 + (l.length - (atD d + 2)) ≤ 100000
            omega
        try dsimp only
        refine up H8 (Ex.refl _) _ fun tl7 H9 e9 g9 => ?_
        exact ⟨x3.trans (e38.trans e9), rv, tl7, _, _, _, _, rfl, hrv.ex ((e7.trans e8).trans e9), g9.sq⟩
    · obtain ⟨x3, v', t, y3, y4, y5, y6, rfl, hw, ft⟩ := hW
      rw [ul, List.take_length] at ft
      exact s_ret (σ := [some v', some (.ref c), some (.ref t), y3, y4, y5, y6]) (D := { nx := fun _ H' => Q .non H', rt := Q }) (ev_var rfl) fun H4 e4 => q t H4 ((n2.trans x3).trans e4) (ex_t e4 ft)
end
end K71
set_option maxHeartbeats 4000000
namespace HH
open PySem PySem.Spec PyProof.Rows L2 Evl RZ
theorem step_run {rs : HH.Row} {L : List Cow} {ds : List Deed} {p : Nat} (r : MRun (tag 0 rs) L ds) (hp : p + 1 < (rowsOf L).length) (m : movesB (rowsOf L) (p + 1) = true) : ∃ L' ds', MRun (tag 0 rs) L' ds' ∧ L'.map (·.1) = swapL (L.map (·.1)) p ∧ rowsOf L' = doR (rowsOf L) (dP (rowsOf L) p) := by
  cases c : letsN (rowsOf L) (p + 1) with
  | true =>
    have e : dP (rowsOf L) p = (true, p + 1) := by unfold dP; rw [if_pos c]
    obtain ⟨pre, post, ca, cb, eL, ep, hpp, hpr⟩ := cow_pass hp c
    have ep2 : p = pre.length := by omega
    subst ep2
    rw [e]
    subst eL
    exact ⟨_, _, r.pass hpp, ids_swap rfl rfl, hpr.symm⟩
  | false =>
    have e : dP (rowsOf L) p = (false, p) := by unfold dP; rw [if_neg (by rw [c]; decide)]
    have hf : fallsN (rowsOf L) p = true := by
      unfold movesB at m
      rw [c, Bool.false_or, Nat.add_sub_cancel] at m
      exact m
    obtain ⟨pre, post, ca, cb, eL, ep, hpp, hpr⟩ := cow_fall hp hf
    subst ep
    rw [e]
    subst eL
    exact ⟨_, _, r.fall hpp, ids_swap rfl rfl, hpr.symm⟩
theorem run_one {rs : HH.Row} {L L' : List Cow} {ds ds' : List Deed} (tl : ∀ x ∈ rs, 0 ≤ x.2) (r : MRun (tag 0 rs) L ds) (r' : MRun (tag 0 rs) L' ds') (e : L.map (·.1) = L'.map (·.1)) : L = L' := by
  obtain ⟨E, sE, nE⟩ := nf_is (good_tag tl).tl
  rw [run_is tl sE nE r, run_is tl sE nE r', e]
theorem c_c {v : V} {σ : L2.St} {H : Hp} {Q : VK} (h : Q v H) : tC v σ H Q := h
theorem All2.get1 {α : Type} {R : V → α → Prop} {v : V} {x : α} (h : All2 R [v] [x]) : R v x := by
  cases h with
  | cons h _ => exact h
theorem c_op {r : R2} {ta tb : TE} {σ : L2.St} {H : Hp} {Q : VK} (h : ta σ H fun x H1 => tb σ H1 fun y H2 => r x y H2 Q) : tOp r ta tb σ H Q := h
end HH
set_option maxHeartbeats 4000000
namespace K71
open PySem PySem.Spec PyProof.Rows L2 Evl HH RZ
section
variable {P : Program} {w : World} {K : PySem.W.Frag} {mg : Str → Option Value} {base : Heap}
theorem ok_law_layers {f f1 : Addr} {fd fd1 : FuncData} (F : FnP K "_law_layers" s_law_layers f fd) (g : mg "_law_layers" = some (.ref f)) (b : Binds K fd ["_law_pen"] []) (h_law_deeds : Has P w K mg base 2 "_law_deeds" ["_law_pen"] (spDts K) f1 fd1) (m_tuple : mg "tuple" = none) (m_range : mg "range" = none) (m_len : mg "len" = none) : Has P w K mg base 3 "_law_layers" ["_law_pen"] (spLayers P w K) f fd := by
  refine ⟨F.ok sc_law_layers (fun vs H Q E h => ?_) (fun cdv A outer s H vs Q E hr h => ?_), g, F.kp, b⟩
  · obtain ⟨v, rs, rfl, _⟩ := h
    rfl
  · obtain ⟨v0, rs, rfl, hv, r0, hl, tl, q⟩ := h
    have hu := room_u1 hr
    refine ⟨_, PSs.nox (pss_cons (ps_set (i := 1) sc_law_layers.nd rfl (.inl rfl) (pe_tupRgF rfl (by rfl) m_tuple (prg_1 (by rfl) m_range (pe_callB call_len_seq (by rfl) m_len PySem.boot_len (pa_cons (pv 0) pa_nil)))))
      (pss_cons (ps_par (i := 2) (j := 3) (by rfl) sc_law_layers.nd rfl rfl (by decide) rfl rfl (pa_cons (pe_dispX1 (P := P) (w := w) hu (pv 1) (pe_tup (pa_cons pe_int (pa_cons (pv 0) pa_nil)))) (pa_cons (pe_lst (pa_cons (pv 1) pa_nil)) pa_nil)) (by rfl))
      (pss_cons (ps_while PassesOwn.never (pt_cmpR (op_neD hr.units) (pv 3) (pe_lst pa_nil) (nomark _)) (pss_cons (ps_set (i := 4) sc_law_layers.nd rfl (.inl rfl) (pe_lst pa_nil))
      (pss_cons (ps_for PassesOwn.never rfl (pi_list (pv 3)) (pg_name (i := 5) sc_law_layers.nd rfl (Or.inl rfl))
        (pss_cons (ps_asg (pe_xget (P := P) (w := w) hu (pv 2) (pv 5) (fun _ _ => rfl)) (pg_tup rfl (pgs_cons (pg_name (i := 6) sc_law_layers.nd rfl (Or.inl rfl)) (pgs_cons (pg_name (i := 7) sc_law_layers.nd rfl (Or.inl rfl)) pgs_nil))))
      (pss_one (ps_for PassesOwn.never rfl (pi_list (pe_call h_law_deeds.G (hr.mono (by decide)) (by rfl) h_law_deeds.g h_law_deeds.kp h_law_deeds.b .nil pass0 (pa_cons (pv 7) pa_nil))) (pg_tup rfl (pgs_cons (pg_name (i := 8) sc_law_layers.nd rfl (Or.inl rfl)) (pgs_cons (pg_name (i := 9) sc_law_layers.nd rfl (Or.inl rfl)) (pgs_cons (pg_name (i := 10) sc_law_layers.nd rfl (Or.inl rfl)) pgs_nil))))
        (pss_cons (ps_set (i := 11) sc_law_layers.nd rfl (.inl rfl) (pe_op op_catAF (pe_op op_catAF (pe_slice sl_tupA (pv 5) po_none (po_some (pe_op op_sub (pv 10) pe_int))) (pe_tupF (pa_cons (pe_ix ix_tup (pv 5) (pv 10) (fun _ _ => rfl)) (pa_cons (pe_ix ix_tup (pv 5) (pe_op op_sub (pv 10) pe_int) (fun _ _ => rfl)) pa_nil)))) (pe_slice sl_tupA (pv 5) (po_some (pe_op op_add (pv 10) pe_int)) po_none)))
      (pss_one (ps_if (pt_cmp (pc_xnotin (P := P) (w := w) hu (pv 11) (pv 2))) (pss_cons (ps_asg (pe_tup (pa_cons (pe_op op_add (pv 6) pe_int) (pa_cons (pv 9) pa_nil))) (pg_sub (pv 2) (pv 11) (set_x (P := P) (w := w) hu)))
      (pss_one (ps_expr (pe_bm PySem.F.plainAttrs_list PySem.F.slot_list_append PySem.F.type_list_append mt_append (pv 4) (pa_cons (pv 11) pa_nil))))) pss_nil)))))))
      (pss_one (ps_set (i := 3) sc_law_layers.nd rfl (.inl rfl) (pv 4))))))
      (pss_one (ps_ret (pv 2)))))), ?_⟩
    obtain ⟨E', sE, nE⟩ := nf_is (good_tag tl).tl
    obtain ⟨B', sB, nB⟩ := ff_is (good_tag tl).tl
    have p0 : (0 : Nat) < 2 ^ (ahOf E' B' rs).length := Nat.two_pow_pos _
    have al : (ahOf E' B' rs).length = rs.length := ahead_len _ _
    have len := ext_len p0
    have fac := cnt_fact _ p0 (show leftB (ahOf E' B' rs).length 0 = rs.length by rw [left_zero, al])
    have facle : facB rs.length ≤ 720 := by
      have : ∀ k, k ≤ 6 → facB k ≤ 720 := by decide
      exact this _ hl
    obtain ⟨N, hN⟩ : ∃ N, N = (extF (ahOf E' B' rs) 0).length := ⟨_, rfl⟩
    have inE : ∀ l, Keeps rs l → l ∈ extF (ahOf E' B' rs) 0 := fun l k => (ext_keeps tl sE nE sB nB).mpr k
    have kG : ∀ {H : Hp} {kvs : List (List Key × V)} {G : List (List Nat)}, LayD K H rs kvs G → ∀ l ∈ G, Keeps rs l := fun {H kvs G} h l hl => by
      obtain ⟨t, rv, L, ds, _, _, r, e, _⟩ := h.rows l hl
      rw [← e]
      exact run_keeps tl r
    have few : ∀ {H : Hp} {kvs : List (List Key × V)} {G : List (List Nat)}, LayD K H rs kvs G → G.length ≤ N ∧ kvs.length = G.length := fun {H kvs G} h => by
      have := nodup_few h.nd fun l hl => inE l (kG h l hl)
      have e := congrArg List.length h.keys
      rw [List.length_map, List.length_map] at e
      exact ⟨by omega, e⟩
    have hN7 : N ≤ 720 := by omega
    obtain ⟨a5, vs5, rfl, ta5, bs5⟩ := hv
    have hv : RowAt K H (.ref a5) rs := ⟨a5, vs5, rfl, ta5, bs5⟩
    have erg : rgV 0 (vs5.length : Int) = natsV (List.range rs.length) := by
      rw [bs5.1]
      exact rg_nats _
    refine ⟨.ref a5, rfl, a5, vs5, rfl, .inr ta5, _, rfl, RgOk.of_le (by decide) (by rw [bs5.1]; omega) (by decide) (by omega), fun rt ro pt hrt => ?_⟩
    rw [erg]
    have n1 := Ex.new (o := .frz ro (.tup (natsV (List.range rs.length)))) hrt
    have gr1 : FrzT (upd H rt (.frz ro (.tup (natsV (List.range rs.length))))) rt (natsV (List.range rs.length)) := ⟨ro, pt, upd_same⟩
    generalize upd H rt (.frz ro (.tup (natsV (List.range rs.length)))) = H1 at n1 gr1 ⊢
    try dsimp only
    refine g_at [some (.ref a5), some (.ref rt), none, none, none, none, none, none, none, none, none, none] rfl ?_
    refine q_par2 ?_
    refine fun d hd1 => ?_
    have hd : H d = none := fresh_back n1 hd1
    have n2 := Ex.new (o := .ext (dxP P w d [])) hd1
    have gd2 : (upd H1 d (.ext (dxP P w d []))) d = some (.ext (dxP P w d [])) := upd_same
    generalize upd H1 d (.ext (dxP P w d [])) = H2 at n2 gd2 ⊢
    refine ⟨.ref rt, rfl, .ref a5, rfl, by show 2 ≤ sizeLine; decide, fun tv htv => ?_⟩
    have n3 := Ex.new (o := .tup [V.int 0, .ref a5]) htv
    have gv3 : (upd H2 tv (.tup [V.int 0, .ref a5])) tv = some (.tup [V.int 0, .ref a5]) := upd_same
    have gd3 : DX P w (upd H2 tv (.tup [V.int 0, .ref a5])) d [] := ⟨n3 _ _ gd2, fun p hp => nomatch hp⟩
    have gr3 := gr1.ex (n2.trans n3)
    generalize upd H2 tv (.tup [V.int 0, .ref a5]) = H3 at n3 gv3 gd3 gr3 ⊢
    have gr3k : FrzT H3 rt ((keyN (List.range rs.length)).map kV) := by rw [keyN_V]; exact gr3
    refine ⟨gd3, rt, keyN (List.range rs.length), .ref tv, rfl, gr3k, ?_⟩
    have e13 : Ex H H3 := (n1.trans n2).trans n3
    have x4 : Ex H (upd H3 d (.ext (dxP P w d [(keyN (List.range rs.length), rt, .ref tv)]))) := Ex.mut e13 hd
    have x34 : ExB d H3 (upd H3 d (.ext (dxP P w d [(keyN (List.range rs.length), rt, .ref tv)]))) := (ExB.refl _ _).upd
    have gd4 : DX P w (upd H3 d (.ext (dxP P w d [(keyN (List.range rs.length), rt, .ref tv)]))) d [(keyN (List.range rs.length), rt, .ref tv)] := DX.put gd3 gr3k
    have nfd3 : ∀ o u, H3 d ≠ some (.frz o u) := fun o u z => by rw [gd3.ob] at z; cases z
    have gr4 := gr3.exA x34 nfd3
    have gv4 := sqT_exX (K := K) (st_of gv3) x34 gd3.ob
    generalize upd H3 d (.ext (dxP P w d [(keyN (List.range rs.length), rt, .ref tv)])) = H4 at x4 x34 gd4 gr4 gv4 ⊢
    refine ⟨.ref rt, rfl, by show 1 ≤ sizeLine; decide, fun la hla => ⟨_, _, rfl, ?_⟩⟩
    have n5 := Ex.new (o := .lst [V.ref rt]) hla
    have gl5 : (upd H4 la (.lst [V.ref rt])) la = some (.lst [V.ref rt]) := upd_same
    have gr5 := gr4.ex n5
    have gd5 := gd4.ex n5
    have gv5 := ex_t n5 gv4
    have x5 := x4.trans n5
    generalize upd H4 la (.lst [V.ref rt]) = H5 at n5 gl5 gr5 gd5 gv5 x5 ⊢
    have f0 : farN (List.range rs.length) rs.length = 0 := by
      have := tab_none (rs := rs)
      rw [tag_ids] at this
      unfold farN
      rw [this]
      rfl
    have g0 : LayD K H5 rs (kvX [(keyN (List.range rs.length), rt, .ref tv)]) [List.range rs.length] := ⟨rfl, List.pairwise_singleton _ _, fun l hl => by
      rw [List.mem_singleton.mp hl]
      refine ⟨tv, .ref a5, tag 0 rs, [], ?_, by rw [f0]; exact gv5, .nil, by rw [tag_ids], ?_⟩
      · unfold valV kvX
        rw [List.map_cons, List.find?_cons_of_pos (by simp)]
        rfl
      · rw [show rowsOf (tag 0 rs) = rs from tag_snd 0 rs]
        exact hv.ex x5⟩
    have only0 : ∀ l, Keeps rs l → farN l rs.length = 0 → l = List.range rs.length := fun l k h => tab_sorted k.ids (List.eq_nil_of_length_eq_zero h)
    try dsimp only
    refine s_at [some (.ref a5), some (.ref rt), some (.ref d), some (.ref la), none, none, none, none, none, none, none, none] rfl ?_
    refine q_while (fun m σ' H' => ∃ (kvs : KB) (G lay : List (List Nat)) (us : List V) (la : Addr) (i : Nat) (y4 y5 y6 y7 y8 y9 y10 y11 : Option V), σ' = [some (.ref a5), some (.ref rt), some (.ref d), some (.ref la), y4, y5, y6, y7, y8, y9, y10, y11] ∧ m = 2 * (N - G.length) + lay.length ∧ Ex H H' ∧ DX P w H' d kvs ∧ LayD K H' rs (kvX kvs) G ∧ H' la = some (.lst us) ∧ TupsF H' us lay ∧ (∀ l ∈ G, farN l rs.length ≤ i) ∧ (∀ l, Keeps rs l → farN l rs.length ≤ i → l ∈ G) ∧ (∀ l ∈ lay, l ∈ G ∧ farN l rs.length = i) ∧ (∀ l ∈ G, farN l rs.length = i → l ∈ lay) ∧ lay.length ≤ 720) (2 * (N - 1) + 1)
      ⟨_, [List.range rs.length], [List.range rs.length], [V.ref rt], la, 0, none, none, none, none, none, none, none, none, rfl, rfl, x5, gd5, g0, gl5, .cons ⟨rt, rfl, gr5⟩ .nil, (fun l hl => by rw [List.mem_singleton.mp hl, f0]; exact Nat.le_refl _), (fun l k h => by rw [only0 l k (by omega)]; exact List.mem_singleton_self _), (fun l hl => ⟨hl, by rw [List.mem_singleton.mp hl, f0]⟩), (fun l hl _ => hl), by show 1 ≤ 720; decide⟩ fun m σ' H' hW => ?_
    obtain ⟨kvs, G, lay, us, la, i, y4, y5, y6, y7, y8, y9, y10, y11, rfl, rfl, x, gd, gn, gl, tn, c1, c2, c3, c4, big⟩ := hW
    clear gd5 g0 gl5 gv5 gr5 x5 n5 hla
    obtain ⟨f1, f2⟩ := few gn
    have ulen := All2.len tn
    refine ⟨!us.isEmpty, et_neNil (K := K) (k := 60) (ev_var rfl) (sq_of gl) (TupsF.dp tn) (fun d hd => by obtain ⟨b, _, rfl⟩ := List.mem_map.mp hd; exact nice_mono (nice_nats b) (by decide)) (by decide), fun hne H6 e6 => ?_, fun hne H6 e6 => ?_⟩
    · refine ⟨_, fun σ2 H2 h => h, ?_⟩
      have x6 := x.trans e6
      have une : us ≠ [] := fun z => by rw [z] at hne; cases hne
      have ul1 : 0 < us.length := List.length_pos_iff.mpr une
      refine ⟨by show 0 ≤ sizeLine; decide, fun lb hlb => ?_⟩
      have n7 := Ex.new (o := .lst []) hlb
      have gb7 : (upd H6 lb (.lst [])) lb = some (.lst []) := upd_same
      have hlbH : H lb = none := fresh_back x6 hlb
      have x7 := x6.trans n7
      have gd7 := gd.ex (e6.trans n7)
      have gl6 := e6 _ _ gl
      have nlab : la ≠ lb := ne_of_none gl6 hlb
      have gl7 := n7 _ _ gl6
      have gn7 := gn.ex (e6.trans n7)
      have tn7 := tn.ex (e6.trans n7)
      generalize upd H6 lb (.lst []) = H7 at n7 gb7 x7 gd7 gl7 gn7 tn7 ⊢
      have ndb : d ≠ lb := ne_of_none (gd.ex e6).ob hlb
      have nda : d ≠ la := fun z => by have := gd7.ob; rw [z, gl7] at this; cases this
      refine g_at [some (.ref a5), some (.ref rt), some (.ref d), some (.ref la), some (.ref lb), y5, y6, y7, y8, y9, y10, y11] rfl ?_
      refine ⟨.ref la, rfl, la, rfl, ⟨_, sq_of gl7⟩, ?_⟩
      refine for_list (K := K) (xs := us) (fun k σ' H' => ∃ (kvs : KB) (lat : List (List Nat)) (us2 : List V) (y5 y6 y7 y8 y9 y10 y11 : Option V), σ' = [some (.ref a5), some (.ref rt), some (.ref d), some (.ref la), some (.ref lb), y5, y6, y7, y8, y9, y10, y11] ∧ Ex H H' ∧ DX P w H' d kvs ∧ LayD K H' rs (kvX kvs) (G ++ lat) ∧ H' la = some (.lst us) ∧ TupsF H' us lay ∧ H' lb = some (.lst us2) ∧ TupsF H' us2 lat ∧ (∀ l ∈ lat, farN l rs.length = i + 1) ∧ (∀ k', k' < k → ∀ l, lay[k']? = some l → ∀ L ds, MRun (tag 0 rs) L ds → L.map (·.1) = l → ∀ p, p + 1 < rs.length → movesB (rowsOf L) (p + 1) = true → swapL l p ∈ G ++ lat))
        ⟨kvs, [], [], _, _, _, _, _, _, _, rfl, x7, gd7, by rw [List.append_nil]; exact gn7, gl7, tn7, gb7, .nil, (fun l hl => nomatch hl), (fun k' h => absurd h (Nat.not_lt_zero _))⟩ (fun k σ' H' _ hW => ?_) (fun k xq σ' H8 hx hW => ?_) (fun σ' H8 hW => ?_)
      · obtain ⟨kvs, lat, us2, y5, y6, y7, y8, y9, y10, y11, rfl, w1, w2, w3, w4, _⟩ := hW
        exact sq_of w4
      · clear gn gd gl tn gn7 gd7 gl7 tn7 gb7 gl6 n7 hlb
        obtain ⟨kvs, lat, us2, y5, y6, y7, y8, y9, y10, y11, rfl, x8, gd8, gn8, gl8, tn8, gb8, tb8, lt8, cl8⟩ := hW
        have hk : k < lay.length := by
          have := (List.getElem?_eq_some_iff.mp hx).1
          omega
        obtain ⟨lq, hlq⟩ : ∃ lq, lay[k]? = some lq := ⟨_, List.getElem?_eq_getElem hk⟩
        obtain ⟨bq, hbq, gq8⟩ := tn8.at hlq
        rw [hx] at hbq
        cases hbq
        obtain ⟨lqG, fq⟩ := c3 lq (List.mem_of_getElem? hlq)
        refine g_at [some (.ref a5), some (.ref rt), some (.ref d), some (.ref la), some (.ref lb), some (.ref bq), y6, y7, y8, y9, y10, y11] rfl ?_
        obtain ⟨t0, rv, L, ds, hvt, ht0, run, idL, hrow⟩ := gn8.rows lq (List.mem_append_left _ lqG)
        rw [fq] at ht0
        have lenL : (rowsOf L).length = rs.length := row_n tl run
        refine ⟨.ref d, rfl, .ref bq, rfl, d, .ref t0, rfl, ⟨kvs, keyN lq, bq, gd8, rfl, by rw [keyN_V]; exact gq8, hvt.symm⟩, ?_⟩
        refine ⟨t0, _, rfl, ht0, rfl, _, _, rfl, _, _, rfl, rfl, ?_⟩
        try dsimp only
        refine s_at [some (.ref a5), some (.ref rt), some (.ref d), some (.ref la), some (.ref lb), some (.ref bq), some (.int (i : Int)), some rv, y8, y9, y10, y11] rfl ?_
        refine ⟨rv, rfl, rv, rowsOf L, rfl, hrow, by omega, by omega, fun q3 us3 H9 hq3 e9 g9 dts => ⟨q3, rfl, ⟨_, sq_of g9⟩, ?_⟩⟩
        have hq3H : H q3 = none := fresh_back x8 hq3
        have nq3d : q3 ≠ d := fun z => by rw [z, gd8.ob] at hq3; cases hq3
        have nq3b : q3 ≠ lb := fun z => by rw [z, gb8] at hq3; cases hq3
        rw [lenL] at dts
        have us3l := All2.len dts
        have lk : lq.length = rs.length := (kG gn8 lq (List.mem_append_left _ lqG)).len
        have kq := kG gn8 lq (List.mem_append_left _ lqG)
        have mvl := mv_len (rs := rowsOf L) (n := rs.length - 1)
        refine for_list (K := K) (xs := us3) (fun j σ' H' => ∃ (kvs : KB) (lat : List (List Nat)) (us2 : List V) (y8 y9 y10 y11 : Option V), σ' = [some (.ref a5), some (.ref rt), some (.ref d), some (.ref la), some (.ref lb), some (.ref bq), some (.int (i : Int)), some rv, y8, y9, y10, y11] ∧ Ex H H' ∧ DX P w H' d kvs ∧ LayD K H' rs (kvX kvs) (G ++ lat) ∧ H' la = some (.lst us) ∧ TupsF H' us lay ∧ H' lb = some (.lst us2) ∧ TupsF H' us2 lat ∧ (∀ l ∈ lat, farN l rs.length = i + 1) ∧ (∀ k', k' < k → ∀ l, lay[k']? = some l → ∀ L ds, MRun (tag 0 rs) L ds → L.map (·.1) = l → ∀ p, p + 1 < rs.length → movesB (rowsOf L) (p + 1) = true → swapL l p ∈ G ++ lat) ∧ H' q3 = some (.lst us3) ∧ DtsAt K H' us3 (rowsOf L) (movesP (rowsOf L) (rs.length - 1)) ∧ FrzT H' bq (natsV lq) ∧ RowAt K H' rv (rowsOf L) ∧ (∀ j' p, j' < j → (movesP (rowsOf L) (rs.length - 1))[j']? = some p → swapL lq p ∈ G ++ lat))
          ⟨kvs, lat, us2, _, _, _, _, rfl, x8.trans e9, gd8.ex e9, gn8.ex e9, e9 _ _ gl8, tn8.ex e9, e9 _ _ gb8, tb8.ex e9, lt8, cl8, g9, dts, gq8.ex e9, hrow.ex e9, (fun j' p h => absurd h (Nat.not_lt_zero _))⟩ (fun j σ' H' _ hW => ?_) (fun j xt σ' H10 hxt hW => ?_) (fun σ' H10 hW => ?_)
        · obtain ⟨kvs, lat, us2, y8, y9, y10, y11, rfl, _, _, _, _, _, _, _, _, _, w, _⟩ := hW
          exact sq_of w
        · clear gn8 gd8 gl8 tn8 gb8 tb8 lt8 cl8 dts gq8 hrow g9 hvt ht0
          obtain ⟨kvs, lat, us2, y8, y9, y10, y11, rfl, x10, gd10, gn10, gl10, tn10, gb10, tb10, lt10, cl10, g10, dts, gq10, hrow10, mv10⟩ := hW
          obtain ⟨p, hp, tt, dv, rv2, rfl, htt, hdv, hrv2⟩ := All2.get dts hxt
          obtain ⟨hpn, hmv⟩ := mem_mv.mp (List.mem_of_getElem? hp)
          refine ⟨tt, _, rfl, htt, rfl, _, _, rfl, _, _, rfl, _, _, rfl, rfl, ?_⟩
          try dsimp only
          refine s_at [some (.ref a5), some (.ref rt), some (.ref d), some (.ref la), some (.ref lb), some (.ref bq), some (.int (i : Int)), some rv, some dv, some rv2, some (.int ((p + 1 : Nat) : Int)), y11] rfl ?_
          have at0 : atI (natsV lq) ((p : Nat) : Int) = some (.int (HH.ixN lq p : Int)) := atI_nat (natsV_at (ixN_at (by omega)))
          have at1 : atI (natsV lq) ((p + 1 : Nat) : Int) = some (.int (HH.ixN lq (p + 1) : Int)) := atI_nat (natsV_at (ixN_at (by omega)))
          have ev1 : Ev (tOp (rI0 fun i j => .int (i - j)) (tVar 10) (tC (.int 1))) [some (.ref a5), some (.ref rt), some (.ref d), some (.ref la), some (.ref lb), some (.ref bq), some (.int (i : Int)), some rv, some dv, some rv2, some (.int ((p + 1 : Nat) : Int)), y11] H10 (.int ((p : Nat) : Int)) := ev_is (ev_op (ev_var rfl) ev_c rv_I0) (by congr 1; omega)
          have up : EvTf (tOp (rCatAF K) (tOp (rCatAF K) (tSl (rSlA K) (tVar 5) tNoPart (tPart (tOp (rI0 fun i j => .int (i - j)) (tVar 10) (tC (.int 1))))) (tTupF (tCons (tOp (rIxT K) (tVar 5) (tVar 10)) (tCons (tOp (rIxT K) (tVar 5) (tOp (rI0 fun i j => .int (i - j)) (tVar 10) (tC (.int 1)))) tNil)))) (tSl (rSlA K) (tVar 5) (tPart (tOp (rI0 fun i j => .int (i + j)) (tVar 10) (tC (.int 1)))) tNoPart)) [some (.ref a5), some (.ref rt), some (.ref d), some (.ref la), some (.ref lb), some (.ref bq), some (.int (i : Int)), some rv, some dv, some rv2, some (.int ((p + 1 : Nat) : Int)), y11] H10 (natsV (swapL lq p)) := by
            rw [swap_vals]
            refine ef_catR (ef_catL (ep_to (ep_val (ev_var rfl) gq10.sq) ev1 rfl) (ef_two (ev_op (ev_var rfl) (ev_var rfl) (rv_ixT (K := K) gq10.sq at1)) (ev_op (ev_var rfl) ev1 (rv_ixT (K := K) gq10.sq at0))) (by simp) ?_) (ep_from (ep_val (ev_var rfl) gq10.sq) (ev_op (ev_var rfl) ev_c rv_I0) (show ((p + 1 : Nat) : Int) + 1 = ((p + 2 : Nat) : Int) by omega)) (by simp) ?_
            · rw [List.length_take, natsV_len]
              show min p lq.length + 2 ≤ 100000
              omega
            · rw [List.length_append, List.length_take, List.length_drop, natsV_len]
              show min p lq.length + 2 + (lq.length - (p + 2)) ≤ 100000
              omega
          try dsimp only
          refine q_run ?_
          refine up H10 (Ex.refl _) _ fun tl7 H11 e11 g11 => ?_
          refine s_at [some (.ref a5), some (.ref rt), some (.ref d), some (.ref la), some (.ref lb), some (.ref bq), some (.int (i : Int)), some rv, some dv, some rv2, some (.int ((p + 1 : Nat) : Int)), some (.ref tl7)] rfl ?_
          have gd11 := gd10.ex e11
          have gn11 := gn10.ex e11
          have nin : EvT (tB (tXNotIn P w (tVar 11) (tVar 2))) [some (.ref a5), some (.ref rt), some (.ref d), some (.ref la), some (.ref lb), some (.ref bq), some (.int (i : Int)), some rv, some dv, some rv2, some (.int ((p + 1 : Nat) : Int)), some (.ref tl7)] H11 (!decide (swapL lq p ∈ G ++ lat)) := fun H1 e1 Q q => by
            refine ⟨.ref tl7, rfl, .ref d, rfl, d, valV (kvX kvs) (keyN (swapL lq p)), rfl, ⟨kvs, keyN (swapL lq p), tl7, gd11.ex e1, rfl, by rw [keyN_V]; exact g11.ex e1, rfl⟩, _, rfl, ?_⟩
            rw [gn11.has]
            exact q H1 (Ex.refl _)
          refine s_when nin (fun hc H12 e12 => ?_) (fun hc H12 e12 => ?_)
          · have c2' : swapL lq p ∉ G ++ lat := by simpa using hc
            have e1112 := e11.trans e12
            obtain ⟨L', ds', run', ids', row'⟩ := step_run run (p := p) (by omega) hmv
            rw [idL] at ids'
            rw [← row'] at hrv2
            have far1 : farN (swapL lq p) rs.length = i + 1 := by
              rcases far_swap kq.ids (p := p) (by omega) with ⟨_, z⟩ | ⟨_, z⟩
              · omega
              · refine absurd (List.mem_append_left _ (c2 (swapL lq p) ?_ (by omega))) c2'
                rw [← ids']
                exact run_keeps tl run'
            have gd12 := gd11.ex e12
            have gn12 := gn11.ex e12
            have g12 := g11.ex e12
            have g12k : FrzT H12 tl7 ((keyN (swapL lq p)).map kV) := by rw [keyN_V]; exact g12
            refine ⟨_, rfl, _, _, rfl, rfl, rv2, rfl, by show 2 ≤ sizeLine; decide, fun tn2 htn => ?_⟩
            have n13 := Ex.new (o := .tup [V.int ((i : Int) + 1), rv2]) htn
            have gt13 : (upd H12 tn2 (.tup [V.int ((i : Int) + 1), rv2])) tn2 = some (.tup [V.int ((i + 1 : Nat) : Int), rv2]) := upd_same
            have gd13 := gd12.ex n13
            have gn13 := gn12.ex n13
            have g13k := g12k.ex n13
            have g13 := g12.ex n13
            have e1013 := e1112.trans n13
            generalize upd H12 tn2 (.tup [V.int ((i : Int) + 1), rv2]) = H13 at n13 gt13 gd13 gn13 g13k g13 e1013 ⊢
            have row13 := hrv2.ex e1013
            have gn14 := gn13.put (b := tl7) c2' (by rw [far1]; exact st_of gt13) run' ids' row13
            have f4 := few gn14
            have kl : kvs.length = (G ++ lat).length := by
              have := (few gn13).2
              unfold kvX at this
              rw [List.length_map] at this
              exact this
            refine ⟨.ref d, rfl, .ref tl7, rfl, d, kvs, keyN (swapL lq p), tl7, rfl, rfl, gd13, g13k, gn13.none c2', sz_lt (by have := (few gn13).1; omega), ?_⟩
            have x1314 : ExB d H13 (upd H13 d (.ext (dxP P w d (kvs ++ [(keyN (swapL lq p), tl7, .ref tn2)])))) := (ExB.refl _ _).upd
            have x14 : Ex H (upd H13 d (.ext (dxP P w d (kvs ++ [(keyN (swapL lq p), tl7, .ref tn2)])))) := Ex.mut (x10.trans e1013) hd
            have gd14 : DX P w (upd H13 d (.ext (dxP P w d (kvs ++ [(keyN (swapL lq p), tl7, .ref tn2)])))) d (kvs ++ [(keyN (swapL lq p), tl7, .ref tn2)]) := DX.put gd13 g13k
            have nfd : ∀ o u, H13 d ≠ some (.frz o u) := fun o u z => by rw [gd13.ob] at z; cases z
            have gn15 := gn14.exX x1314 gd13.ob
            have gl14 := x1314 _ _ nda.symm (e1013 _ _ gl10)
            have tn14 := TupsF.exB (tn10.ex e1013) x1314 nfd
            have gb14 := x1314 _ _ ndb.symm (e1013 _ _ gb10)
            have tb14 := TupsF.exB (tb10.ex e1013) x1314 nfd
            have g14q := x1314 _ _ nq3d (e1013 _ _ g10)
            have dts14 : DtsAt K _ us3 (rowsOf L) (movesP (rowsOf L) (rs.length - 1)) := All2.mono (fun v p h => (h.ex e1013).exX x1314 gd13.ob) dts
            have gq14 := (gq10.ex e1013).exA x1314 nfd
            have g14 := g13.exA x1314 nfd
            have hrow14 := rowAt_exX (hrow10.ex e1013) x1314 gd13.ob
            generalize upd H13 d (.ext (dxP P w d (kvs ++ [(keyN (swapL lq p), tl7, .ref tn2)]))) = H14 at x1314 x14 gd14 gn15 gl14 tn14 gb14 tb14 g14q dts14 gq14 g14 hrow14 ⊢
            have ub := All2.len tb14
            have latN : lat.length ≤ 720 := by
              have := (few gn13).1
              rw [List.length_append] at this
              omega
            refine s_app gb14 (ev_var rfl) (ev_var rfl) (by omega) fun H15 e15 => ?_
            have gb15 := e15 _ _ gb14
            have x1516 : ExB lb H15 (upd H15 lb (.lst (us2 ++ [V.ref tl7]))) := (ExB.refl _ _).upd
            have nfb : ∀ o u, H15 lb ≠ some (.frz o u) := fun o u z => by rw [gb15] at z; cases z
            have gd16 := (gd14.ex e15).exB x1516 ndb nfb
            have gn16 := (gn15.ex e15).exL x1516 gb15
            rw [List.append_assoc] at gn16
            have tb16 := TupsF.exB (All2.app (tb14.ex e15) (.cons ⟨tl7, rfl, g14.ex e15⟩ .nil) : TupsF H15 (us2 ++ [V.ref tl7]) (lat ++ [swapL lq p])) x1516 nfb
            refine ⟨_, lat ++ [swapL lq p], us2 ++ [V.ref tl7], _, _, _, _, rfl, Ex.mut (x14.trans e15) hlbH, gd16, gn16, x1516 _ _ nlab (e15 _ _ gl14), TupsF.exB (tn14.ex e15) x1516 nfb, upd_same, tb16, ?_, ?_, x1516 _ _ nq3b (e15 _ _ g14q), All2.mono (fun v p h => (h.ex e15).exL x1516 gb15) dts14, (gq14.ex e15).exA x1516 nfb, (hrow14.ex e15).exL x1516 gb15, ?_⟩
            · intro l hl
              rcases List.mem_append.mp hl with z | z
              · exact lt10 l z
              · rw [List.mem_singleton.mp z]
                exact far1
            · intro k' h1 l h2 L2 ds2 r2 e2 p2 h3 h4
              rw [← List.append_assoc]
              exact List.mem_append_left _ (cl10 k' h1 l h2 L2 ds2 r2 e2 p2 h3 h4)
            · intro j' p2 h1 h2
              rw [← List.append_assoc]
              rcases Nat.lt_or_ge j' j with z | z
              · exact List.mem_append_left _ (mv10 j' p2 z h2)
              · have : j' = j := by omega
                subst this
                rw [hp] at h2
                cases h2
                exact List.mem_append_right _ (List.mem_singleton_self _)
          · have c2' : swapL lq p ∈ G ++ lat := by
              cases c : decide (swapL lq p ∈ G ++ lat) with
              | true => exact of_decide_eq_true c
              | false =>
                rw [c] at hc
                cases hc
            have e1012 := e11.trans e12
            refine ⟨kvs, lat, us2, _, _, _, _, rfl, x10.trans e1012, gd10.ex e1012, gn10.ex e1012, e1012 _ _ gl10, tn10.ex e1012, e1012 _ _ gb10, tb10.ex e1012, lt10, cl10, e1012 _ _ g10, All2.mono (fun v p h => h.ex e1012) dts, gq10.ex e1012, hrow10.ex e1012, ?_⟩
            intro j' p2 h1 h2
            rcases Nat.lt_or_ge j' j with z | z
            · exact mv10 j' p2 z h2
            · have : j' = j := by omega
              subst this
              rw [hp] at h2
              cases h2
              exact c2'
        · clear gn8 gd8 gl8 tn8 gb8 tb8 lt8 cl8 dts gq8 hrow g9 hvt ht0
          obtain ⟨kvs, lat, us2, y8, y9, y10, y11, rfl, x10, gd10, gn10, gl10, tn10, gb10, tb10, lt10, cl10, g10, dts, gq10, hrow10, mv10⟩ := hW
          refine ⟨kvs, lat, us2, _, _, _, _, _, _, _, rfl, x10, gd10, gn10, gl10, tn10, gb10, tb10, lt10, ?_⟩
          intro k' h1 l h2 L2 ds2 r2 e2 p2 h3 h4
          rcases Nat.lt_or_ge k' k with z | z
          · exact cl10 k' z l h2 L2 ds2 r2 e2 p2 h3 h4
          · have : k' = k := by omega
            subst this
            rw [hlq] at h2
            cases h2
            have eL : L2 = L := run_one tl r2 run (by rw [e2, idL])
            rw [eL] at h4
            obtain ⟨j', hj'⟩ := List.getElem?_of_mem (mem_mv.mpr ⟨by omega, h4⟩ : p2 ∈ movesP (rowsOf L) (rs.length - 1))
            exact mv10 j' p2 (by have := (List.getElem?_eq_some_iff.mp hj').1; omega) hj'
      · clear gn gd gl tn gn7 gd7 gl7 tn7 gb7 gl6 n7 hlb
        obtain ⟨kvs, lat, us2, y5, y6, y7, y8, y9, y10, y11, rfl, x8, gd8, gn8, gl8, tn8, gb8, tb8, lt8, cl8⟩ := hW
        have f8 := (few gn8).1
        rw [List.length_append] at f8
        refine ⟨.ref lb, rfl, ?_⟩
        refine ⟨2 * (N - (G ++ lat).length) + lat.length, ?_, kvs, G ++ lat, lat, us2, lb, i + 1, _, _, _, _, _, _, _, _, rfl, rfl, x8, gd8, gn8, gb8, tb8, ?_, ?_, ?_, ?_, by omega⟩
        · rw [List.length_append]
          omega
        · intro l hl
          rcases List.mem_append.mp hl with z | z
          · have := c1 l z
            omega
          · have := lt8 l z
            omega
        · intro l k hf
          rcases Nat.lt_or_ge i (farN l rs.length) with z | z
          · obtain ⟨L, ds, p, r, e1, e2, e3, e4⟩ := far_pred tl k (m := i) (by omega)
            have hG := c2 _ (run_keeps tl r) (by omega)
            have hlay := c4 _ hG e1
            obtain ⟨k', hk'⟩ := List.getElem?_of_mem hlay
            rw [e4]
            exact cl8 k' (by have := (List.getElem?_eq_some_iff.mp hk').1; omega) _ hk' L ds r rfl p e2 e3
          · exact List.mem_append_left _ (c2 l k z)
        · exact fun l hl => ⟨List.mem_append_right _ hl, lt8 l hl⟩
        · intro l hl hf
          rcases List.mem_append.mp hl with z | z
          · have := c1 l z
            omega
          · exact z
    · have hu0 : us = [] := by
        cases us with
        | nil => rfl
        | cons a b => cases hne
      subst hu0
      have hl0 : lay = [] := List.eq_nil_of_length_eq_zero (by rw [← ulen]; rfl)
      subst hl0
      refine s_ret (D := { nx := fun _ H' => Q .non H', rt := Q }) (ev_var rfl) fun H8 e8 => q d kvs G H8 hd ((x.trans e6).trans e8) (gd.ex (e6.trans e8)) (gn.ex (e6.trans e8)) (fun l => ⟨kG gn l, fun k => c2 l k (Nat.le_of_lt (lay_top tl (fun l k h => ?_) l k))⟩) (by omega)
      exact absurd (c4 l (c2 l k (by omega)) h) (List.not_mem_nil)
end
end K71
set_option maxHeartbeats 4000000
namespace K71
open PySem PySem.Spec PyProof.Rows L2 Evl HH RZ
section
variable {P : Program} {w : World} {K : PySem.W.Frag} {mg : Str → Option Value} {base : Heap}
theorem s_anyC {te : TE} {g : TG} {D : Ends} {σ : L2.St} {H : Hp} (h : te σ H fun x H1 => g x σ H1 D.nx) : tAsg te g D σ H := h
theorem sorted_tups {H : Hp} {G : List (List Nat)} {bs : List Addr} {ls : List (List Int)} (pr : Paired (fun b (l : List Int) => FrzT H b (l.map V.int)) bs ls) : (∀ li ∈ ls, ∃ l ∈ G, li = l.map fun (k : Nat) => (k : Int)) → ∃ Ls, TupsF H (bs.map V.ref) Ls ∧ ∀ l ∈ Ls, l ∈ G := by
  induction pr with
  | nil => exact fun _ => ⟨[], .nil, fun _ h => nomatch h⟩
  | @cons b li bs ls h t ih =>
    intro hG
    obtain ⟨Ls, i1, i2⟩ := ih fun li h => hG li (List.mem_cons_of_mem _ h)
    obtain ⟨l, hl, e⟩ := hG li (List.mem_cons_self ..)
    refine ⟨l :: Ls, .cons ⟨b, rfl, ?_⟩ i1, fun x hx => ?_⟩
    · rw [natsV_int, ← e]
      exact h
    · rcases List.mem_cons.mp hx with z | z
      · rw [z]
        exact hl
      · exact i2 x z
theorem ok_law_right {f f1 f2 f3 f4 f5 f6 f7 f8 f9 f10 f11 : Addr} {fd fd1 fd2 fd3 fd4 fd5 fd6 fd7 fd8 fd9 fd10 fd11 : FuncData} (F : FnP K "_law_right" s_law_right f fd) (g : mg "_law_right" = some (.ref f)) (b : Binds K fd ["_law_box"] [])
    (h_law_row : Has P w K mg base 3 "_law_row" ["_law_box", "_law_most"] (spRow K) f1 fd1) (h_law_layers : Has P w K mg base 3 "_law_layers" ["_law_pen"] (spLayers P w K) f2 fd2) (h_law_of : Has P w K mg base 2 "_law_of" ["_law_box", "_law_pool"] (spOf K) f3 fd3) (h_way_to : Has P w K mg base 7 "way_to" ["row", "order"] (spWay K) f4 fd4) (h_how_far : Has P w K mg base 7 "how_far" ["row", "order"] (spHowFar K) f5 fd5) (h_law_same : Has P w K mg base 4 "_law_same" ["_law_found", "_law_due"] (spSame K 4) f6 fd6) (h_law_behind : Has P w K mg base 3 "_law_behind" ["_law_pen", "_law_went"] (spBehindD K) f7 fd7) (h_law_deeds : Has P w K mg base 2 "_law_deeds" ["_law_pen"] (spDts K) f8 fd8) (h_law_again : Has P w K mg base 1 "_law_again" ["_law_order", "_law_seats"] (spAgainL K) f9 fd9) (h_nearer : Has P w K mg base 7 "nearer" ["row", "order"] (spDeeds K) f10 fd10) (h_shows_way : Has P w K mg base 5 "shows_way" ["row", "order", "thing"] (spShowsW K) f11 fd11)
    (m_len : mg "len" = none) (m_range : mg "range" = none) (m_list : mg "list" = none) (m_sorted : mg "sorted" = none) : Has P w K mg base 8 "_law_right" ["_law_box"] spRight f fd := by
  refine ⟨F.ok sc_law_right (fun vs H Q E h => ?_) (fun cdv A outer s H vs Q E hr h => ?_), g, F.kp, b⟩
  · obtain ⟨p, rfl, _⟩ := h
    rfl
  · obtain ⟨p, rfl, hb, q⟩ := h
    have hu := room_u1 hr
    refine ⟨_, PSs.nox (pss_cons (ps_set (i := 1) sc_law_right.nd rfl (.inl rfl) (pe_call h_law_row.G (hr.mono (by decide)) (by rfl) h_law_row.g h_law_row.kp h_law_row.b .nil pass0 (pa_cons (pv 0) (pa_cons pe_int pa_nil))))
      (pss_cons (ps_set (i := 2) sc_law_right.nd rfl (.inl rfl) (pe_call h_law_layers.G (hr.mono (by decide)) (by rfl) h_law_layers.g h_law_layers.kp h_law_layers.b .nil pass0 (pa_cons (pv 1) pa_nil)))
      (pss_cons (ps_set (i := 3) sc_law_right.nd rfl (.inr rfl) (pe_callB (cr_sortedX (P := P) (w := w) rfl) (by rfl) m_sorted (by decide +kernel) (pa_cons (pv 2) pa_nil)))
      (pss_cons (ps_if (pt_cmpR op_gt (pe_callB (call_len_seqK (K := K)) (by rfl) m_len PySem.boot_len (pa_cons (pv 3) pa_nil)) pe_int (nomark _)) (pss_one (ps_set (i := 3) sc_law_right.nd rfl (.inr rfl) (pe_lc (own := [("_law_turn", 15)]) (g := gName 15) (by rfl) sc_law_right.nd (pi_range1 (by rfl) m_range (pa_cons pe_int pa_nil)) (blkOk_by (own := [("_law_turn", 15)]) (N := ["_law_box", "_law_pen", "_law_layers_here", "_law_some", "_law_seats", "_law_far", "_law_there", "_law_went", "_law_back", "_law_near", "_law_deed", "_law_here", "_law_at", "_law_moved", "_law_odd", "_law_turn"]) (sc := defScope s_law_right) (by decide +kernel)) (fun _ _ _ _ _ => (pg_name (i := 15) sc_law_right.nd rfl (Or.inl rfl))) (fun _ _ _ _ _ => pts_nil) (fun _ _ _ _ _ => (pe_call h_law_of.G (hr.mono (by decide)) (by rfl) h_law_of.g h_law_of.kp h_law_of.b .nil pass0 (pa_cons (pv 0) (pa_cons (pv 3) pa_nil))))))) pss_nil)
      (pss_cons (ps_for PassesOwn.never rfl (pi_list (pv 3)) (pg_name (i := 4) sc_law_right.nd rfl (Or.inl rfl))
        (pss_cons (ps_asg (pe_xget (P := P) (w := w) hu (pv 2) (pv 4) (fun _ _ => rfl)) (pg_tup rfl (pgs_cons (pg_name (i := 5) sc_law_right.nd rfl (Or.inl rfl)) (pgs_cons (pg_name (i := 6) sc_law_right.nd rfl (Or.inl rfl)) pgs_nil))))
      (pss_cons (ps_par (i := 7) (j := 8) (by rfl) sc_law_right.nd rfl rfl (by decide) rfl rfl (pa_cons (pe_call h_way_to.G (hr.mono (by decide)) (by rfl) h_way_to.g h_way_to.kp h_way_to.b .nil pass0 (pa_cons (pv 1) (pa_cons (pv 4) pa_nil))) (pa_cons (pe_call h_law_layers.G (hr.mono (by decide)) (by rfl) h_law_layers.g h_law_layers.kp h_law_layers.b .nil pass0 (pa_cons (pv 6) pa_nil)) pa_nil)) (by rfl))
      (pss_cons (ps_if (PW.pt (pw_or (pt_not (pt_val (pe_call h_law_same.G (hr.mono (by decide)) (by rfl) h_law_same.g h_law_same.kp h_law_same.b .nil pass0 (pa_cons (pe_lst (pa_cons (pe_call h_how_far.G (hr.mono (by decide)) (by rfl) h_how_far.g h_how_far.kp h_how_far.b .nil pass0 (pa_cons (pv 1) (pa_cons (pv 4) pa_nil))) (pa_cons (pe_callB call_len_seq (by rfl) m_len PySem.boot_len (pa_cons (pv 7) pa_nil)) pa_nil))) (pa_cons (pe_lst (pa_cons (pv 5) (pa_cons (pv 5) pa_nil))) pa_nil))))) (pw_or1 (pt_cmpR (op_neD hr.units) (pe_call h_law_behind.G (hr.mono (by decide)) (by rfl) h_law_behind.g h_law_behind.kp h_law_behind.b .nil pass0 (pa_cons (pv 1) (pa_cons (pv 7) pa_nil))) (pv 4) (nomark _))))) (pss_one (ps_ret pe_bl)) pss_nil)
      (pss_cons (ps_set (i := 9) sc_law_right.nd rfl (.inl rfl) (pe_lst pa_nil))
      (pss_cons (ps_for PassesOwn.never rfl (pi_list (pe_call h_law_deeds.G (hr.mono (by decide)) (by rfl) h_law_deeds.g h_law_deeds.kp h_law_deeds.b .nil pass0 (pa_cons (pv 1) pa_nil))) (pg_tup rfl (pgs_cons (pg_name (i := 10) sc_law_right.nd rfl (Or.inl rfl)) (pgs_cons (pg_name (i := 11) sc_law_right.nd rfl (Or.inl rfl)) (pgs_cons (pg_name (i := 12) sc_law_right.nd rfl (Or.inl rfl)) pgs_nil))))
        (pss_cons (ps_set (i := 13) sc_law_right.nd rfl (.inl rfl) (pe_listRg rfl (by rfl) m_list (prg_1 (by rfl) m_range (pe_callB call_len_seq (by rfl) m_len PySem.boot_len (pa_cons (pv 1) pa_nil)))))
      (pss_cons (ps_asg (pe_lst (pa_cons (pv 12) (pa_cons (pe_op op_sub (pv 12) pe_int) pa_nil))) (pg_sl (pv 13) (pe_op op_sub (pv 12) pe_int) (pe_op op_add (pv 12) pe_int)))
      (pss_one (ps_if (pt_cmpR op_lt (pe_ix ix_tup (pe_xget (P := P) (w := w) hu (pv 8) (pe_call h_law_again.G (hr.mono (by decide)) (by rfl) h_law_again.g h_law_again.kp h_law_again.b .nil pass0 (pa_cons (pv 13) (pa_cons (pe_callTy call_list_of (by rfl) m_list (by decide +kernel) (pa_cons (pv 4) pa_nil)) pa_nil))) (fun _ _ => rfl)) pe_int (fun _ _ => rfl)) (pv 5) (nomark _)) (pss_one (ps_expr (pe_bm PySem.F.plainAttrs_list PySem.F.slot_list_append PySem.F.type_list_append mt_append (pv 9) (pa_cons (pv 10) pa_nil)))) pss_nil)))))
      (pss_cons (ps_if (pt_not (pt_val (pe_call h_law_same.G (hr.mono (by decide)) (by rfl) h_law_same.g h_law_same.kp h_law_same.b .nil pass0 (pa_cons (pe_lst (pa_cons (pe_call h_nearer.G (hr.mono (by decide)) (by rfl) h_nearer.g h_nearer.kp h_nearer.b .nil pass0 (pa_cons (pv 1) (pa_cons (pv 4) pa_nil))) (pa_cons (pe_call h_shows_way.G (hr.mono (by decide)) (by rfl) h_shows_way.g h_shows_way.kp h_shows_way.b .nil pass0 (pa_cons (pv 1) (pa_cons (pv 4) (pa_cons (pv 7) pa_nil)))) pa_nil))) (pa_cons (pe_lst (pa_cons (pe_callB cr_sortedDd (by rfl) m_sorted (by decide +kernel) (pa_cons (pv 9) pa_nil)) (pa_cons pe_bl pa_nil))) pa_nil))))) (pss_one (ps_ret pe_bl)) pss_nil)
      (pss_cons (ps_set (i := 14) sc_law_right.nd rfl (.inl rfl) (pe_ifExp (pt_cmpR (op_neD hr.units) (pe_call h_law_deeds.G (hr.mono (by decide)) (by rfl) h_law_deeds.g h_law_deeds.kp h_law_deeds.b .nil pass0 (pa_cons (pv 6) pa_nil)) (pe_lst pa_nil) (nomark _)) (pe_op op_cat (pv 7) (pe_lst (pa_cons (pe_ix ix_tup (pe_ix ix_list (pe_call h_law_deeds.G (hr.mono (by decide)) (by rfl) h_law_deeds.g h_law_deeds.kp h_law_deeds.b .nil pass0 (pa_cons (pv 6) pa_nil)) pe_int (fun _ _ => rfl)) pe_int (fun _ _ => rfl)) pa_nil))) (pe_op op_cat (pv 7) (pe_lst (pa_cons (pe_tup (pa_cons pe_str (pa_cons pe_int pa_nil))) pa_nil)))))
      (pss_one (ps_if (PW.pt (pw_or (pt_cmpR op_isnot_bl (pe_call h_shows_way.G (hr.mono (by decide)) (by rfl) h_shows_way.g h_shows_way.kp h_shows_way.b .nil pass0 (pa_cons (pv 1) (pa_cons (pv 4) (pa_cons (pv 14) pa_nil)))) pe_bl (nomark _)) (pw_or1 (PW.pt (pw_and (pt_cmpR (op_neD hr.units) (pv 7) (pe_lst pa_nil) (nomark _)) (pw_and1 (pt_cmpR op_isnot_bl (pe_call h_shows_way.G (hr.mono (by decide)) (by rfl) h_shows_way.g h_shows_way.kp h_shows_way.b .nil pass0 (pa_cons (pv 1) (pa_cons (pv 4) (pa_cons (pe_slice sl_list (pv 7) (po_some pe_int) po_none) pa_nil)))) pe_bl (nomark _)))))))) (pss_one (ps_ret pe_bl)) pss_nil))))))))))
      (pss_one (ps_ret pe_bl))))))), ?_⟩
    refine ⟨.ref p, rfl, p, 5, 0, rfl, by decide, by decide, hb, lim_ok (by decide), fun v H1 rs x1 b1 hv r0 rm tm => ?_⟩
    have tl : ∀ b ∈ rs, 0 ≤ b.2 := fun b hb => (tm b hb).2.2.1
    refine g_at [some (.ref p), some v, none, none, none, none, none, none, none, none, none, none, none, none, none, none] rfl ?_
    refine ⟨v, rfl, v, rs, rfl, hv, r0, by omega, tl, fun d kb G H2 hd e2 gd gn kk lG => ?_⟩
    refine g_at [some (.ref p), some v, some (.ref d), none, none, none, none, none, none, none, none, none, none, none, none, none] rfl ?_
    have keq : kb.map (·.1) = (G.map fun l => l.map fun (k : Nat) => (k : Int)).map keyI := by
      have := gn.keys
      unfold kvX at this
      rw [List.map_map] at this
      rw [List.map_map]
      exact this
    have kne : ∀ k ∈ (G.map fun l => l.map fun (k : Nat) => (k : Int)), k ≠ [] := fun k hk => by
      obtain ⟨l, hl, rfl⟩ := List.mem_map.mp hk
      have := ((kk l).mp hl).len
      intro z
      have z := List.map_eq_nil_iff.mp z
      rw [z] at this
      simp at this
      omega
    have b2 := b1.ex e2
    refine ⟨.ref d, rfl, d, kb, _, rfl, gd, keq, kne, fun ls bs sq pr pml srt hsq => ?_⟩
    obtain ⟨Ls, tnL, inL⟩ := sorted_tups (G := G) pr fun li h => by
      obtain ⟨l, hl, e⟩ := List.mem_map.mp (pml.mem_iff.mp h)
      exact ⟨l, hl, e.symm⟩
    have n3 := Ex.new (o := .lst (bs.map V.ref)) hsq
    have gq3 : (upd H2 sq (.lst (bs.map V.ref))) sq = some (.lst (bs.map V.ref)) := upd_same
    have tn3 := tnL.ex n3
    have lls : (bs.map V.ref).length = G.length := by
      have h1 : bs.length = ls.length := Paired.length pr
      have h2 := pml.length_eq
      rw [List.length_map] at h2 ⊢
      omega
    have pG : 0 < G.length := List.length_pos_of_mem ((kk _).mpr (run_keeps tl (.nil : MRun (tag 0 rs) (tag 0 rs) [])))
    generalize bs.map V.ref = us at n3 gq3 tn3 lls
    generalize upd H2 sq (.lst us) = H3 at n3 gq3 tn3 ⊢
    have e13 : Ex H1 H3 := e2.trans n3
    have hv3 := hv.ex e13
    have b3 := b2.ex n3
    have x3 : ExB p H H3 := x1.trans (.of e13)
    have gd3 := gd.ex n3
    have gn3 := gn.ex n3
    refine g_at [some (.ref p), some v, some (.ref d), some (.ref sq), none, none, none, none, none, none, none, none, none, none, none, none] rfl ?_
    obtain ⟨bl3, hbl3⟩ := b3.lst
    have nfp : ∀ o u, H3 p ≠ some (.frz o u) := fun o u z => by rw [hbl3] at z; cases z
    have nsp : sq ≠ p := fun z => by
      obtain ⟨bl2, hbl2⟩ := b2.lst
      rw [z, hbl2] at hsq
      cases hsq
    have ndp : d ≠ p := fun z => by have := gd3.ob; rw [z, hbl3] at this; cases this
    refine q_ifJ (b := decide ((us.length : Int) > 30)) (M := fun σ' H' => ∃ (sa : Addr) (us : List V) (Ls : List (List Nat)) (y15 : Option V), σ' = [some (.ref p), some v, some (.ref d), some (.ref sa), none, none, none, none, none, none, none, none, none, none, none, y15] ∧ ExB p H3 H' ∧ H' sa = some (.lst us) ∧ TupsF H' us Ls ∧ (∀ l ∈ Ls, l ∈ G) ∧ us.length ≤ 30) (et_test (ev_op (ev_len (K := K) (ev_var rfl) (sq_of gq3)) ev_c rv_I0)) (fun hc H4 e4 T hT => ?_) (fun hc H4 e4 T hT => ?_) (fun σ' H4 hW => ?_)
    · refine s_anyC ?_
      have b4 := b3.ex e4
      refine el_drawsF (σ := [some (.ref p), some v, some (.ref d), some (.ref sq), none, none, none, none, none, none, none, none, none, none, none, none]) (j := 15) (vs := [15]) (G := (· ∈ G)) (b0 := 100) (c := 100) (m := 12) (p := p) (by decide) (b4.le (by omega)) (fun _ => rfl) (fun t H5 ht5 x5 b5 Q r => ?_) fun D us5 Ls5 H5 hD x5 b5 gD tn lL hL => ?_
      · have gq5 := x5 _ _ nsp (e4 _ _ gq3)
        have tn5 := TupsF.exB (tn3.ex e4) x5 (fun o u z => by obtain ⟨bl4, hbl4⟩ := b4.lst; rw [hbl4] at z; cases z)
        refine ⟨.ref p, rfl, .ref sq, rfl, p, sq, us, _, rfl, sq_of gq5, by omega, by omega, nsp, b5, lim_ok (by omega), fun r' x H6 hr' x6 b6 => ?_⟩
        have hr2 : r' < Ls.length := by
          have := (List.getElem?_eq_some_iff.mp hr').1
          have := All2.len tn3
          omega
        obtain ⟨gb, hgb, fgb⟩ := tn5.at (List.getElem?_eq_getElem hr2)
        rw [hr'] at hgb
        cases hgb
        obtain ⟨bl5, hbl5⟩ := b5.lst
        exact r gb _ H6 x6 (b6.le (by omega)) (fgb.exA x6 (fun o u z => by rw [hbl5] at z; cases z)) (inL _ (List.getElem_mem hr2))
      · try dsimp only
        refine g_at [some (.ref p), some v, some (.ref d), some (.ref D), none, none, none, none, none, none, none, none, none, none, none, none] rfl ?_
        exact hT _ _ ⟨D, us5, Ls5, _, rfl, (ExB.of e4).trans x5, gD, tn, hL, by have := All2.len tn; omega⟩
    · exact hT _ _ ⟨sq, us, Ls, _, rfl, .of e4, e4 _ _ gq3, tn3.ex e4, inL, by have := of_decide_eq_false hc; omega⟩
    · clear tn3 inL lls tnL gq3
      obtain ⟨sa, us, Ls, y15, rfl, x4, gs4, tn4, inL, u30⟩ := hW
      have hv4 := hv3.exB x4 b3
      have gd4 := gd3.exB x4 ndp nfp
      have gn4 := gn3.exL x4 hbl3
      have xp4 := x3.trans x4
      refine ⟨.ref sa, rfl, sa, rfl, ⟨_, sq_of gs4⟩, ?_⟩
      refine for_list (K := K) (xs := us) (fun k σ' H' => ∃ (y4 y5 y6 y7 y8 y9 y10 y11 y12 y13 y14 y15 : Option V), σ' = [some (.ref p), some v, some (.ref d), some (.ref sa), y4, y5, y6, y7, y8, y9, y10, y11, y12, y13, y14, y15] ∧ Ex H4 H') ⟨_, _, _, _, _, _, _, _, _, _, _, _, rfl, Ex.refl _⟩ (fun k σ' H' _ hW => ?_) (fun k xg σ' H5 hx hW => ?_) (fun σ' H5 hW => ?_)
      · obtain ⟨y4, y5, y6, y7, y8, y9, y10, y11, y12, y13, y14, y15, rfl, e⟩ := hW
        exact sq_of (e _ _ gs4)
      · obtain ⟨y4, y5, y6, y7, y8, y9, y10, y11, y12, y13, y14, y15, rfl, e5⟩ := hW
        have hk2 : k < Ls.length := by
          have := (List.getElem?_eq_some_iff.mp hx).1
          have := All2.len tn4
          omega
        obtain ⟨gb, hgb, fgb4⟩ := tn4.at (List.getElem?_eq_getElem hk2)
        rw [hx] at hgb
        cases hgb
        have lgG := inL _ (List.getElem_mem hk2)
        generalize Ls[k] = lg at lgG fgb4
        refine g_at [some (.ref p), some v, some (.ref d), some (.ref sa), some (.ref gb), y5, y6, y7, y8, y9, y10, y11, y12, y13, y14, y15] rfl ?_
        have kp := (kk lg).mp lgG
        have fgb := fgb4.ex e5
        obtain ⟨t0, rv, L, ds, hvt, ht0, run, idL, hrow⟩ := (gn4.ex e5).rows lg lgG
        subst idL
        have hv5 := hv4.ex e5
        refine ⟨.ref d, rfl, .ref gb, rfl, d, .ref t0, rfl, ⟨kb, keyN (L.map (·.1)), gb, gd4.ex e5, rfl, by rw [keyN_V]; exact fgb, hvt.symm⟩, ?_⟩
        refine ⟨t0, _, rfl, ht0, rfl, _, _, rfl, _, _, rfl, rfl, ?_⟩
        try dsimp only
        obtain ⟨far, hfar⟩ : ∃ far, far = farN (L.map (·.1)) rs.length := ⟨_, rfl⟩
        rw [← hfar]
        refine s_at [some (.ref p), some v, some (.ref d), some (.ref sa), some (.ref gb), some (.int (far : Int)), some rv, y7, y8, y9, y10, y11, y12, y13, y14, y15] rfl ?_
        have W5 : Went K H5 v gb rs L := ⟨hv5, by omega, tl, fgb.sq, ds, run⟩
        have rlen : (rowsOf L).length = rs.length := row_n tl run
        have tlL : ∀ x ∈ rowsOf L, 0 ≤ x.2 := tolls_run tl run
        try dsimp only
        refine q_par2 ?_
        refine ⟨v, rfl, .ref gb, rfl, v, gb, rs, L, rfl, W5, r0, fun wq wus wds H6 hwq e6 g6 da6 wr6 => ⟨rv, rfl, rv, rowsOf L, rfl, hrow.ex e6, by omega, by omega, tlL, fun d2 kb2 G2 H7 hd2 e7 gd7 gn7 kk2 lG2 => ⟨_, _, rfl, ?_⟩⟩⟩
        try dsimp only
        refine s_at [some (.ref p), some v, some (.ref d), some (.ref sa), some (.ref gb), some (.int (far : Int)), some rv, some (.ref wq), some (.ref d2), y9, y10, y11, y12, y13, y14, y15] rfl ?_
        obtain ⟨L', rL', eL', lenW⟩ := way_run wr6 tl kp
        have hL' : L' = L := run_one tl rL' run eL'
        subst hL'
        have lenW : wds.length = far := by rw [hfar]; exact lenW
        obtain ⟨rows, oks⟩ := rL'.rows
        rw [show rowsOf (tag 0 rs) = rs from tag_snd 0 rs] at rows oks
        have swds := run_swD rL'
        rw [tag_ids] at swds
        have fsm : far ≤ 900 := by
          rw [hfar]
          exact tab_small _ (by omega)
        have e57 := e6.trans e7
        have W7 := W5.ex e57
        have g7 := e7 _ _ g6
        have da7 := deeds_ex e7 da6
        have wl : wus.length = far := by rw [All2.len da7, lenW]
        have flat : ∀ (K : PySem.W.Frag) (H : Hp) (i : Int) (m : Nat), Alike K H (m + 1) (.int i) (.int i) := fun K H i m => .inl ⟨rfl, True.intro⟩
        have sm1 : Ev (tCall (spSame K 4) [] E0 (tCons (tLst (tCons (tCall (spHowFar K) [] E0 (tCons (tVar 1) (tCons (tVar 4) tNil))) (tCons (tCB (rLenS K) (tCons (tVar 7) tNil)) tNil))) (tCons (tLst (tCons (tVar 5) (tCons (tVar 5) tNil))) tNil))) [some (.ref p), some v, some (.ref d), some (.ref sa), some (.ref gb), some (.int (far : Int)), some rv, some (.ref wq), some (.ref d2), y9, y10, y11, y12, y13, y14, y15] H7 (.bl true) := by
          intro H10 e10 Q10 k10
          refine ⟨v, rfl, .ref gb, rfl, v, gb, rs, L', rfl, W7.ex e10, fun H11 e11 => ?_⟩
          refine (ev_len (K := K) (ev_var rfl) (sq_of ((e10.trans e11) _ _ g7)) : Ev (tCB (rLenS K) (tCons (tVar 7) tNil)) [some (.ref p), some v, some (.ref d), some (.ref sa), some (.ref gb), some (.int (far : Int)), some rv, some (.ref wq), some (.ref d2), y9, y10, y11, y12, y13, y14, y15] H11 (.int (wus.length : Int))) H11 (Ex.refl _) _ fun H12 e12 => ?_
          refine ⟨by show 2 ≤ sizeLine; decide, fun c1 hc1 => ⟨_, rfl, _, rfl, by show 2 ≤ sizeLine; decide, fun c2 hc2 => ?_⟩⟩
          have n1 := Ex.new (o := .lst [V.int (farN (L'.map (·.1)) rs.length : Int), .int (wus.length : Int)]) hc1
          have n2 := Ex.new (o := .lst [V.int (far : Int), .int (far : Int)]) hc2
          exact ⟨.ref c1, .ref c2, rfl, alike_two (d := 3) (sq_of (n2 _ _ upd_same)) (sq_of upd_same) (by show Alike K _ 3 (.int (farN (L'.map (·.1)) rs.length : Int)) _; rw [← hfar]; exact flat _ _ _ _) (by rw [wl]; exact flat _ _ _ _), fun H13 e13 => k10 H13 ((((e11.trans e12).trans n1).trans n2).trans e13)⟩
        have bh1 : EvT (tTest (tOp (rNeD K) (tCall (spBehindD K) [] E0 (tCons (tVar 1) (tCons (tVar 7) tNil))) (tVar 4))) [some (.ref p), some v, some (.ref d), some (.ref sa), some (.ref gb), some (.int (far : Int)), some rv, some (.ref wq), some (.ref d2), y9, y10, y11, y12, y13, y14, y15] H7 false := by
          intro H10 e10 Q k
          refine ⟨v, rfl, .ref wq, rfl, v, wq, rs, wus, wds, rfl, W7.row.ex e10, r0, by omega, tl, sq_of (e10 _ _ g7), deeds_ex e10 da7, oks, fun t H11 e11 ht => ⟨.ref gb, rfl, ?_⟩⟩
          rw [← swds] at ht
          exact (rv_neD (dp_nats ht) (dp_nats (W7.ex (e10.trans e11)).ord) (nice_nats _) (by decide)) H11 (Ex.refl _) _ fun H12 e12 => ⟨false, rfl, k H12 (e11.trans e12)⟩
        refine q_when (b := false) (et_is (et_or (et_not (et_B sm1)) fun _ => bh1) rfl) (fun z => by cases z) fun _ H8 e8 => ?_
        have e58 := e57.trans e8
        refine ⟨by show 0 ≤ sizeLine; decide, fun nq hnq => ?_⟩
        have n9 := Ex.new (o := .lst []) hnq
        have gn9 : (upd H8 nq (.lst [])) nq = some (.lst []) := upd_same
        have e59 := e58.trans n9
        have hnq5 : H5 nq = none := fresh_back e58 hnq
        have nwn : wq ≠ nq := fun z => by
          have := e8 _ _ g7
          rw [z, hnq] at this
          cases this
        have nfd2 : d2 ≠ nq := fun z => by
          have := (gd7.ex e8).ob
          rw [z, hnq] at this
          cases this
        have W9 := W5.ex e59
        have g9 := n9 _ _ (e8 _ _ g7)
        have da9 := deeds_ex (e8.trans n9) da7
        have gd9 := gd7.ex (e8.trans n9)
        have gl9 := gn7.ex (e8.trans n9)
        have fr9 := fgb.ex e59
        have hr9 := hrow.ex e59
        generalize upd H8 nq (.lst []) = H9 at n9 gn9 e59 W9 g9 da9 gd9 gl9 fr9 hr9 ⊢
        clear sm1 bh1
        refine g_at [some (.ref p), some v, some (.ref d), some (.ref sa), some (.ref gb), some (.int (far : Int)), some rv, some (.ref wq), some (.ref d2), some (.ref nq), y10, y11, y12, y13, y14, y15] rfl ?_
        have adjE : (movesP rs (rs.length - 1)).filter (fun p => bef (L'.map (·.1)) (p + 1) p) = adjL (L'.map (·.1)) (rs.length - 1) := by
          unfold movesP adjL
          rw [List.filter_filter]
          refine List.filter_congr fun p hp => ?_
          have hp := List.mem_range.mp hp
          cases c : bef (L'.map (·.1)) (p + 1) p with
          | false => rfl
          | true =>
            have om := one_move tl run (p := p) (by omega) c
            unfold fallB at om
            unfold movesB
            cases c2 : letsN rs (p + 1) with
            | true => rfl
            | false =>
              rw [c2] at om
              rw [Nat.add_sub_cancel]
              simpa using (Bool.and_eq_true_iff.mp om).2
        refine ⟨v, rfl, v, rs, rfl, W9.row, r0, by omega, fun q3 us3 H10 hq3 e10 g10 dts => ⟨q3, rfl, ⟨_, sq_of g10⟩, ?_⟩⟩
        have n3q : q3 ≠ nq := fun z => by rw [z, gn9] at hq3; cases hq3
        have mvl := mv_len (rs := rs) (n := rs.length - 1)
        have us3l := All2.len dts
        refine for_list (K := K) (xs := us3) (fun j σ' H' => ∃ (ns : List V) (y10 y11 y12 y13 y14 y15 : Option V), σ' = [some (.ref p), some v, some (.ref d), some (.ref sa), some (.ref gb), some (.int (far : Int)), some rv, some (.ref wq), some (.ref d2), some (.ref nq), y10, y11, y12, y13, y14, y15] ∧ Ex H5 H' ∧ ExB nq H9 H' ∧ H' nq = some (.lst ns) ∧ H' q3 = some (.lst us3) ∧ DtsAt K H' us3 rs (movesP rs (rs.length - 1)) ∧ All2 (DeedAt K H') ns ((((movesP rs (rs.length - 1)).take j).filter fun p => bef (L'.map (·.1)) (p + 1) p).map (dP rs)))
          ⟨[], _, _, _, _, _, _, rfl, e59.trans e10, .of e10, e10 _ _ gn9, g10, dts, .nil⟩ (fun j σ' H' _ hW => ?_) (fun j xt σ' H11 hxt hW => ?_) (fun σ' H11 hW => ?_)
        · obtain ⟨ns, y10, y11, y12, y13, y14, y15, rfl, _, _, _, w, _⟩ := hW
          exact sq_of w
        · clear dts g10
          obtain ⟨ns, y10, y11, y12, y13, y14, y15, rfl, e11, x11, gn11, g11, dts, nd11⟩ := hW
          obtain ⟨p1, hp1, dt⟩ := All2.get dts hxt
          obtain ⟨tt, dv, rv2, rfl, htt, hdv, hrv2⟩ := dt
          obtain ⟨hpn, hmv⟩ := mem_mv.mp (List.mem_of_getElem? hp1)
          refine ⟨tt, _, rfl, htt, rfl, _, _, rfl, _, _, rfl, _, _, rfl, rfl, ?_⟩
          try dsimp only
          refine s_at [some (.ref p), some v, some (.ref d), some (.ref sa), some (.ref gb), some (.int (far : Int)), some rv, some (.ref wq), some (.ref d2), some (.ref nq), some dv, some rv2, some (.int ((p1 + 1 : Nat) : Int)), y13, y14, y15] rfl ?_
          have W11 := W5.ex e11
          try dsimp only
          refine q_run ?_
          refine (el_listRg (ev_lenR (K := K) (ev_var rfl) W11.row) (by omega) : EvL (tLstRg (tRg1 (tCB (rLenS K) (tCons (tVar 1) tNil)))) [some (.ref p), some v, some (.ref d), some (.ref sa), some (.ref gb), some (.int (far : Int)), some rv, some (.ref wq), some (.ref d2), some (.ref nq), some dv, some rv2, some (.int ((p1 + 1 : Nat) : Int)), y13, y14, y15] H11 _) H11 (Ex.refl _) _ fun lm H12 hlm e12 g12 => ?_
          rw [rg_nats] at g12
          refine s_at [some (.ref p), some v, some (.ref d), some (.ref sa), some (.ref gb), some (.int (far : Int)), some rv, some (.ref wq), some (.ref d2), some (.ref nq), some dv, some rv2, some (.int ((p1 + 1 : Nat) : Int)), some (.ref lm), y14, y15] rfl ?_
          have ev1 : ∀ H, Ev (tOp (rI0 fun i j => .int (i - j)) (tVar 12) (tC (.int 1))) [some (.ref p), some v, some (.ref d), some (.ref sa), some (.ref gb), some (.int (far : Int)), some rv, some (.ref wq), some (.ref d2), some (.ref nq), some dv, some rv2, some (.int ((p1 + 1 : Nat) : Int)), some (.ref lm), y14, y15] H (.int (p1 : Int)) := fun H => ev_is (ev_op (ev_var rfl) ev_c rv_I0) (by congr 1; omega)
          refine q_sl (i := p1) (j := p1 + 2) (a := (p1 : Int)) (c := ((p1 + 1 : Nat) : Int) + 1) (el_lst (ea_cons (ev_var rfl) (ea_cons (ev1 _) ea_nil)) (by show 2 ≤ 100000; decide)) (ev_var rfl) (ev1 _) (ev_op (ev_var rfl) ev_c rv_I0) rfl (by omega) g12 (by omega) (by rw [natsV_len, List.length_range]; omega) (by rw [natsV_len, List.length_range]; show rs.length + 2 ≤ 100000; omega) fun H13 e13 => ?_
          have e1114 : Ex H11 (upd H13 lm (.lst (natsV (swapL (List.range rs.length) p1)))) := Ex.mut (e12.trans e13) hlm
          have glm : (upd H13 lm (.lst (natsV (swapL (List.range rs.length) p1)))) lm = some (.lst (natsV (swapL (List.range rs.length) p1))) := upd_same
          have esw : (natsV (List.range rs.length)).take p1 ++ [V.int ((p1 + 1 : Nat) : Int), .int (p1 : Int)] ++ (natsV (List.range rs.length)).drop (p1 + 2) = natsV (swapL (List.range rs.length) p1) := by
            rw [swap_vals]
            have i1 : HH.ixN (List.range rs.length) (p1 + 1) = p1 + 1 := by unfold HH.ixN; rw [List.getElem?_range (by omega)]; rfl
            have i2 : HH.ixN (List.range rs.length) p1 = p1 := by unfold HH.ixN; rw [List.getElem?_range (by omega)]; rfl
            rw [i1, i2]
          rw [esw]
          generalize upd H13 lm (.lst (natsV (swapL (List.range rs.length) p1))) = H14 at e1114 glm ⊢
          have e14 := e11.trans e1114
          have x14 := x11.trans (.of e1114)
          have W14 := W5.ex e14
          have gn14 := e1114 _ _ gn11
          have g14 := e1114 _ _ g11
          have nfq : ∀ o u, H9 nq ≠ some (.frz o u) := fun o u z => by rw [gn9] at z; cases z
          have gd14 := gd9.exB x14 nfd2 nfq
          have gl14 := gl9.exL x14 gn9
          have fr14 := fgb.ex e14
          have dts14 : DtsAt K H14 us3 rs (movesP rs (rs.length - 1)) := All2.mono (fun v p h => h.ex e1114) dts
          have nd14 := deeds_ex e1114 nd11
          have hdv14 := hdv.ex' e1114
          have lsw : (swapL (List.range rs.length) p1).length = rs.length := by rw [swapL_len (by rw [List.length_range]; omega), List.length_range]
          have inner : ∀ H15, Ex H14 H15 → ∀ Q : VK, (∀ (t2 : Addr) (i : Nat) (rv3 : V) (H16 : Hp), Ex H15 H16 → SqT K H16 t2 [.int (i : Int), rv3] → decide ((i : Int) < (far : Int)) = bef (L'.map (·.1)) (p1 + 1) p1 → Q (.ref t2) H16) → (tXGet P w (tVar 8) (tCall (spAgainL K) [] E0 (tCons (tVar 13) (tCons (tCB (fun xs H Q => ∃ p ys, xs = [V.ref p] ∧ (SqL K H p ys ∨ SqT K H p ys) ∧ ∀ (l : Addr), H l = none → Q (V.ref l) (upd H l (HO.lst ys))) (tCons (tVar 4) tNil)) tNil)))) [some (.ref p), some v, some (.ref d), some (.ref sa), some (.ref gb), some (.int (far : Int)), some rv, some (.ref wq), some (.ref d2), some (.ref nq), some dv, some rv2, some (.int ((p1 + 1 : Nat) : Int)), some (.ref lm), y14, y15] H15 Q := by
            intro H15 e15 Q k
            refine ⟨.ref d2, rfl, .ref lm, rfl, .ref gb, rfl, gb, natsV (L'.map (·.1)), rfl, .inr (fr14.ex e15).sq, fun ll hll => ?_⟩
            have n16 := Ex.new (o := .lst (natsV (L'.map (·.1)))) hll
            refine ⟨lm, ll, swapL (List.range rs.length) p1, L'.map (·.1), rfl, sq_of (n16 _ _ (e15 _ _ glm)), sq_of upd_same, kp.nd, fun x hx => ?_, by omega, fun qg s H17 hqg e17 fg ag => ?_⟩
            · have hx2 : x ∈ List.range rs.length := by
                obtain ⟨A, a, b, B, e1, e2, e3, e4⟩ := cut_two (l := List.range rs.length) (p := p1) (by rw [List.length_range]; omega)
                rw [e1, ← e2, swap_split] at hx
                rw [e1]
                exact (List.Perm.append_left A (List.Perm.swap a b B)).mem_iff.mp hx
              exact kp.ids.mem_iff.mpr hx2
            · obtain ⟨LM, dsM, rM, eM, _⟩ := step_run (.nil : MRun (tag 0 rs) (tag 0 rs) []) (p := p1) (by rw [show rowsOf (tag 0 rs) = rs from tag_snd 0 rs]; omega) (by rw [show rowsOf (tag 0 rs) = rs from tag_snd 0 rs]; exact hmv)
              rw [tag_ids] at eM
              have ag' : Again (L'.map (·.1)) (LM.map (·.1)) s := by rw [eM]; exact ag
              have ks := keeps_again tl run rM ag'
              have sG := (kk2 s).mpr ks
              have e1417 := (e15.trans n16).trans e17
              obtain ⟨t2, rv3, L3, ds3, hv2, ht2, _⟩ := (gl14.ex e1417).rows s sG
              have bf := back_far kp.ids (p := p1) (by omega) ag
              rw [rlen] at ht2
              refine ⟨d2, .ref t2, rfl, ⟨kb2, keyN s, qg, gd14.ex e1417, rfl, by rw [keyN_V]; exact fg, hv2.symm⟩, k t2 _ rv3 H17 (n16.trans e17) ht2 ?_⟩
              rcases bf with ⟨b1, b2⟩ | ⟨b1, b2⟩
              · rw [b1]
                exact decide_eq_true (by omega)
              · rw [b1]
                exact decide_eq_false (by omega)
          have tst : EvT (tTest (tOp (rI0 fun i j => .bl (decide (i < j))) (tOp (rIxT K) (tXGet P w (tVar 8) (tCall (spAgainL K) [] E0 (tCons (tVar 13) (tCons (tCB (fun xs H Q => ∃ p ys, xs = [V.ref p] ∧ (SqL K H p ys ∨ SqT K H p ys) ∧ ∀ (l : Addr), H l = none → Q (V.ref l) (upd H l (HO.lst ys))) (tCons (tVar 4) tNil)) tNil)))) (tC (.int 0))) (tVar 5))) [some (.ref p), some v, some (.ref d), some (.ref sa), some (.ref gb), some (.int (far : Int)), some rv, some (.ref wq), some (.ref d2), some (.ref nq), some dv, some rv2, some (.int ((p1 + 1 : Nat) : Int)), some (.ref lm), y14, y15] H14 (bef (L'.map (·.1)) (p1 + 1) p1) := by
            intro H15 e15 Q k
            refine inner H15 e15 _ fun t2 i rv3 H16 e16 ht2 hdec => ?_
            refine c_c ?_
            refine rv_ixT (K := K) ht2 (atI_nat (j := 0) (v := V.int (i : Int)) rfl) H16 (Ex.refl _) _ fun H17 e17 => ?_
            refine ⟨_, rfl, _, _, rfl, rfl, _, rfl, ?_⟩
            rw [hdec]
            exact k H17 (e16.trans e17)
          have tk : (movesP rs (rs.length - 1)).take (j + 1) = (movesP rs (rs.length - 1)).take j ++ [p1] := by
            rw [List.take_add_one, hp1]
            rfl
          have nsl : ns.length ≤ 30 := by
            have := All2.len nd11
            rw [List.length_map] at this
            have h2 := List.length_filter_le (fun p => bef (L'.map (·.1)) (p + 1) p) ((movesP rs (rs.length - 1)).take j)
            rw [List.length_take] at h2
            omega
          refine s_when tst (fun hc H15 e15 => ?_) (fun hc H15 e15 => ?_)
          · refine s_app (e15 _ _ gn14) (ev_var rfl) (ev_var rfl) (by omega) fun H16 e16 => ?_
            have e1416 := e15.trans e16
            have gn16 := e1416 _ _ gn14
            have x1617 : ExB nq H16 (upd H16 nq (.lst (ns ++ [dv]))) := (ExB.refl _ _).upd
            refine ⟨ns ++ [dv], _, _, _, _, _, _, rfl, Ex.mut (e14.trans e1416) hnq5, (x14.trans (.of e1416)).trans x1617, upd_same, x1617 _ _ n3q (e1416 _ _ g14), All2.mono (fun v p h => (h.ex e1416).exL x1617 gn16) dts14, ?_⟩
            rw [tk, List.filter_append, List.map_append, show [p1].filter (fun p => bef (L'.map (·.1)) (p + 1) p) = [p1] by simp [hc]]
            exact All2.app (deeds_exB x1617 gn16 (deeds_ex e1416 nd14)) (.cons ((deeds_exB x1617 gn16 (deeds_ex e1416 (.cons hdv14 .nil : All2 (DeedAt K H14) [dv] [dP rs p1]))).get1) .nil)
          · refine ⟨ns, _, _, _, _, _, _, rfl, e14.trans e15, x14.trans (.of e15), e15 _ _ gn14, e15 _ _ g14, All2.mono (fun v p h => h.ex e15) dts14, ?_⟩
            rw [tk, List.filter_append, List.map_append, show [p1].filter (fun p => bef (L'.map (·.1)) (p + 1) p) = [] by simp [hc], List.map_nil, List.append_nil]
            exact deeds_ex e15 nd14
        · clear dts g10
          obtain ⟨ns, y10, y11, y12, y13, y14, y15, rfl, e11, x11, gn11, g11, dts, nd11⟩ := hW
          rw [List.take_of_length_le (by omega), adjE] at nd11
          have nd11 : All2 (DeedAt K H11) ns (dueD rs (L'.map (·.1)) (rs.length - 1)) := nd11
          have pm := near_perm tl run
          have W11 := W5.ex e11
          have g7q := x11 _ _ nwn g9
          have da11 := deeds_exB x11 gn9 da9
          have hr11 := hrow.ex e11
          have sm2 : Ev (tCall (spSame K 4) [] E0 (tCons (tLst (tCons (tCall (spDeeds K) [] E0 (tCons (tVar 1) (tCons (tVar 4) tNil))) (tCons (tCall (spShowsW K) [] E0 (tCons (tVar 1) (tCons (tVar 4) (tCons (tVar 7) tNil)))) tNil))) (tCons (tLst (tCons (tCB (rSortedDd K) (tCons (tVar 9) tNil)) (tCons (tC (.bl true)) tNil))) tNil))) [some (.ref p), some v, some (.ref d), some (.ref sa), some (.ref gb), some (.int (far : Int)), some rv, some (.ref wq), some (.ref d2), some (.ref nq), y10, y11, y12, y13, y14, y15] H11 (.bl true) := by
            intro H12 e12 Q12 k12
            refine ⟨v, rfl, .ref gb, rfl, v, gb, rs, L', rfl, W11.ex e12, r0, fun aq aus H13 haq e13 gaq daa => ?_⟩
            have e1113 := e12.trans e13
            refine ⟨v, rfl, .ref gb, rfl, .ref wq, rfl, v, gb, wq, rs, L', wus, rfl, W11.ex e1113, r0, sq_of (e1113 _ _ g7q), by omega, .inr ⟨wds, by rw [wl, hfar], deeds_ex e1113 da11, oks, swds.symm, fun H14 e14 => ⟨by show 2 ≤ sizeLine; decide, fun c1 hc1 => ?_⟩⟩⟩
            have n1 := Ex.new (o := .lst [V.ref aq, .bl true]) hc1
            have e1115 := (e1113.trans e14).trans n1
            refine ⟨.ref nq, rfl, nq, ns, _, rfl, sq_of (e1115 _ _ gn11), deeds_ex e1115 nd11, fun ys es pz dys pes pwes hpz => ?_⟩
            have n2 := Ex.new (o := .lst ys) hpz
            refine ⟨by show 2 ≤ sizeLine; decide, fun c2 hc2 => ?_⟩
            have n3 := Ex.new (o := .lst [V.ref pz, .bl true]) hc2
            have ees : es = nearD rs (L'.map (·.1)) := sortDd_one (pes.trans pm.symm) pwes near_pw
            rw [ees] at dys
            have nl : (nearD rs (L'.map (·.1))).length ≤ 100 := by
              have h1 := pm.length_eq
              unfold dueD at h1
              rw [List.length_map] at h1
              have h2 := List.length_filter_le (fun p => bef (L'.map (·.1)) (p + 1) p) (List.range (rs.length - 1))
              rw [List.length_range] at h2
              unfold adjL at h1
              omega
            have al := alike_deeds (K := K) (sq_of (((e14.trans n1).trans (n2.trans n3)) _ _ gaq)) (sq_of (n3 _ _ upd_same)) (deeds_ex ((e14.trans n1).trans (n2.trans n3)) daa) (deeds_ex (n2.trans n3) dys) (by omega)
            exact ⟨.ref c1, .ref c2, rfl, alike_two (d := 3) (sq_of ((n2.trans n3) _ _ upd_same)) (sq_of upd_same) al (.inl ⟨rfl, True.intro⟩), fun H18 e18 => k12 H18 (((e13.trans e14).trans n1).trans ((n2.trans n3).trans e18))⟩
          refine q_when (b := false) (et_is (et_not (et_B sm2)) rfl) (fun z => by cases z) fun _ H12 e12 => ?_
          clear sm2
          have e512 := e11.trans e12
          have W12 := W5.ex e512
          have g12 := e12 _ _ g7q
          have da12 := deeds_ex e12 da11
          have hr12 := hr11.ex e12
          have dtn : ∀ H13, Ex H12 H13 → ∀ Q : VK, (∀ (q4 : Addr) (us4 : List V) (H14 : Hp), Ex H13 H14 → H14 q4 = some (.lst us4) → DtsAt K H14 us4 (rowsOf L') (movesP (rowsOf L') ((rowsOf L').length - 1)) → Q (.ref q4) H14) → (tCall (spDts K) [] E0 (tCons (tVar 6) tNil)) [some (.ref p), some v, some (.ref d), some (.ref sa), some (.ref gb), some (.int (far : Int)), some rv, some (.ref wq), some (.ref d2), some (.ref nq), y10, y11, y12, y13, y14, y15] H13 Q := fun H13 e13 Q k =>
            ⟨rv, rfl, rv, rowsOf L', rfl, hr12.ex e13, by omega, by omega, fun q4 us4 H14 hq4 e14 g14 d14 => k q4 us4 H14 e14 g14 d14⟩
          have oddT : ∀ H13, Ex H12 H13 → ∀ Q : Bool → Hp → Prop, (∀ (b : Bool) (H14 : Hp), Ex H13 H14 → (b = true → movesP (rowsOf L') ((rowsOf L').length - 1) ≠ []) → Q b H14) → (tTest (tOp (rNeD K) (tCall (spDts K) [] E0 (tCons (tVar 6) tNil)) (tLst tNil))) [some (.ref p), some v, some (.ref d), some (.ref sa), some (.ref gb), some (.int (far : Int)), some rv, some (.ref wq), some (.ref d2), some (.ref nq), y10, y11, y12, y13, y14, y15] H13 Q := fun H13 e13 Q k =>
            dtn H13 e13 _ fun q4 us4 H14 e14 g14 d14 => by
              obtain ⟨xs, dp1, dp2⟩ := dts_dp d14
              refine (et_neNil (K := K) (k := 60) (σ := [some (.ref p), some v, some (.ref d), some (.ref sa), some (.ref gb), some (.int (far : Int)), some rv, some (.ref wq), some (.ref d2), some (.ref nq), y10, y11, y12, y13, y14, y15]) (te := tC (.ref q4)) (ev_c) (sq_of g14) dp1 dp2 (by decide) : EvT (tTest (tOp (rNeD K) (tC (.ref q4)) (tLst tNil))) [some (.ref p), some v, some (.ref d), some (.ref sa), some (.ref gb), some (.int (far : Int)), some rv, some (.ref wq), some (.ref d2), some (.ref nq), y10, y11, y12, y13, y14, y15] H14 _) H14 (Ex.refl _) Q fun H15 e15 => k _ H15 (e14.trans e15) fun hb z => ?_
              have := All2.len d14
              rw [z] at this
              have u0 : us4 = [] := List.eq_nil_of_length_eq_zero this
              rw [u0] at hb
              cases hb
          have oddE : ∀ Q : VK, (∀ (oq : Addr) (x : V) (H13 : Hp), Ex H12 H13 → H13 oq = some (.lst (wus ++ [x])) → Q (.ref oq) H13) → (tIf (tTest (tOp (rNeD K) (tCall (spDts K) [] E0 (tCons (tVar 6) tNil)) (tLst tNil))) (tOp rCat (tVar 7) (tLst (tCons (tOp (rIxT K) (tOp (rIxL K) (tCall (spDts K) [] E0 (tCons (tVar 6) tNil)) (tC (.int 0))) (tC (.int 0))) tNil))) (tOp rCat (tVar 7) (tLst (tCons (tTup (tCons (tC (.str "pass")) (tCons (tC (.int 0)) tNil))) tNil)))) [some (.ref p), some v, some (.ref d), some (.ref sa), some (.ref gb), some (.int (far : Int)), some rv, some (.ref wq), some (.ref d2), some (.ref nq), y10, y11, y12, y13, y14, y15] H12 Q := by
            intro Q k
            refine oddT H12 (Ex.refl _) _ fun b H13 e13 hb => ite2 (fun hc => ?_) (fun hc => ?_)
            · have hmne := hb hc
              refine ⟨.ref wq, rfl, ?_⟩
              refine c_lst (c_consK ?_)
              refine c_op (c_op ?_)
              refine dtn H13 e13 _ fun q4 us4 H14 e14 g14 d14 => ?_
              obtain ⟨u, rest, rfl⟩ : ∃ u rest, us4 = u :: rest := by
                cases us4 with
                | nil =>
                  have := All2.len d14
                  exact absurd (List.eq_nil_of_length_eq_zero this.symm) hmne
                | cons u rest => exact ⟨u, rest, rfl⟩
              obtain ⟨p0, _, tt, dv, rv2, rfl, htt, _⟩ := All2.get (i := 0) (v := u) d14 rfl
              refine c_c ?_
              refine rv_ixL (K := K) (sq_of g14) (atI_nat (j := 0) (v := V.ref tt) rfl) H14 (Ex.refl _) _ fun H15 e15 => ?_
              refine c_c ?_
              refine rv_ixT (K := K) (ex_t e15 htt) (atI_nat (j := 0) (v := dv) rfl) H15 (Ex.refl _) _ fun H16 e16 => ?_
              refine ⟨by show 1 ≤ sizeLine; decide, fun c hc => ?_⟩
              have n1 := Ex.new (o := .lst [dv]) hc
              have eA := ((e13.trans e14).trans (e15.trans e16)).trans n1
              refine ⟨wq, c, wus, [dv], rfl, rfl, eA _ _ g12, upd_same, sz_of (by show wus.length + 1 ≤ 100000; omega), fun oq hoq => ?_⟩
              exact k oq dv _ (eA.trans (Ex.new hoq)) upd_same
            · refine ⟨.ref wq, rfl, ?_⟩
              refine ⟨by show 2 ≤ sizeLine; decide, fun tp htp => ⟨by show 1 ≤ sizeLine; decide, fun c hc => ?_⟩⟩
              have n0 := Ex.new (o := .tup [V.str "pass", .int 0]) htp
              have n1 := Ex.new (o := .lst [V.ref tp]) hc
              have eA := (e13.trans n0).trans n1
              refine ⟨wq, c, wus, [.ref tp], rfl, rfl, eA _ _ g12, upd_same, sz_of (by show wus.length + 1 ≤ 100000; omega), fun oq hoq => ?_⟩
              exact k oq (.ref tp) _ (eA.trans (Ex.new hoq)) upd_same
          try dsimp only
          refine q_run ?_
          refine oddE _ fun oq xo H13 e13 go13 => ?_
          refine s_at [some (.ref p), some v, some (.ref d), some (.ref sa), some (.ref gb), some (.int (far : Int)), some rv, some (.ref wq), some (.ref d2), some (.ref nq), y10, y11, y12, y13, some (.ref oq), y15] rfl ?_
          clear oddE oddT dtn
          have W13 := W12.ex e13
          have g13 := e13 _ _ g12
          have da13 := deeds_ex e13 da12
          have sh1 : EvT (tTest (tOp (fun x y H Q => ∃ a b, x = V.bl a ∧ y = V.bl b ∧ Q (V.bl !decide (a = b)) H) (tCall (spShowsW K) [] E0 (tCons (tVar 1) (tCons (tVar 4) (tCons (tVar 14) tNil)))) (tC (.bl false)))) [some (.ref p), some v, some (.ref d), some (.ref sa), some (.ref gb), some (.int (far : Int)), some rv, some (.ref wq), some (.ref d2), some (.ref nq), y10, y11, y12, y13, some (.ref oq), y15] H13 false := et_test (ev_op (fun H14 e14 Q k => ⟨v, rfl, .ref gb, rfl, .ref oq, rfl, v, gb, oq, rs, L', _, rfl, W13.ex e14, r0, sq_of (e14 _ _ go13), by rw [List.length_append]; show wus.length + 1 ≤ 2000; omega, .inl ⟨by rw [List.length_append, ← hfar]; show wus.length + 1 ≠ far; omega, fun H15 e15 => k H15 e15⟩⟩) ev_c (fun H14 e14 Q k => ⟨false, false, rfl, rfl, k H14 (Ex.refl _)⟩))
          have sh2 : EvT (tTest (tOp (rNeD K) (tVar 7) (tLst tNil))) [some (.ref p), some v, some (.ref d), some (.ref sa), some (.ref gb), some (.int (far : Int)), some rv, some (.ref wq), some (.ref d2), some (.ref nq), y10, y11, y12, y13, some (.ref oq), y15] H13 (!wus.isEmpty) := et_neNil (K := K) (k := 60) (ev_var rfl) (sq_of g13) (deeds_dp da13) (fun d hd => nice_mono (deeds_nice _ d hd) (by decide)) (by decide)
          have sh3 : (!wus.isEmpty) = true → EvT (tTest (tOp (fun x y H Q => ∃ a b, x = V.bl a ∧ y = V.bl b ∧ Q (V.bl !decide (a = b)) H) (tCall (spShowsW K) [] E0 (tCons (tVar 1) (tCons (tVar 4) (tCons (tSl (rSlL K) (tVar 7) (tPart (tC (.int 1))) tNoPart) tNil)))) (tC (.bl false)))) [some (.ref p), some v, some (.ref d), some (.ref sa), some (.ref gb), some (.int (far : Int)), some rv, some (.ref wq), some (.ref d2), some (.ref nq), y10, y11, y12, y13, some (.ref oq), y15] H13 false := fun hne => by
            have hw1 : 0 < wus.length := by
              cases wus with
              | nil => cases hne
              | cons a b => exact Nat.succ_pos _
            refine et_test (ev_op (fun H14 e14 Q k => ⟨v, rfl, .ref gb, rfl, ?_⟩) ev_c (fun H14 e14 Q k => ⟨false, false, rfl, rfl, k H14 (Ex.refl _)⟩))
            refine c_consK ?_
            refine (el_sl (K := K) (ev_var rfl) (eo_some ev_c) eo_none (sq_of g13) : EvL (tSl (rSlL K) (tVar 7) (tPart (tC (.int 1))) tNoPart) [some (.ref p), some v, some (.ref d), some (.ref sa), some (.ref gb), some (.int (far : Int)), some rv, some (.ref wq), some (.ref d2), some (.ref nq), y10, y11, y12, y13, some (.ref oq), y15] H13 (cutV wus (some ((1 : Nat) : Int)) none)) H14 e14 _ fun c H15 hc e15 g15 => ?_
            rw [cut_from] at g15
            exact ⟨v, gb, c, rs, L', _, rfl, W13.ex (e14.trans e15), r0, sq_of g15, by rw [List.length_drop]; omega, .inl ⟨by rw [List.length_drop, ← hfar]; omega, fun H16 e16 => k H16 (e15.trans e16)⟩⟩
          refine s_when (b := false) (et_is (et_or sh1 fun _ => et_and sh2 sh3) (by simp)) (fun z => by cases z) fun _ H14 e14 => ?_
          exact ⟨_, _, _, _, _, _, _, _, _, _, _, _, rfl, e5.trans (e512.trans (e13.trans e14))⟩
      · obtain ⟨y4, y5, y6, y7, y8, y9, y10, y11, y12, y13, y14, y15, rfl, e5⟩ := hW
        exact s_ret (σ := [some (.ref p), some v, some (.ref d), some (.ref sa), y4, y5, y6, y7, y8, y9, y10, y11, y12, y13, y14, y15]) (D := { nx := fun _ H' => Q .non H', rt := Q }) ev_c fun H6 e6 => q H6 (xp4.trans (.of (e5.trans e6)))
theorem ok_law {f f1 f2 f3 : Addr} {fd fd1 fd2 fd3 : FuncData} (F : FnP K "law" s_law f fd) (h_law_folded : Has P w K mg base 1 "_law_folded" ["_law_script", "_law_many"] (spFolded K) f1 fd1) (h_law_dip : Has P w K mg base 1 "_law_dip" ["_law_script", "_law_k"] (spDip K) f2 fd2) (h_law_right : Has P w K mg base 8 "_law_right" ["_law_box"] spRight f3 fd3)
    (m_range : mg "range" = none) (m_len : mg "len" = none) (m_all : mg "all" = none) : FnOk P w K mg base CX0 9 f fd ["_law_script"] (spLaw K) := by
  refine F.ok sc_law (fun vs H Q E h => ?_) (fun cdv A outer s H vs Q E hr h => ?_)
  · obtain ⟨a, ns, rfl, _⟩ := h
    rfl
  · obtain ⟨a, ns, rfl, hS, hlen, q⟩ := h
    refine ⟨_, PSs.nox (pss_cons (ps_set (i := 1) sc_law.nd rfl (.inr rfl) (pe_call h_law_folded.G (hr.mono (by decide)) (by rfl) h_law_folded.g h_law_folded.kp h_law_folded.b .nil pass0 (pa_cons (pv 0) (pa_cons pe_int pa_nil))))
      (pss_one (ps_ret (pe_callB (cr_all rfl) (by rfl) m_all (by decide +kernel) (pa_cons (pe_lc (own := [("_law_k", 2)]) (g := gName 2) (by rfl) sc_law.nd (pi_range1 (by rfl) m_range (pa_cons (pe_op op_add pe_int (pe_callB call_len_seq (by rfl) m_len PySem.boot_len (pa_cons (pv 1) pa_nil))) pa_nil)) (blkOk_by (own := [("_law_k", 2)]) (N := ["_law_script", "_law_cells", "_law_k"]) (sc := defScope s_law) (by decide +kernel)) (fun _ _ _ _ _ => (pg_name (i := 2) sc_law.nd rfl (Or.inl rfl))) (fun _ _ _ _ _ => pts_nil) (fun _ _ _ _ _ => (pe_call h_law_right.G (hr.mono (by decide)) (by rfl) h_law_right.g h_law_right.kp h_law_right.b .nil pass0 (pa_cons (pe_call h_law_dip.G (hr.mono (by decide)) (by rfl) h_law_dip.g h_law_dip.kp h_law_dip.b .nil pass0 (pa_cons (pv 1) (pa_cons (pv 2) pa_nil))) pa_nil)))) pa_nil))))), ?_⟩
    refine q_call ⟨.ref a, rfl, a, 2, ns, rfl, by decide, by decide, hS, hlen, fun l H1 ms hl e1 hm h1 => ?_⟩
    exact law_all (K := K) (c := 10) h1 (by omega) (fun i => rfl) (fun _ => rfl) (fun _ => rfl) rfl q
end
end K71
set_option maxHeartbeats 0
namespace K71
open PySem PySem.Spec PyProof.Rows L2 Evl HH RZ
def d_is_number : He.DefD := ⟨("is_number", none), "is_number", "is_number", defArgs s_is_number, defBody s_is_number, defScope s_is_number, [], []⟩
def d_can_pass : He.DefD := ⟨("can_pass", none), "can_pass", "can_pass", defArgs s_can_pass, defBody s_can_pass, defScope s_can_pass, [], []⟩
def d_can_fall : He.DefD := ⟨("can_fall", none), "can_fall", "can_fall", defArgs s_can_fall, defBody s_can_fall, defScope s_can_fall, [], []⟩
def d_passed : He.DefD := ⟨("passed", none), "passed", "passed", defArgs s_passed, defBody s_passed, defScope s_passed, [], []⟩
def d_fallen : He.DefD := ⟨("fallen", none), "fallen", "fallen", defArgs s_fallen, defBody s_fallen, defScope s_fallen, [], []⟩
def d_swapped : He.DefD := ⟨("swapped", none), "swapped", "swapped", defArgs s_swapped, defBody s_swapped, defScope s_swapped, [], []⟩
def d_can_do : He.DefD := ⟨("can_do", none), "can_do", "can_do", defArgs s_can_do, defBody s_can_do, defScope s_can_do, [], []⟩
def d_led : He.DefD := ⟨("led", none), "led", "led", defArgs s_led, defBody s_led, defScope s_led, [], []⟩
def d_pass_all : He.DefD := ⟨("pass_all", none), "pass_all", "pass_all", defArgs s_pass_all, defBody s_pass_all, defScope s_pass_all, [], []⟩
def d_fall_all : He.DefD := ⟨("fall_all", none), "fall_all", "fall_all", defArgs s_fall_all, defBody s_fall_all, defScope s_fall_all, [], []⟩
def d_row_and_order : He.DefD := ⟨("row_and_order", none), "row_and_order", "row_and_order", defArgs s_row_and_order, defBody s_row_and_order, defScope s_row_and_order, [], []⟩
def d_last : He.DefD := ⟨("last", none), "last", "last", defArgs s_last, defBody s_last, defScope s_last, [], []⟩
def d_first : He.DefD := ⟨("first", none), "first", "first", defArgs s_first, defBody s_first, defScope s_first, [], []⟩
def d_places_of : He.DefD := ⟨("places_of", none), "places_of", "places_of", defArgs s_places_of, defBody s_places_of, defScope s_places_of, [], []⟩
def d_turned_about : He.DefD := ⟨("turned_about", none), "turned_about", "turned_about", defArgs s_turned_about, defBody s_turned_about, defScope s_turned_about, [], []⟩
def d_passings : He.DefD := ⟨("passings", none), "passings", "passings", defArgs s_passings, defBody s_passings, defScope s_passings, [], []⟩
def d_fallings : He.DefD := ⟨("fallings", none), "fallings", "fallings", defArgs s_fallings, defBody s_fallings, defScope s_fallings, [], []⟩
def d_kept_pairs : He.DefD := ⟨("kept_pairs", none), "kept_pairs", "kept_pairs", defArgs s_kept_pairs, defBody s_kept_pairs, defScope s_kept_pairs, [], []⟩
def d_first_not_kept : He.DefD := ⟨("first_not_kept", none), "first_not_kept", "first_not_kept", defArgs s_first_not_kept, defBody s_first_not_kept, defScope s_first_not_kept, [], []⟩
def d_refuse_not_kept : He.DefD := ⟨("refuse_not_kept", none), "refuse_not_kept", "refuse_not_kept", defArgs s_refuse_not_kept, defBody s_refuse_not_kept, defScope s_refuse_not_kept, [], []⟩
def d_how_far : He.DefD := ⟨("how_far", none), "how_far", "how_far", defArgs s_how_far, defBody s_how_far, defScope s_how_far, [], []⟩
def d_deeds_toward : He.DefD := ⟨("deeds_toward", none), "deeds_toward", "deeds_toward", defArgs s_deeds_toward, defBody s_deeds_toward, defScope s_deeds_toward, [], []⟩
def d_nearer : He.DefD := ⟨("nearer", none), "nearer", "nearer", defArgs s_nearer, defBody s_nearer, defScope s_nearer, [], []⟩
def d_way_to : He.DefD := ⟨("way_to", none), "way_to", "way_to", defArgs s_way_to, defBody s_way_to, defScope s_way_to, [], []⟩
def d_is_deed : He.DefD := ⟨("is_deed", none), "is_deed", "is_deed", defArgs s_is_deed, defBody s_is_deed, defScope s_is_deed, [], []⟩
def d_leads_to : He.DefD := ⟨("leads_to", none), "leads_to", "leads_to", defArgs s_leads_to, defBody s_leads_to, defScope s_leads_to, [], []⟩
def d_shows_way : He.DefD := ⟨("shows_way", none), "shows_way", "shows_way", defArgs s_shows_way, defBody s_shows_way, defScope s_shows_way, [], []⟩
def d_law_dip : He.DefD := ⟨("_law_dip", none), "_law_dip", "_law_dip", defArgs s_law_dip, defBody s_law_dip, defScope s_law_dip, [], []⟩
def d_law_take : He.DefD := ⟨("_law_take", none), "_law_take", "_law_take", defArgs s_law_take, defBody s_law_take, defScope s_law_take, [], []⟩
def d_law_folded : He.DefD := ⟨("_law_folded", none), "_law_folded", "_law_folded", defArgs s_law_folded, defBody s_law_folded, defScope s_law_folded, [], []⟩
def d_law_same : He.DefD := ⟨("_law_same", none), "_law_same", "_law_same", defArgs s_law_same, defBody s_law_same, defScope s_law_same, [], []⟩
def d_law_of : He.DefD := ⟨("_law_of", none), "_law_of", "_law_of", defArgs s_law_of, defBody s_law_of, defScope s_law_of, [], []⟩
def d_law_row : He.DefD := ⟨("_law_row", none), "_law_row", "_law_row", defArgs s_law_row, defBody s_law_row, defScope s_law_row, [], []⟩
def d_law_lets : He.DefD := ⟨("_law_lets", none), "_law_lets", "_law_lets", defArgs s_law_lets, defBody s_law_lets, defScope s_law_lets, [], []⟩
def d_law_passed : He.DefD := ⟨("_law_passed", none), "_law_passed", "_law_passed", defArgs s_law_passed, defBody s_law_passed, defScope s_law_passed, [], []⟩
def d_law_fallen : He.DefD := ⟨("_law_fallen", none), "_law_fallen", "_law_fallen", defArgs s_law_fallen, defBody s_law_fallen, defScope s_law_fallen, [], []⟩
def d_law_again : He.DefD := ⟨("_law_again", none), "_law_again", "_law_again", defArgs s_law_again, defBody s_law_again, defScope s_law_again, [], []⟩
def d_law_deeds : He.DefD := ⟨("_law_deeds", none), "_law_deeds", "_law_deeds", defArgs s_law_deeds, defBody s_law_deeds, defScope s_law_deeds, [], []⟩
def d_law_layers : He.DefD := ⟨("_law_layers", none), "_law_layers", "_law_layers", defArgs s_law_layers, defBody s_law_layers, defScope s_law_layers, [], []⟩
def d_law_behind : He.DefD := ⟨("_law_behind", none), "_law_behind", "_law_behind", defArgs s_law_behind, defBody s_law_behind, defScope s_law_behind, [], []⟩
def d_law_right : He.DefD := ⟨("_law_right", none), "_law_right", "_law_right", defArgs s_law_right, defBody s_law_right, defScope s_law_right, [], []⟩
def d_law : He.DefD := ⟨("law", none), "law", "law", defArgs s_law, defBody s_law, defScope s_law, [], []⟩
def fnsL : List He.DefD := [d_is_number, d_can_pass, d_can_fall, d_passed, d_fallen, d_swapped, d_can_do, d_led, d_pass_all, d_fall_all, d_row_and_order, d_last, d_first, d_places_of, d_turned_about, d_passings, d_fallings, d_kept_pairs, d_first_not_kept, d_refuse_not_kept, d_how_far, d_deeds_toward, d_nearer, d_way_to, d_is_deed, d_leads_to, d_shows_way, d_law_dip, d_law_take, d_law_folded, d_law_same, d_law_of, d_law_row, d_law_lets, d_law_passed, d_law_fallen, d_law_again, d_law_deeds, d_law_layers, d_law_behind, d_law_right, d_law]
def faL : List He.Fa := [.glo "is_number", .glo "can_pass", .glo "can_fall", .glo "passed", .glo "fallen", .glo "swapped", .glo "can_do", .glo "led", .glo "pass_all", .glo "fall_all", .glo "row_and_order", .glo "last", .glo "first", .glo "places_of", .glo "turned_about", .glo "passings", .glo "fallings", .glo "kept_pairs", .glo "first_not_kept", .glo "refuse_not_kept", .glo "how_far", .glo "deeds_toward", .glo "nearer", .glo "way_to", .glo "is_deed", .glo "leads_to", .glo "shows_way", .glo "_law_dip", .glo "_law_take", .glo "_law_folded", .glo "_law_same", .glo "_law_of", .glo "_law_row", .glo "_law_lets", .glo "_law_passed", .glo "_law_fallen", .glo "_law_again", .glo "_law_deeds", .glo "_law_layers", .glo "_law_behind", .glo "_law_right", .glo "law", .free "abs", .free "all", .free "bool", .free "enumerate", .free "int", .free "isinstance", .free "len", .free "list", .free "range", .free "reversed", .free "sorted", .free "str", .free "tuple", .free "zip"]
abbrev R : PySem.W.OpenRow := PySem.W.OpenLaw.row PySem.Challenge.rw_hayherd_k71_whole_no_shorter_way
abbrev hk : PySem.W.Hook := He.hookD 4 faL fnsL
def ob (s : PySem.W.SharedT) : He.AlD := He.obsDG 4 faL fnsL (HandSHeadRun.getT s)
theorem ob_eq (s : PySem.W.SharedT) : ob s = hk.obs s.abs := He.obsDG_eq (HandSHeadRun.getT_eq s)
def loose0 : List PySem.Str := ["NotKept", "MayNot", "NotLet", "is_number", "can_pass", "can_fall", "passed", "fallen", "swapped", "can_do", "led", "pass_all", "fall_all", "row_and_order", "last", "first", "places_of", "turned_about", "passings", "fallings", "kept_pairs", "first_not_kept"]
def loose1 : List PySem.Str := ["refuse_not_kept", "how_far", "deeds_toward", "nearer", "way_to", "is_deed", "leads_to", "shows_way", "_law_dip", "_law_take", "_law_folded", "_law_same", "_law_of", "_law_row", "_law_lets", "_law_passed", "_law_fallen", "_law_again", "_law_deeds", "_law_layers", "_law_behind", "_law_right"]
def loose : List PySem.Str := loose0 ++ loose1
theorem run (w : World) : HandSHeadRun.RunEq R (PySem.W.view R.prog [50]) hk ob 3000 loose w := by
  intro os
  kernel_rfl
end K71
set_option maxHeartbeats 0
namespace K71
open PySem PySem.Spec PyProof.Rows L2 Evl HH RZ
theorem facts {P : Program} {w : World} {K : PySem.W.Frag} {h : Heap} {mg : Str → Option Value} {f : Addr} (X : K.In h) (G : h.Ns mainGlobals mg) (hfa : mg ("law" : Str) = some (.ref f)) (c : He.SaysD faL fnsL K) :
    ∃ fd : FuncData, (∀ (s : Shared) (v : Value), BindsTo s fd ⟨[v], []⟩ [("_law_script", v)]) ∧ ∀ base : Heap, K.In base → base.Ns mainGlobals mg → FnOk P w K mg base CX0 9 f fd ["_law_script"] (spLaw K) := by
  obtain ⟨fd_is_number, F_is_number⟩ := c.def_ 0 (d := d_is_number) rfl
  have g_is_number := He.glo_ok X G (c.fact 0 (f := .glo "is_number") rfl)
  have b_is_number : Binds K fd_is_number ["thing"] [] := F_is_number.bindsN fun _ _ _ _ _ _ us hl => match us, hl with | [_], _ => rfl
  obtain ⟨fd_can_pass, F_can_pass⟩ := c.def_ 1 (d := d_can_pass) rfl
  have g_can_pass := He.glo_ok X G (c.fact 1 (f := .glo "can_pass") rfl)
  have b_can_pass : Binds K fd_can_pass ["row", "place"] [] := F_can_pass.bindsN fun _ _ _ _ _ _ us hl => match us, hl with | [_, _], _ => rfl
  obtain ⟨fd_can_fall, F_can_fall⟩ := c.def_ 2 (d := d_can_fall) rfl
  have g_can_fall := He.glo_ok X G (c.fact 2 (f := .glo "can_fall") rfl)
  have b_can_fall : Binds K fd_can_fall ["row", "place"] [] := F_can_fall.bindsN fun _ _ _ _ _ _ us hl => match us, hl with | [_, _], _ => rfl
  obtain ⟨fd_passed, F_passed⟩ := c.def_ 3 (d := d_passed) rfl
  have g_passed := He.glo_ok X G (c.fact 3 (f := .glo "passed") rfl)
  have b_passed : Binds K fd_passed ["row", "place"] [] := F_passed.bindsN fun _ _ _ _ _ _ us hl => match us, hl with | [_, _], _ => rfl
  obtain ⟨fd_fallen, F_fallen⟩ := c.def_ 4 (d := d_fallen) rfl
  have g_fallen := He.glo_ok X G (c.fact 4 (f := .glo "fallen") rfl)
  have b_fallen : Binds K fd_fallen ["row", "place"] [] := F_fallen.bindsN fun _ _ _ _ _ _ us hl => match us, hl with | [_, _], _ => rfl
  obtain ⟨fd_swapped, F_swapped⟩ := c.def_ 5 (d := d_swapped) rfl
  have g_swapped := He.glo_ok X G (c.fact 5 (f := .glo "swapped") rfl)
  have b_swapped : Binds K fd_swapped ["order", "place"] [] := F_swapped.bindsN fun _ _ _ _ _ _ us hl => match us, hl with | [_, _], _ => rfl
  obtain ⟨fd_can_do, F_can_do⟩ := c.def_ 6 (d := d_can_do) rfl
  have g_can_do := He.glo_ok X G (c.fact 6 (f := .glo "can_do") rfl)
  have b_can_do : Binds K fd_can_do ["row", "word", "place"] [] := F_can_do.bindsN fun _ _ _ _ _ _ us hl => match us, hl with | [_, _, _], _ => rfl
  obtain ⟨fd_led, F_led⟩ := c.def_ 7 (d := d_led) rfl
  have g_led := He.glo_ok X G (c.fact 7 (f := .glo "led") rfl)
  have b_led : Binds K fd_led ["row", "deeds"] [] := F_led.bindsN fun _ _ _ _ _ _ us hl => match us, hl with | [_, _], _ => rfl
  obtain ⟨fd_pass_all, F_pass_all⟩ := c.def_ 8 (d := d_pass_all) rfl
  have g_pass_all := He.glo_ok X G (c.fact 8 (f := .glo "pass_all") rfl)
  have b_pass_all : Binds K fd_pass_all ["line", "strengths", "tolls", "who"] [] := F_pass_all.bindsN fun _ _ _ _ _ _ us hl => match us, hl with | [_, _, _, _], _ => rfl
  obtain ⟨fd_fall_all, F_fall_all⟩ := c.def_ 9 (d := d_fall_all) rfl
  have g_fall_all := He.glo_ok X G (c.fact 9 (f := .glo "fall_all") rfl)
  have b_fall_all : Binds K fd_fall_all ["line", "strengths", "tolls", "who"] [] := F_fall_all.bindsN fun _ _ _ _ _ _ us hl => match us, hl with | [_, _, _, _], _ => rfl
  obtain ⟨fd_row_and_order, F_row_and_order⟩ := c.def_ 10 (d := d_row_and_order) rfl
  have g_row_and_order := He.glo_ok X G (c.fact 10 (f := .glo "row_and_order") rfl)
  have b_row_and_order : Binds K fd_row_and_order ["line", "strengths", "tolls"] [] := F_row_and_order.bindsN fun _ _ _ _ _ _ us hl => match us, hl with | [_, _, _], _ => rfl
  obtain ⟨fd_last, F_last⟩ := c.def_ 11 (d := d_last) rfl
  have g_last := He.glo_ok X G (c.fact 11 (f := .glo "last") rfl)
  have b_last : Binds K fd_last ["row"] [] := F_last.bindsN fun _ _ _ _ _ _ us hl => match us, hl with | [_], _ => rfl
  obtain ⟨fd_first, F_first⟩ := c.def_ 12 (d := d_first) rfl
  have g_first := He.glo_ok X G (c.fact 12 (f := .glo "first") rfl)
  have b_first : Binds K fd_first ["row"] [] := F_first.bindsN fun _ _ _ _ _ _ us hl => match us, hl with | [_], _ => rfl
  obtain ⟨fd_places_of, F_places_of⟩ := c.def_ 13 (d := d_places_of) rfl
  have g_places_of := He.glo_ok X G (c.fact 13 (f := .glo "places_of") rfl)
  have b_places_of : Binds K fd_places_of ["order"] [] := F_places_of.bindsN fun _ _ _ _ _ _ us hl => match us, hl with | [_], _ => rfl
  obtain ⟨fd_turned_about, F_turned_about⟩ := c.def_ 14 (d := d_turned_about) rfl
  have g_turned_about := He.glo_ok X G (c.fact 14 (f := .glo "turned_about") rfl)
  have b_turned_about : Binds K fd_turned_about ["order"] [] := F_turned_about.bindsN fun _ _ _ _ _ _ us hl => match us, hl with | [_], _ => rfl
  obtain ⟨fd_passings, F_passings⟩ := c.def_ 15 (d := d_passings) rfl
  have g_passings := He.glo_ok X G (c.fact 15 (f := .glo "passings") rfl)
  have b_passings : Binds K fd_passings ["row"] [] := F_passings.bindsN fun _ _ _ _ _ _ us hl => match us, hl with | [_], _ => rfl
  obtain ⟨fd_fallings, F_fallings⟩ := c.def_ 16 (d := d_fallings) rfl
  have g_fallings := He.glo_ok X G (c.fact 16 (f := .glo "fallings") rfl)
  have b_fallings : Binds K fd_fallings ["row"] [] := F_fallings.bindsN fun _ _ _ _ _ _ us hl => match us, hl with | [_], _ => rfl
  obtain ⟨fd_kept_pairs, F_kept_pairs⟩ := c.def_ 17 (d := d_kept_pairs) rfl
  have g_kept_pairs := He.glo_ok X G (c.fact 17 (f := .glo "kept_pairs") rfl)
  have b_kept_pairs : Binds K fd_kept_pairs ["row"] [] := F_kept_pairs.bindsN fun _ _ _ _ _ _ us hl => match us, hl with | [_], _ => rfl
  obtain ⟨fd_first_not_kept, F_first_not_kept⟩ := c.def_ 18 (d := d_first_not_kept) rfl
  have g_first_not_kept := He.glo_ok X G (c.fact 18 (f := .glo "first_not_kept") rfl)
  have b_first_not_kept : Binds K fd_first_not_kept ["row", "order"] [] := F_first_not_kept.bindsN fun _ _ _ _ _ _ us hl => match us, hl with | [_, _], _ => rfl
  obtain ⟨fd_refuse_not_kept, F_refuse_not_kept⟩ := c.def_ 19 (d := d_refuse_not_kept) rfl
  have g_refuse_not_kept := He.glo_ok X G (c.fact 19 (f := .glo "refuse_not_kept") rfl)
  have b_refuse_not_kept : Binds K fd_refuse_not_kept ["row", "order"] [] := F_refuse_not_kept.bindsN fun _ _ _ _ _ _ us hl => match us, hl with | [_, _], _ => rfl
  obtain ⟨fd_how_far, F_how_far⟩ := c.def_ 20 (d := d_how_far) rfl
  have g_how_far := He.glo_ok X G (c.fact 20 (f := .glo "how_far") rfl)
  have b_how_far : Binds K fd_how_far ["row", "order"] [] := F_how_far.bindsN fun _ _ _ _ _ _ us hl => match us, hl with | [_, _], _ => rfl
  obtain ⟨fd_deeds_toward, F_deeds_toward⟩ := c.def_ 21 (d := d_deeds_toward) rfl
  have g_deeds_toward := He.glo_ok X G (c.fact 21 (f := .glo "deeds_toward") rfl)
  have b_deeds_toward : Binds K fd_deeds_toward ["row", "order"] [] := F_deeds_toward.bindsN fun _ _ _ _ _ _ us hl => match us, hl with | [_, _], _ => rfl
  obtain ⟨fd_nearer, F_nearer⟩ := c.def_ 22 (d := d_nearer) rfl
  have g_nearer := He.glo_ok X G (c.fact 22 (f := .glo "nearer") rfl)
  have b_nearer : Binds K fd_nearer ["row", "order"] [] := F_nearer.bindsN fun _ _ _ _ _ _ us hl => match us, hl with | [_, _], _ => rfl
  obtain ⟨fd_way_to, F_way_to⟩ := c.def_ 23 (d := d_way_to) rfl
  have g_way_to := He.glo_ok X G (c.fact 23 (f := .glo "way_to") rfl)
  have b_way_to : Binds K fd_way_to ["row", "order"] [] := F_way_to.bindsN fun _ _ _ _ _ _ us hl => match us, hl with | [_, _], _ => rfl
  obtain ⟨fd_is_deed, F_is_deed⟩ := c.def_ 24 (d := d_is_deed) rfl
  have g_is_deed := He.glo_ok X G (c.fact 24 (f := .glo "is_deed") rfl)
  have b_is_deed : Binds K fd_is_deed ["thing"] [] := F_is_deed.bindsN fun _ _ _ _ _ _ us hl => match us, hl with | [_], _ => rfl
  obtain ⟨fd_leads_to, F_leads_to⟩ := c.def_ 25 (d := d_leads_to) rfl
  have g_leads_to := He.glo_ok X G (c.fact 25 (f := .glo "leads_to") rfl)
  have b_leads_to : Binds K fd_leads_to ["row", "order", "deeds"] [] := F_leads_to.bindsN fun _ _ _ _ _ _ us hl => match us, hl with | [_, _, _], _ => rfl
  obtain ⟨fd_shows_way, F_shows_way⟩ := c.def_ 26 (d := d_shows_way) rfl
  have g_shows_way := He.glo_ok X G (c.fact 26 (f := .glo "shows_way") rfl)
  have b_shows_way : Binds K fd_shows_way ["row", "order", "thing"] [] := F_shows_way.bindsN fun _ _ _ _ _ _ us hl => match us, hl with | [_, _, _], _ => rfl
  obtain ⟨fd_law_dip, F_law_dip⟩ := c.def_ 27 (d := d_law_dip) rfl
  have g_law_dip := He.glo_ok X G (c.fact 27 (f := .glo "_law_dip") rfl)
  have b_law_dip : Binds K fd_law_dip ["_law_script", "_law_k"] [] := F_law_dip.bindsN fun _ _ _ _ _ _ us hl => match us, hl with | [_, _], _ => rfl
  obtain ⟨fd_law_take, F_law_take⟩ := c.def_ 28 (d := d_law_take) rfl
  have g_law_take := He.glo_ok X G (c.fact 28 (f := .glo "_law_take") rfl)
  have b_law_take : Binds K fd_law_take ["_law_box", "_law_many"] [] := F_law_take.bindsN fun _ _ _ _ _ _ us hl => match us, hl with | [_, _], _ => rfl
  obtain ⟨fd_law_folded, F_law_folded⟩ := c.def_ 29 (d := d_law_folded) rfl
  have g_law_folded := He.glo_ok X G (c.fact 29 (f := .glo "_law_folded") rfl)
  have b_law_folded : Binds K fd_law_folded ["_law_script", "_law_many"] [] := F_law_folded.bindsN fun _ _ _ _ _ _ us hl => match us, hl with | [_, _], _ => rfl
  obtain ⟨fd_law_same, F_law_same⟩ := c.def_ 30 (d := d_law_same) rfl
  have g_law_same := He.glo_ok X G (c.fact 30 (f := .glo "_law_same") rfl)
  have b_law_same : Binds K fd_law_same ["_law_found", "_law_due"] [] := F_law_same.bindsN fun _ _ _ _ _ _ us hl => match us, hl with | [_, _], _ => rfl
  obtain ⟨fd_law_of, F_law_of⟩ := c.def_ 31 (d := d_law_of) rfl
  have g_law_of := He.glo_ok X G (c.fact 31 (f := .glo "_law_of") rfl)
  have b_law_of : Binds K fd_law_of ["_law_box", "_law_pool"] [] := F_law_of.bindsN fun _ _ _ _ _ _ us hl => match us, hl with | [_, _], _ => rfl
  obtain ⟨fd_law_row, F_law_row⟩ := c.def_ 32 (d := d_law_row) rfl
  have g_law_row := He.glo_ok X G (c.fact 32 (f := .glo "_law_row") rfl)
  have b_law_row : Binds K fd_law_row ["_law_box", "_law_most"] [] := F_law_row.bindsN fun _ _ _ _ _ _ us hl => match us, hl with | [_, _], _ => rfl
  obtain ⟨fd_law_lets, F_law_lets⟩ := c.def_ 33 (d := d_law_lets) rfl
  have g_law_lets := He.glo_ok X G (c.fact 33 (f := .glo "_law_lets") rfl)
  have b_law_lets : Binds K fd_law_lets ["_law_row_here", "_law_place"] [] := F_law_lets.bindsN fun _ _ _ _ _ _ us hl => match us, hl with | [_, _], _ => rfl
  obtain ⟨fd_law_passed, F_law_passed⟩ := c.def_ 34 (d := d_law_passed) rfl
  have g_law_passed := He.glo_ok X G (c.fact 34 (f := .glo "_law_passed") rfl)
  have b_law_passed : Binds K fd_law_passed ["_law_row_here", "_law_place"] [] := F_law_passed.bindsN fun _ _ _ _ _ _ us hl => match us, hl with | [_, _], _ => rfl
  obtain ⟨fd_law_fallen, F_law_fallen⟩ := c.def_ 35 (d := d_law_fallen) rfl
  have g_law_fallen := He.glo_ok X G (c.fact 35 (f := .glo "_law_fallen") rfl)
  have b_law_fallen : Binds K fd_law_fallen ["_law_row_here", "_law_place"] [] := F_law_fallen.bindsN fun _ _ _ _ _ _ us hl => match us, hl with | [_, _], _ => rfl
  obtain ⟨fd_law_again, F_law_again⟩ := c.def_ 36 (d := d_law_again) rfl
  have g_law_again := He.glo_ok X G (c.fact 36 (f := .glo "_law_again") rfl)
  have b_law_again : Binds K fd_law_again ["_law_order", "_law_seats"] [] := F_law_again.bindsN fun _ _ _ _ _ _ us hl => match us, hl with | [_, _], _ => rfl
  obtain ⟨fd_law_deeds, F_law_deeds⟩ := c.def_ 37 (d := d_law_deeds) rfl
  have g_law_deeds := He.glo_ok X G (c.fact 37 (f := .glo "_law_deeds") rfl)
  have b_law_deeds : Binds K fd_law_deeds ["_law_pen"] [] := F_law_deeds.bindsN fun _ _ _ _ _ _ us hl => match us, hl with | [_], _ => rfl
  obtain ⟨fd_law_layers, F_law_layers⟩ := c.def_ 38 (d := d_law_layers) rfl
  have g_law_layers := He.glo_ok X G (c.fact 38 (f := .glo "_law_layers") rfl)
  have b_law_layers : Binds K fd_law_layers ["_law_pen"] [] := F_law_layers.bindsN fun _ _ _ _ _ _ us hl => match us, hl with | [_], _ => rfl
  obtain ⟨fd_law_behind, F_law_behind⟩ := c.def_ 39 (d := d_law_behind) rfl
  have g_law_behind := He.glo_ok X G (c.fact 39 (f := .glo "_law_behind") rfl)
  have b_law_behind : Binds K fd_law_behind ["_law_pen", "_law_went"] [] := F_law_behind.bindsN fun _ _ _ _ _ _ us hl => match us, hl with | [_, _], _ => rfl
  obtain ⟨fd_law_right, F_law_right⟩ := c.def_ 40 (d := d_law_right) rfl
  have g_law_right := He.glo_ok X G (c.fact 40 (f := .glo "_law_right") rfl)
  have b_law_right : Binds K fd_law_right ["_law_box"] [] := F_law_right.bindsN fun _ _ _ _ _ _ us hl => match us, hl with | [_], _ => rfl
  obtain ⟨fd_law, F_law⟩ := c.def_ 41 (d := d_law) rfl
  have m_abs := He.free_ok X G (c.fact 42 (f := .free "abs") rfl)
  have m_all := He.free_ok X G (c.fact 43 (f := .free "all") rfl)
  have m_bool := He.free_ok X G (c.fact 44 (f := .free "bool") rfl)
  have m_enumerate := He.free_ok X G (c.fact 45 (f := .free "enumerate") rfl)
  have m_int := He.free_ok X G (c.fact 46 (f := .free "int") rfl)
  have m_isinstance := He.free_ok X G (c.fact 47 (f := .free "isinstance") rfl)
  have m_len := He.free_ok X G (c.fact 48 (f := .free "len") rfl)
  have m_list := He.free_ok X G (c.fact 49 (f := .free "list") rfl)
  have m_range := He.free_ok X G (c.fact 50 (f := .free "range") rfl)
  have m_reversed := He.free_ok X G (c.fact 51 (f := .free "reversed") rfl)
  have m_sorted := He.free_ok X G (c.fact 52 (f := .free "sorted") rfl)
  have m_str := He.free_ok X G (c.fact 53 (f := .free "str") rfl)
  have m_tuple := He.free_ok X G (c.fact 54 (f := .free "tuple") rfl)
  have m_zip := He.free_ok X G (c.fact 55 (f := .free "zip") rfl)
  have e := hfa.symm.trans (He.glo_ok X G (c.fact 41 (f := .glo "law") rfl))
  cases e
  have bl := FunD.bindsA (ps := ["_law_script"]) F_law fun _ _ _ _ _ _ us hl => match us, hl with | [_], _ => rfl
  refine ⟨fd_law, fun s v => bl s [v] rfl, fun base _ _ => ?_⟩
  have h_is_number := ok_is_number (P := P) (w := w) (mg := mg) (base := base) F_is_number g_is_number b_is_number m_isinstance m_int m_bool
  have h_can_pass := ok_can_pass (P := P) (w := w) (mg := mg) (base := base) F_can_pass g_can_pass b_can_pass m_len
  have h_can_fall := ok_can_fall (P := P) (w := w) (mg := mg) (base := base) F_can_fall g_can_fall b_can_fall m_len
  have h_passed := ok_passed (P := P) (w := w) (mg := mg) (base := base) F_passed g_passed b_passed h_can_pass
  have h_fallen := ok_fallen (P := P) (w := w) (mg := mg) (base := base) F_fallen g_fallen b_fallen h_can_fall
  have h_swapped := ok_swapped (P := P) (w := w) (mg := mg) (base := base) F_swapped g_swapped b_swapped
  have h_can_do := ok_can_do (P := P) (w := w) (mg := mg) (base := base) F_can_do g_can_do b_can_do h_can_pass h_can_fall
  have h_led := ok_led (P := P) (w := w) (mg := mg) (base := base) F_led g_led b_led h_can_do h_passed h_fallen h_swapped m_tuple m_range m_len m_enumerate
  have h_pass_all := ok_pass_all (P := P) (w := w) (mg := mg) (base := base) F_pass_all g_pass_all b_pass_all m_len
  have h_fall_all := ok_fall_all (P := P) (w := w) (mg := mg) (base := base) F_fall_all g_fall_all b_fall_all m_len
  have h_row_and_order := ok_row_and_order (P := P) (w := w) (mg := mg) (base := base) F_row_and_order g_row_and_order b_row_and_order m_tuple
  have h_last := ok_last (P := P) (w := w) (mg := mg) (base := base) F_last g_last b_last h_pass_all h_row_and_order m_range m_len
  have h_first := ok_first (P := P) (w := w) (mg := mg) (base := base) F_first g_first b_first h_fall_all h_row_and_order m_range m_len m_reversed
  have h_places_of := ok_places_of (P := P) (w := w) (mg := mg) (base := base) F_places_of g_places_of b_places_of m_enumerate
  have h_turned_about := ok_turned_about (P := P) (w := w) (mg := mg) (base := base) F_turned_about g_turned_about b_turned_about h_places_of m_len m_range
  have h_passings := ok_passings (P := P) (w := w) (mg := mg) (base := base) F_passings g_passings b_passings h_turned_about h_last
  have h_fallings := ok_fallings (P := P) (w := w) (mg := mg) (base := base) F_fallings g_fallings b_fallings h_turned_about h_first
  have h_kept_pairs := ok_kept_pairs (P := P) (w := w) (mg := mg) (base := base) F_kept_pairs g_kept_pairs b_kept_pairs h_passings h_fallings m_len m_range
  have h_first_not_kept := ok_first_not_kept (P := P) (w := w) (mg := mg) (base := base) F_first_not_kept g_first_not_kept b_first_not_kept h_places_of h_kept_pairs
  have h_refuse_not_kept := ok_refuse_not_kept (P := P) (w := w) (mg := mg) (base := base) F_refuse_not_kept g_refuse_not_kept b_refuse_not_kept h_first_not_kept
  have h_how_far := ok_how_far (P := P) (w := w) (mg := mg) (base := base) F_how_far g_how_far b_how_far h_refuse_not_kept h_turned_about m_len
  have h_deeds_toward := ok_deeds_toward (P := P) (w := w) (mg := mg) (base := base) F_deeds_toward g_deeds_toward b_deeds_toward h_places_of h_can_fall h_can_pass m_len m_range
  have h_nearer := ok_nearer (P := P) (w := w) (mg := mg) (base := base) F_nearer g_nearer b_nearer h_refuse_not_kept h_deeds_toward
  have h_way_to := ok_way_to (P := P) (w := w) (mg := mg) (base := base) F_way_to g_way_to b_way_to h_refuse_not_kept h_deeds_toward h_led m_tuple
  have h_is_deed := ok_is_deed (P := P) (w := w) (mg := mg) (base := base) F_is_deed g_is_deed b_is_deed h_is_number m_isinstance m_tuple m_len
  have h_leads_to := ok_leads_to (P := P) (w := w) (mg := mg) (base := base) F_leads_to g_leads_to b_leads_to h_led
  have h_shows_way := ok_shows_way (P := P) (w := w) (mg := mg) (base := base) F_shows_way g_shows_way b_shows_way h_turned_about h_is_deed h_leads_to m_isinstance m_list m_len m_all
  have h_law_dip := ok_law_dip (P := P) (w := w) (mg := mg) (base := base) F_law_dip g_law_dip b_law_dip m_len m_abs m_int
  have h_law_take := ok_law_take (P := P) (w := w) (mg := mg) (base := base) F_law_take g_law_take b_law_take
  have h_law_folded := ok_law_folded (P := P) (w := w) (mg := mg) (base := base) F_law_folded g_law_folded b_law_folded m_list m_enumerate
  have h_law_same := ok_law_same (P := P) (w := w) (mg := mg) (base := base) F_law_same g_law_same b_law_same m_isinstance m_list m_tuple m_bool m_str m_int m_len m_all m_zip 4
  have h_law_of := ok_law_of (P := P) (w := w) (mg := mg) (base := base) F_law_of g_law_of b_law_of h_law_take m_len
  have h_law_row := ok_law_row (P := P) (w := w) (mg := mg) (base := base) F_law_row g_law_row b_law_row h_law_take h_law_of m_range m_tuple
  have h_law_lets := ok_law_lets (P := P) (w := w) (mg := mg) (base := base) F_law_lets g_law_lets b_law_lets
  have h_law_passed := ok_law_passed (P := P) (w := w) (mg := mg) (base := base) F_law_passed g_law_passed b_law_passed
  have h_law_fallen := ok_law_fallen (P := P) (w := w) (mg := mg) (base := base) F_law_fallen g_law_fallen b_law_fallen
  have h_law_again := ok_law_again (P := P) (w := w) (mg := mg) (base := base) F_law_again g_law_again b_law_again m_tuple
  have h_law_deeds := ok_law_deeds (P := P) (w := w) (mg := mg) (base := base) F_law_deeds g_law_deeds b_law_deeds h_law_lets h_law_passed h_law_fallen m_range m_len
  have h_law_layers := ok_law_layers (P := P) (w := w) (mg := mg) (base := base) F_law_layers g_law_layers b_law_layers h_law_deeds m_tuple m_range m_len
  have h_law_behind := ok_law_behind (P := P) (w := w) (mg := mg) (base := base) F_law_behind g_law_behind b_law_behind h_law_deeds m_tuple m_range m_len
  have h_law_right := ok_law_right (P := P) (w := w) (mg := mg) (base := base) F_law_right g_law_right b_law_right h_law_row h_law_layers h_law_of h_way_to h_how_far h_law_same h_law_behind h_law_deeds h_law_again h_nearer h_shows_way m_len m_range m_list m_sorted
  exact ok_law F_law h_law_folded h_law_dip h_law_right m_range m_len m_all
end K71
open PySem PySem.W PySem.Calls PyProof.Rows
theorem PySem.Challenge.cw_hayherd_k71_whole_no_shorter_way_holds : PySem.Challenge.rw_hayherd_k71_whole_no_shorter_way.Holds := by
  w_on; o_law
  refine HandSHeadRun.head_any (r := OpenLaw.row PySem.Challenge.rw_hayherd_k71_whole_no_shorter_way) (q := view (OpenLaw.row PySem.Challenge.rw_hayherd_k71_whole_no_shorter_way).prog [50]) (H := K71.hk) (ob := K71.ob) (M := 3000) (loose := K71.loose) (d := HandSHeadRun.topDef (OpenLaw.row PySem.Challenge.rw_hayherd_k71_whole_no_shorter_way).prog 50) (kwd := []) K71.ob_eq
    (by kernel_rfl) (fun s => by kernel_rfl) K71.run (by kernel_rfl) (by kernel_rfl) (by kernel_rfl) (by rfl) (by first | assumption | decide +kernel) (by decide +kernel) ⟨rfl, rfl, rfl, rfl, rfl, by decide +kernel⟩ ?hw ?hc
  case hw => w_witness2
  case hc =>
    refine L2.walk_ofE (l := PySem.Challenge.rw_hayherd_k71_whole_no_shorter_way) (n := 63) (k := 9) (x := "_law_script") (CX := L2.CX0) rfl (by decide) (by kernel_rfl) ⟨rfl, by decide, by decide⟩ ?F (fun _ _ _ _ z => z)
    intro w mg fa h Y G hmg0
    obtain ⟨K, KX, c⟩ := Y
    have hmg : mg ("law" : PySem.Str) = some (.ref fa) := by
      have e : (HandSHeadRun.topDef (OpenLaw.row PySem.Challenge.rw_hayherd_k71_whole_no_shorter_way).prog 50).name = ("law" : PySem.Str) := by kernel_rfl
      rw [← e]
      exact hmg0
    obtain ⟨fd, hb, hF⟩ := K71.facts (P := (PySem.Challenge.rw_hayherd_k71_whole_no_shorter_way).prog) (w := w) KX G hmg c
    exact ⟨K, fd, HH.spLaw K, KX, hb, fun H a ns hl _ hS => ⟨a, ns, rfl, hS, hl, fun _ => rfl⟩, hF⟩
