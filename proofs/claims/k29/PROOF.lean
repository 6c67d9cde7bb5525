import PyProof.Rows.All
import Wide.All
import OpenK.AllK
import Wide.FinOn
import KE.KStateDown
import HandS.ForMost
import HandS.Conv
import HandS.Flow
import HandS.Style
import HandS.TupAny
import HandS.TupMul
import HandS.IsInst
import HandS.Wide
import HandS.Defaults
import HandS.Zip
import HandS.Evl
import HandS.More
import HandS.WordsExc
import HandS.Head2
import HandS.HeadEnd
import HandS.HeadHook2
import HandS.Walk
import HandS.ExcInit
import HandS.HeadHook4
import KE.KExcIs
import KE.KTryMore
import KE.KExcInit
import PyProof.ReprRoads
import PyProof.ReprText
import PyProof.ReprLen
import HandS.RevRange
import HandS.SortInts
import KE.GoesMore
import HandS.DictComp
import HandS.Dict
import HandS.SortRule
import HandS.Deep
import HandS.Strs
import KE.GoesZip
import KE.GoesEnum
import HandS.DictTup
import KE.KDictZip
import HandS.SetFor
import HandS.Small
import KE.KSortTupAny
import HandS.CallLocal
import HandS.TupLe
import HandS.WideBits
import KE.DataMinMax
import PyProof.SumAnyB
import PyProof.Rows.TupDisplay
import KE.KDictDisplayH
import HandS.TupLen
import HandS.Iter
import KE.SortData
import HandS.TryOnly
import HandS.TupSets
import PySem.Challenge.RW_hayherd_k29_ways_shown_or_not
set_option Elab.async false
set_option linter.all false
set_option maxRecDepth 100000
set_option maxHeartbeats 4000000
namespace HH
open PySem PySem.Spec PyProof.Rows L2
section
variable {X : Cx}
def CPowW (i j : Int) : Prop := 0 ≤ j ∧ (Builtin.Int.intBits i : Int) * j ≤ 2 ^ 27
theorem op_powW : OpR X (binaryOp .Pow) (rI CPowW fun i j => .int (i ^ j.toNat)) := opI fun _ _ _ _ _ _ _ hc q => pow_int hc.1 hc.2 q
def gSl (to ta tc : TE) : TG := fun v σ H Q => to σ H fun o H1 => ta σ H1 fun a H2 => tc σ H2 fun c H3 => ∃ (l b : Addr) (xs ys : List V) (i j : Int), o = .ref l ∧ v = .ref b ∧ a = .int i ∧ c = .int j ∧ H3 l = some (.lst xs) ∧ H3 b = some (.lst ys) ∧ l ≠ b ∧ 0 ≤ i ∧ i ≤ j ∧ j ≤ xs.length ∧ xs.length + ys.length ≤ sizeLine ∧ Q σ (upd H3 l (.lst (xs.take i.toNat ++ ys ++ xs.drop j.toNat)))
theorem pg_sl {o a c : Expr} {to ta tc : TE} {p2 pos : Pos} (ho : PE X o to) (hl : PE X a ta) (hu : PE X c tc) : PG X (.Subscript o (.Slice (some a) (some c) none p2) pos) (gSl to ta tc) := by
  refine ⟨fun pins s σ H v u Q I0 r0 h0 => ?_⟩
  rw [arm_assign_Subscript]
  refine wpAny_bind (wpAny_holding (thn (ho.run pins s σ H _ I0 h0) fun ov s1 ⟨x, H1, I1, r1, q1⟩ => ?_))
  refine wpAny_bind (wpAny_holding (wpAny_Slice (thn (hl.run pins s1 σ H1 _ I1 q1) fun lv s2 ⟨y, H2, I2, r2, q2⟩ => ?_)))
  refine thn (hu.run pins s2 σ H2 _ I2 q2) fun uv s3 ⟨z, H3, I3, r3, q3⟩ => ?_
  obtain ⟨l, b, xs, ys, i, j, rfl, rfl, rfl, rfl, hH, hB, hne, h0, hij, hj, hz, q⟩ := q3
  cases r1
  cases r0
  refine wpAny_of_eq (evalPart_none _) ?_
  have I5 : Inv X pins σ H3 { s3 with heap := s3.heap.push { cls := .type "slice", data := .fields #[lv, uv, .none] } } := I3.kept (t' := s3.toks) fun b ob q => Heap.get?_push_of_some _ q
  refine wpAny_bind (wpAny_standAt (wpAny_bind (wpAny_holding (set_slice I5 hH hB hne (Heap.IsSliceOf.new _ _ _ _) r2 r3 h0 hij hj hz fun s' I6 => ?_))))
  exact wpAny_release ⟨σ, _, I6, q⟩
theorem ix_tupK {K : PySem.W.Frag} (h : X.K = K := by rfl) : IxR X (rIxT K) := by
  subst h
  exact ix_tup
end
end HH
set_option maxHeartbeats 4000000
namespace HH
open PySem PySem.Spec PyProof.Rows L2 Evl
abbrev FnP (K : PySem.W.Frag) (x : Str) (st : Stmt) (f : Addr) (fd : FuncData) : Prop := FunD K x x (defArgs st) (defBody st) (defScope st) [] [] f fd
structure Has (P : Program) (w : World) (K : PySem.W.Frag) (mg : Str → Option Value) (base : Heap) (k : Nat) (x : Str) (ps : List Str) (sp : Sp) (f : Addr) (fd : FuncData) : Prop where
  G : FnOk P w K mg base CX0 k f fd ps sp
  g : mg x = some (.ref f)
  kp : PySem.W.keepIn K (.ref f) = true
  b : Binds K fd ps []
def ExB (b : Addr) (H H' : Hp) : Prop := ∀ a o, a ≠ b → H a = some o → H' a = some o
theorem ExB.refl (b : Addr) (H : Hp) : ExB b H H := fun _ _ _ h => h
theorem ExB.trans {b : Addr} {H H1 H2 : Hp} (x : ExB b H H1) (y : ExB b H1 H2) : ExB b H H2 := fun a o n h => y a o n (x a o n h)
theorem ExB.of {b : Addr} {H H' : Hp} (e : Ex H H') : ExB b H H' := fun a o _ h => e a o h
theorem ExB.new {b p : Addr} {H H' : Hp} {o : HO} (e : ExB b H H') (h : H' p = none) : ExB b H (upd H' p o) := e.trans (.of (Ex.new h))
theorem ExB.upd {b : Addr} {H H' : Hp} {o : HO} (e : ExB b H H') : ExB b H (upd H' b o) := fun a u n h => by
  rw [upd_ne n]
  exact e a u n h
theorem ExB.mut {b p : Addr} {H H' : Hp} {o : HO} (e : ExB b H H') (h : H p = none) : ExB b H (L2.upd H' p o) := fun a u n ha => by
  rw [upd_ne (ne_of_none ha h)]
  exact e a u n ha
theorem ExB.rd {b a : Addr} {H H' : Hp} {u : HO} (e : ExB b H H') (n : a ≠ b) (h : Rd H a u) : Rd H' a u := by
  rcases h with h | ⟨o, h⟩
  · exact .inl (e a _ n h)
  · exact .inr ⟨o, e a _ n h⟩
theorem ExB.l {K : PySem.W.Frag} {b a : Addr} {H H' : Hp} {xs : List V} (e : ExB b H H') (n : a ≠ b) (h : SqL K H a xs) : SqL K H' a xs := by
  rcases h with h | h
  · exact .inl (e.rd n h)
  · exact .inr h
theorem ExB.t {K : PySem.W.Frag} {b a : Addr} {H H' : Hp} {xs ys : List V} (e : ExB b H H') (hb : H b = some (.lst ys)) (h : SqT K H a xs) : SqT K H' a xs := by
  rcases h with h | h
  · refine .inl (e.rd (fun z => ?_) h)
    subst z
    rcases h with h | ⟨o, h⟩
    · rw [hb] at h
      cases h
    · rw [hb] at h
      cases h
  · exact .inr h
def Lim : Nat := 2 ^ 4000
def Bx (H : Hp) (p : Addr) (n : Nat) : Prop := ∃ a b c : Int, H p = some (.lst [.int a, .int b, .int c]) ∧ 0 ≤ a ∧ 0 ≤ b ∧ b < 2 ^ 62 ∧ 0 ≤ c ∧ c ≤ n
theorem Bx.ex {H H' : Hp} {p : Addr} {n : Nat} (h : Bx H p n) (e : Ex H H') : Bx H' p n := by
  obtain ⟨a, b, c, h1, h2⟩ := h
  exact ⟨a, b, c, e _ _ h1, h2⟩
theorem Bx.mut {H : Hp} {p q : Addr} {n : Nat} {o : HO} (h : Bx H p n) (e : p ≠ q) : Bx (upd H q o) p n := by
  obtain ⟨a, b, c, h1, h2⟩ := h
  exact ⟨a, b, c, by rw [upd_ne e]; exact h1, h2⟩
theorem Bx.le {H : Hp} {p : Addr} {n m : Nat} (h : Bx H p n) (e : n ≤ m) : Bx H p m := by
  obtain ⟨a, b, c, h1, h2, h3, h4, h5, h6⟩ := h
  exact ⟨a, b, c, h1, h2, h3, h4, h5, by omega⟩
theorem Bx.lst {H : Hp} {p : Addr} {n : Nat} (h : Bx H p n) : ∃ xs, H p = some (.lst xs) := by
  obtain ⟨a, b, c, h1, _⟩ := h
  exact ⟨_, h1⟩
theorem Bx.ne {H : Hp} {p q : Addr} {n : Nat} (h : Bx H p n) (hq : H q = none) : p ≠ q := by
  obtain ⟨xs, h⟩ := h.lst
  exact ne_of_none h hq
abbrev Row := List (Int × Int)
def BeastAt (K : PySem.W.Frag) (H : Hp) (v : V) (b : Int × Int) : Prop := ∃ p, v = .ref p ∧ SqT K H p [.int b.1, .int b.2]
def Beasts (K : PySem.W.Frag) (H : Hp) (vs : List V) (rs : Row) : Prop := vs.length = rs.length ∧ ∀ (i : Nat) (b : Int × Int), rs[i]? = some b → ∃ u, vs[i]? = some u ∧ BeastAt K H u b
def RowAt (K : PySem.W.Frag) (H : Hp) (v : V) (rs : Row) : Prop := ∃ a vs, v = .ref a ∧ SqT K H a vs ∧ Beasts K H vs rs
theorem BeastAt.ex {K : PySem.W.Frag} {H H' : Hp} {v : V} {b : Int × Int} (e : Ex H H') (h : BeastAt K H v b) : BeastAt K H' v b := by
  obtain ⟨p, h1, h2⟩ := h
  exact ⟨p, h1, ex_t e h2⟩
theorem BeastAt.exB {K : PySem.W.Frag} {H H' : Hp} {v : V} {b : Int × Int} {q : Addr} {ys : List V} (e : ExB q H H') (hq : H q = some (.lst ys)) (h : BeastAt K H v b) : BeastAt K H' v b := by
  obtain ⟨p, h1, h2⟩ := h
  exact ⟨p, h1, e.t hq h2⟩
theorem Beasts.ex {K : PySem.W.Frag} {H H' : Hp} {vs : List V} {rs : Row} (e : Ex H H') (h : Beasts K H vs rs) : Beasts K H' vs rs := ⟨h.1, fun i b hi => by
  obtain ⟨u, h1, h2⟩ := h.2 i b hi
  exact ⟨u, h1, h2.ex e⟩⟩
theorem Beasts.exB {K : PySem.W.Frag} {H H' : Hp} {vs : List V} {rs : Row} {q : Addr} {ys : List V} (e : ExB q H H') (hq : H q = some (.lst ys)) (h : Beasts K H vs rs) : Beasts K H' vs rs := ⟨h.1, fun i b hi => by
  obtain ⟨u, h1, h2⟩ := h.2 i b hi
  exact ⟨u, h1, h2.exB e hq⟩⟩
theorem RowAt.ex {K : PySem.W.Frag} {H H' : Hp} {v : V} {rs : Row} (h : RowAt K H v rs) (e : Ex H H') : RowAt K H' v rs := by
  obtain ⟨a, vs, h1, h2, h3⟩ := h
  exact ⟨a, vs, h1, ex_t e h2, h3.ex e⟩
theorem RowAt.exB {K : PySem.W.Frag} {H H' : Hp} {v : V} {rs : Row} {q : Addr} {n : Nat} (h : RowAt K H v rs) (e : ExB q H H') (hb : Bx H q n) : RowAt K H' v rs := by
  obtain ⟨a, vs, h1, h2, h3⟩ := h
  obtain ⟨ys, hy⟩ := hb.lst
  exact ⟨a, vs, h1, e.t hy h2, h3.exB e hy⟩
theorem Beasts.nil {K : PySem.W.Frag} {H : Hp} : Beasts K H [] [] := ⟨rfl, fun i b h => by simp at h⟩
theorem Beasts.app {K : PySem.W.Frag} {H : Hp} {vs us : List V} {rs ss : Row} (h : Beasts K H vs rs) (g : Beasts K H us ss) : Beasts K H (vs ++ us) (rs ++ ss) := by
  refine ⟨by rw [List.length_append, List.length_append, h.1, g.1], fun i b hi => ?_⟩
  by_cases hl : i < rs.length
  · rw [List.getElem?_append_left hl] at hi
    rw [List.getElem?_append_left (by rw [h.1]; exact hl)]
    exact h.2 i b hi
  · rw [List.getElem?_append_right (by omega)] at hi
    rw [List.getElem?_append_right (by rw [h.1]; omega), h.1]
    exact g.2 _ b hi
theorem Beasts.one {K : PySem.W.Frag} {H : Hp} {v : V} {b : Int × Int} (h : BeastAt K H v b) : Beasts K H [v] [b] := by
  refine ⟨rfl, fun i c hi => ?_⟩
  cases i with
  | zero =>
    cases hi
    exact ⟨v, rfl, h⟩
  | succ i => simp at hi
theorem Beasts.take {K : PySem.W.Frag} {H : Hp} {vs : List V} {rs : Row} (n : Nat) (h : Beasts K H vs rs) : Beasts K H (vs.take n) (rs.take n) := by
  refine ⟨by rw [List.length_take, List.length_take, h.1], fun i b hi => ?_⟩
  rw [List.getElem?_take] at hi ⊢
  by_cases hl : i < n
  · rw [if_pos hl] at hi ⊢
    exact h.2 i b hi
  · rw [if_neg hl] at hi
    cases hi
theorem Beasts.drop {K : PySem.W.Frag} {H : Hp} {vs : List V} {rs : Row} (n : Nat) (h : Beasts K H vs rs) : Beasts K H (vs.drop n) (rs.drop n) := by
  refine ⟨by rw [List.length_drop, List.length_drop, h.1], fun i b hi => ?_⟩
  rw [List.getElem?_drop] at hi ⊢
  exact h.2 _ b hi
theorem cut_to (xs : List V) (j : Nat) : cutV xs none (some (j : Int)) = xs.take j := by
  unfold cutV
  rw [HT.sIx_none, HT.sIx_nat, Nat.sub_zero, List.drop_zero]
  by_cases h : j ≤ xs.length
  · rw [Nat.min_eq_left h]
  · rw [Nat.min_eq_right (by omega), List.take_of_length_le (Nat.le_refl _), List.take_of_length_le (by omega)]
theorem cut_from (xs : List V) (j : Nat) : cutV xs (some (j : Int)) none = xs.drop j := by
  unfold cutV
  rw [HT.sIx_none, HT.sIx_nat]
  by_cases h : j ≤ xs.length
  · rw [Nat.min_eq_left h]
    exact List.take_of_length_le (by rw [List.length_drop]; omega)
  · rw [Nat.min_eq_right (by omega), Nat.sub_self, List.take_zero, List.drop_of_length_le (by omega)]
theorem cut_all {xs : List V} {lo hi : Option Int} (h : HT.sIx xs.length 0 lo = 0 ∧ HT.sIx xs.length xs.length hi = xs.length) : cutV xs lo hi = xs := by
  unfold cutV
  rw [h.1, h.2, Nat.sub_zero, List.drop_zero]
  exact List.take_of_length_le (Nat.le_refl _)
end HH
set_option maxHeartbeats 4000000
namespace HH
open PySem PySem.Spec PyProof.Rows L2 Evl
section
variable {K : PySem.W.Frag} {σ : L2.St} {H H' : Hp} {ta tb te tx : TE} {x y z v : V}
def EvR (K : PySem.W.Frag) (te : TE) (σ : L2.St) (H : Hp) (rs : Row) : Prop := ∀ H1, Ex H H1 → ∀ Q : VK, (∀ v H2, Ex H1 H2 → RowAt K H2 v rs → Q v H2) → te σ H1 Q
def EvB (K : PySem.W.Frag) (te : TE) (σ : L2.St) (H : Hp) (b : Int × Int) : Prop := ∀ H1, Ex H H1 → ∀ Q : VK, (∀ v H2, Ex H1 H2 → BeastAt K H2 v b → Q v H2) → te σ H1 Q
theorem er_val {rs : Row} (h : Ev te σ H v) (hr : RowAt K H v rs) : EvR K te σ H rs := fun H1 e Q q => h H1 e Q fun H2 e2 => q v H2 e2 (hr.ex (e.trans e2))
theorem eb_val {b : Int × Int} (h : Ev te σ H v) (hr : BeastAt K H v b) : EvB K te σ H b := fun H1 e Q q => h H1 e Q fun H2 e2 => q v H2 e2 (hr.ex (e.trans e2))
theorem er_cat {rs ss : Row} (ha : EvR K ta σ H rs) (hb : EvR K tb σ H ss) (hl : rs.length + ss.length ≤ 100000) : EvR K (tOp (rCatA K) ta tb) σ H (rs ++ ss) := fun H1 e Q q =>
  ha H1 e _ fun v H2 e2 hv => hb H2 (e.trans e2) _ fun u H3 e3 hu => by
    obtain ⟨a, vs, rfl, h1, h2⟩ := hv.ex e3
    obtain ⟨b, us, rfl, g1, g2⟩ := hu
    refine ⟨a, b, vs, us, rfl, rfl, h1, g1, by rw [h2.1, g2.1]; exact sz_of hl, fun z => ?_, fun _ z => ?_, fun _ _ p hp => ?_⟩
    · subst z
      have e0 : rs = [] := List.length_eq_zero_iff.mp h2.1.symm
      subst e0
      exact q _ H3 (e2.trans e3) ⟨b, us, rfl, g1, g2⟩
    · subst z
      have e0 : ss = [] := List.length_eq_zero_iff.mp g2.1.symm
      subst e0
      rw [List.append_nil] at q
      exact q _ H3 (e2.trans e3) ⟨a, vs, rfl, h1, h2⟩
    · exact q _ _ ((e2.trans e3).trans (Ex.new hp)) ⟨p, _, rfl, st_of upd_same, (h2.app g2).ex (Ex.new hp)⟩
theorem er_to {rs : Row} {ti : TE} {j : Nat} {i : Int} (h : EvR K te σ H rs) (hi : Ev ti σ H (.int i)) (hj : i = (j : Int)) : EvR K (tSl (rSlA K) te tNoPart (tPart ti)) σ H (rs.take j) := fun H1 e Q q =>
  h H1 e _ fun v H2 e2 hv => hi H2 (e.trans e2) _ fun H3 e3 => by
    obtain ⟨a, vs, rfl, h1, h2⟩ := hv.ex e3
    subst hj
    refine ⟨(j : Int), rfl, a, vs, rfl, h1, fun z => ?_, fun _ p hp => ?_⟩
    · have e0 := cut_all z
      rw [cut_to] at e0
      refine q _ H3 (e2.trans e3) ⟨a, vs, rfl, h1, ?_⟩
      have h3 := h2.take j
      rw [e0] at h3
      exact h3
    · refine q _ _ ((e2.trans e3).trans (Ex.new hp)) ⟨p, _, rfl, st_of upd_same, ?_⟩
      rw [cut_to]
      exact (h2.take j).ex (Ex.new hp)
theorem er_from {rs : Row} {ti : TE} {j : Nat} {i : Int} (h : EvR K te σ H rs) (hi : Ev ti σ H (.int i)) (hj : i = (j : Int)) : EvR K (tSl (rSlA K) te (tPart ti) tNoPart) σ H (rs.drop j) := fun H1 e Q q =>
  h H1 e _ fun v H2 e2 hv => hi H2 (e.trans e2) _ fun H3 e3 => by
    obtain ⟨a, vs, rfl, h1, h2⟩ := hv.ex e3
    subst hj
    refine ⟨(j : Int), rfl, a, vs, rfl, h1, fun z => ?_, fun _ p hp => ?_⟩
    · have e0 := cut_all z
      rw [cut_from] at e0
      refine q _ H3 (e2.trans e3) ⟨a, vs, rfl, h1, ?_⟩
      have h3 := h2.drop j
      rw [e0] at h3
      exact h3
    · refine q _ _ ((e2.trans e3).trans (Ex.new hp)) ⟨p, _, rfl, st_of upd_same, ?_⟩
      rw [cut_from]
      exact (h2.drop j).ex (Ex.new hp)
theorem eb_tup {s t : Int} (h1 : Ev ta σ H (.int s)) (h2 : Ev tb σ H (.int t)) : EvB K (tTup (tCons ta (tCons tb tNil))) σ H (s, t) := fun H1 e Q q =>
  h1 H1 e _ fun H2 e2 => h2 H2 (e.trans e2) _ fun H3 e3 => ⟨by show 2 ≤ sizeLine; decide, fun p hp => q _ _ ((e2.trans e3).trans (Ex.new hp)) ⟨p, rfl, st_of upd_same⟩⟩
theorem er_two {b c : Int × Int} (h1 : EvB K ta σ H b) (h2 : EvB K tb σ H c) : EvR K (tTup (tCons ta (tCons tb tNil))) σ H [b, c] := fun H1 e Q q =>
  h1 H1 e _ fun v H2 e2 hv => h2 H2 (e.trans e2) _ fun u H3 e3 hu => ⟨by show 2 ≤ sizeLine; decide, fun p hp => q _ _ ((e2.trans e3).trans (Ex.new hp)) ⟨p, _, rfl, st_of upd_same, (Beasts.one (hv.ex (e3.trans (Ex.new hp)))).app (Beasts.one (hu.ex (Ex.new hp)))⟩⟩
theorem s_retR {D : Ends} {rs : Row} (h : EvR K te σ H rs) (k : ∀ v H1, Ex H H1 → RowAt K H1 v rs → D.rt v H1) : tRet te D σ H := h H (Ex.refl H) _ fun v H1 e hv => k v H1 e hv
theorem ev_rowAt {a : Addr} {vs : List V} {rs : Row} {ti : TE} {j : Nat} {i : Int} {b : Int × Int} (h : Ev te σ H (.ref a)) (hs : SqT K H a vs) (hb : Beasts K H vs rs) (hi : Ev ti σ H (.int i)) (hj : i = (j : Int)) (hg : rs[j]? = some b) :
    ∃ p, Ev (tOp (rIxT K) te ti) σ H (.ref p) ∧ SqT K H p [.int b.1, .int b.2] := by
  obtain ⟨u, h1, p, rfl, h2⟩ := hb.2 j b hg
  subst hj
  exact ⟨p, ev_op h hi (rv_ixT hs (atI_nat h1)), h2⟩
theorem ev_beast {rs : Row} {ti : TE} {j : Nat} {i : Int} {b : Int × Int} (h : Ev te σ H v) (hr : RowAt K H v rs) (hi : Ev ti σ H (.int i)) (hj : i = (j : Int)) (hg : rs[j]? = some b) : ∃ p, Ev (tOp (rIxT K) te ti) σ H (.ref p) ∧ SqT K H p [.int b.1, .int b.2] := by
  obtain ⟨a, vs, rfl, hs, hb⟩ := hr
  exact ev_rowAt h hs hb hi hj hg
theorem ev_str {rs : Row} {ti : TE} {j : Nat} {i : Int} {b : Int × Int} (h : Ev te σ H v) (hr : RowAt K H v rs) (hi : Ev ti σ H (.int i)) (hj : i = (j : Int)) (hg : rs[j]? = some b) : Ev (tOp (rIxT K) (tOp (rIxT K) te ti) (tC (.int 0))) σ H (.int b.1) := by
  obtain ⟨p, h1, h2⟩ := ev_beast h hr hi hj hg
  exact ev_op h1 ev_c (rv_ixT h2 rfl)
theorem ev_tol {rs : Row} {ti : TE} {j : Nat} {i : Int} {b : Int × Int} (h : Ev te σ H v) (hr : RowAt K H v rs) (hi : Ev ti σ H (.int i)) (hj : i = (j : Int)) (hg : rs[j]? = some b) : Ev (tOp (rIxT K) (tOp (rIxT K) te ti) (tC (.int 1))) σ H (.int b.2) := by
  obtain ⟨p, h1, h2⟩ := ev_beast h hr hi hj hg
  exact ev_op h1 ev_c (rv_ixT h2 rfl)
theorem ev_lenR {rs : Row} (h : Ev te σ H v) (hr : RowAt K H v rs) : Ev (tCB (rLenS K) (tCons te tNil)) σ H (.int (rs.length : Int)) := fun H1 e Q q => by
  obtain ⟨a, vs, rfl, hs, hb⟩ := hr
  refine h H1 e _ fun H2 e2 => ⟨a, vs, rfl, Or.inr (ex_t (e.trans e2) hs), ?_⟩
  rw [hb.1]
  exact q H2 e2
end
def sS (rs : Row) (i : Nat) : Int := (rs[i]?.getD (0, 0)).1
def tS (rs : Row) (i : Nat) : Int := (rs[i]?.getD (0, 0)).2
theorem row_get {rs : Row} {i : Nat} (h : i < rs.length) : rs[i]? = some (sS rs i, tS rs i) := by
  unfold sS tS
  rw [List.getElem?_eq_getElem h] <;> rfl
def letsN (rs : Row) (i : Nat) : Bool := decide (0 < i) && decide (sS rs i - tS rs (i - 1) > sS rs (i - 1))
def fallsN (rs : Row) (i : Nat) : Bool := decide (sS rs i > sS rs (i + 1))
def passR (rs : Row) (p : Nat) : Row := rs.take (p - 1) ++ [(sS rs p - tS rs (p - 1), tS rs p), (sS rs (p - 1), tS rs (p - 1))] ++ rs.drop (p + 1)
def fallR (rs : Row) (p : Nat) : Row := rs.take p ++ [(sS rs (p + 1), tS rs (p + 1)), (sS rs p + tS rs (p + 1), tS rs p)] ++ rs.drop (p + 2)
theorem passR_len {rs : Row} {p : Nat} (h0 : 0 < p) (h : p < rs.length) : (passR rs p).length = rs.length := by
  unfold passR
  rw [List.length_append, List.length_append, List.length_take, List.length_drop]
  show min (p - 1) rs.length + 2 + (rs.length - (p + 1)) = rs.length
  omega
theorem fallR_len {rs : Row} {p : Nat} (h : p + 1 < rs.length) : (fallR rs p).length = rs.length := by
  unfold fallR
  rw [List.length_append, List.length_append, List.length_take, List.length_drop]
  show min p rs.length + 2 + (rs.length - (p + 2)) = rs.length
  omega
def spCanPass (K : PySem.W.Frag) : Sp := fun vs H Q _ => ∃ (v : V) (rs : Row) (p : Nat), vs = [v, .int (p : Int)] ∧ RowAt K H v rs ∧ p < rs.length ∧ ∀ H', Ex H H' → Q (.bl (letsN rs p)) H'
def passL (rs : Row) : List V := given rs.length (letsN rs) (fun i => .int (i : Int))
def spRowOp (K : PySem.W.Frag) (C : Row → Nat → Prop) (g : Row → Nat → Row) : Sp := fun vs H Q _ => ∃ (v : V) (rs : Row) (p : Nat), vs = [v, .int (p : Int)] ∧ RowAt K H v rs ∧ rs.length ≤ 1000 ∧ C rs p ∧ ∀ v' H', Ex H H' → RowAt K H' v' (g rs p) → Q v' H'
def spPassed (K : PySem.W.Frag) : Sp := spRowOp K (fun rs p => 0 < p ∧ p < rs.length) passR
def spFallen (K : PySem.W.Frag) : Sp := spRowOp K (fun rs p => p + 1 < rs.length) fallR
end HH
set_option maxHeartbeats 4000000
namespace HH
open PySem PySem.Spec PyProof.Rows L2 Evl
section
variable {K : PySem.W.Frag} {σ : L2.St} {H H' : Hp} {ta tb te tx : TE} {x y z v : V} {D : Ends} {tz : TS}
theorem q_asgT2 {i j : Nat} {p : Addr} (h : Ev te σ H (.ref p)) (hp : SqT K H p [x, y]) (k : ∀ H1, Ex H H1 → tz D ((σ.set i (some x)).set j (some y)) H1) : tSeq (tAsg te (gTup K 2 (gCons (gName i) (gCons (gName j) gNil)))) tz D σ H :=
  h H (Ex.refl H) _ fun H1 e => ⟨p, [x, y], rfl, ex_t e hp, rfl, x, [y], rfl, y, [], rfl, rfl, k H1 e⟩
theorem q_asg12 {i j l : Nat} {p : Addr} {u : V} (h : Ev ta σ H u) (h2 : Ev tb σ H (.ref p)) (hp : SqT K H p [x, y]) (k : ∀ H1, Ex H H1 → tz D (((σ.set i (some u)).set j (some x)).set l (some y)) H1) :
    tSeq (tAsg (tTup (tCons ta (tCons tb tNil))) (gTup K 2 (gCons (gName i) (gCons (gTup K 2 (gCons (gName j) (gCons (gName l) gNil))) gNil)))) tz D σ H :=
  h H (Ex.refl H) _ fun H1 e => h2 H1 e _ fun H2 e2 => ⟨by show 2 ≤ sizeLine; decide, fun q hq => ⟨q, _, rfl, st_of upd_same, rfl, u, _, rfl, .ref p, [], rfl, ⟨p, [x, y], rfl, ex_t ((e.trans e2).trans (Ex.new hq)) hp, rfl, x, [y], rfl, y, [], rfl, rfl, rfl, k _ ((e.trans e2).trans (Ex.new hq))⟩⟩⟩
theorem q_asg21 {i j l : Nat} {p : Addr} {u : V} (h2 : Ev ta σ H (.ref p)) (h : Ev tb σ H u) (hp : SqT K H p [x, y]) (k : ∀ H1, Ex H H1 → tz D (((σ.set i (some x)).set j (some y)).set l (some u)) H1) :
    tSeq (tAsg (tTup (tCons ta (tCons tb tNil))) (gTup K 2 (gCons (gTup K 2 (gCons (gName i) (gCons (gName j) gNil))) (gCons (gName l) gNil)))) tz D σ H :=
  h2 H (Ex.refl H) _ fun H1 e => h H1 e _ fun H2 e2 => ⟨by show 2 ≤ sizeLine; decide, fun q hq => ⟨q, _, rfl, st_of upd_same, rfl, .ref p, _, rfl, ⟨p, [x, y], rfl, ex_t ((e.trans e2).trans (Ex.new hq)) hp, rfl, x, [y], rfl, y, [], rfl, rfl, u, [], rfl, rfl, k _ ((e.trans e2).trans (Ex.new hq))⟩⟩⟩
theorem sv_can_pass {rs : Row} {p : Nat} (h : RowAt K H v rs) (hp : p < rs.length) : SpV (spCanPass K) [v, .int (p : Int)] H (.bl (letsN rs p)) := fun H1 e Q q E => ⟨v, rs, p, rfl, h.ex e, hp, q⟩
end
end HH
set_option maxHeartbeats 4000000
namespace HH
open PySem PySem.Spec PyProof.Rows L2 Evl
theorem bits_le {i : Int} {n : Nat} (h : i.natAbs < 2 ^ n) : Builtin.Int.intBits i ≤ n := by
  unfold Builtin.Int.intBits
  split
  · exact Nat.zero_le _
  · rename_i z
    have hz : i.natAbs ≠ 0 := by
      intro e
      apply z
      have : i = 0 := by omega
      rw [this]
      rfl
    have := (Nat.log2_lt hz).mpr h
    omega
theorem pow_ok {i : Int} (h : i.natAbs < 2 ^ 4100) : CPowW i 5 := by
  refine ⟨by decide, ?_⟩
  have h1 := bits_le h
  have h2 : (Builtin.Int.intBits i : Int) ≤ 4100 := by omega
  have h3 : (2 : Int) ^ 27 = 134217728 := by decide
  rw [h3]
  omega
theorem mulW_ok {i j : Int} (h : i.natAbs < 2 ^ 4100) (g : j.natAbs < 2 ^ 4100) : CMulW i j := wide_mul h g (by decide) (by decide) (by decide)
theorem two_split : (2 : Nat) ^ 4100 = 2 ^ 4000 * 2 ^ 100 := by rw [← Nat.pow_add]
theorem big_of {c : Int} (h0 : 0 ≤ c) (h : c ≤ (Lim : Int) + 1) (k b : Int) (hk : 0 ≤ k) (hk2 : k ≤ 40000) (hb : 0 ≤ b) (hb2 : b ≤ 2 ^ 63) : (b + k * c).natAbs < 2 ^ 4100 := by
  have hl : Lim = 2 ^ 4000 := rfl
  have hp : 0 < (2 : Nat) ^ 4000 := Nat.pow_pos (by decide)
  rw [two_split]
  generalize (2 : Nat) ^ 4000 = L at *
  have h2 : c.toNat ≤ L + 1 := by omega
  have h3 : k.toNat * c.toNat ≤ 40000 * (L + 1) := Nat.mul_le_mul (by omega) h2
  have h4 : (b + k * c) = ((b.toNat + k.toNat * c.toNat : Nat) : Int) := by
    rw [Int.natCast_add, Int.natCast_mul, Int.toNat_of_nonneg hb, Int.toNat_of_nonneg hk, Int.toNat_of_nonneg h0]
  rw [h4, Int.natAbs_natCast]
  have h5 : b.toNat ≤ 2 ^ 63 := by omega
  have h6 : (2 : Nat) ^ 100 = 1267650600228229401496703205376 := by decide
  have h7 : (2 : Nat) ^ 63 = 9223372036854775808 := by decide
  rw [h6]
  rw [h7] at h5
  have h8 : L * 1267650600228229401496703205376 ≥ L * 40000 + L * 9223372036854775808 + L * 50000 := by omega
  omega
def spTake : Sp := fun vs H Q _ => ∃ (p : Addr) (m : Int) (n : Nat), vs = [.ref p, .int m] ∧ 0 < m ∧ m < 1073741824 ∧ Bx H p n ∧ n < Lim ∧ ∀ (r : Int) H', 0 ≤ r → r < m → ExB p H H' → Bx H' p (n + 1) → Q (.int r) H'
theorem divW_ok {i m : Int} (h : 0 < m) (g : m < 1073741824) : CDivW i m := wide_div h (show m.natAbs < 2 ^ 30 by
  have : (2 : Nat) ^ 30 = 1073741824 := by decide
  omega) (by decide) (by decide)
theorem fmod_lo {a m : Int} (h : 0 < m) : 0 ≤ a.fmod m := Int.fmod_nonneg_of_pos a h
theorem fmod_hi {a m : Int} (h : 0 < m) : a.fmod m < m := Int.fmod_lt_of_pos a h
end HH
set_option maxHeartbeats 4000000
namespace HH
open PySem PySem.Spec PyProof.Rows L2 Evl RZ
inductive TyN (K : PySem.W.Frag) (H : Hp) : V → String → Prop where
  | non : TyN K H .non "NoneType"
  | bl (b : Bool) : TyN K H (.bl b) "bool"
  | int (i : Int) : TyN K H (.int i) "int"
  | str (s : Str) : TyN K H (.str s) "str"
  | lst {a : Addr} {xs : List V} (e : SqL K H a xs) : TyN K H (.ref a) "list"
  | tup {a : Addr} {xs : List V} (e : SqT K H a xs) : TyN K H (.ref a) "tuple"
theorem TyN.ex {K : PySem.W.Frag} {H H' : Hp} {x : V} {t : String} (h : TyN K H x t) (e : Ex H H') : TyN K H' x t := by
  cases h with
  | non => exact .non
  | bl b => exact .bl b
  | int i => exact .int i
  | str s => exact .str s
  | lst h => exact .lst (ex_l e h)
  | tup h => exact .tup (ex_t e h)
theorem TyN.x {K : PySem.W.Frag} {H : Hp} {x : V} {t : String} (h : TyN K H x t) : TyX K H x (.type t) := by
  cases h with
  | non => exact .base .non
  | bl b => exact .base (.bl b)
  | int i => exact .base (.int i)
  | str s => exact .base (.str s)
  | lst h =>
    rcases h with (h | ⟨o, h⟩) | h
    · exact .base (.lst h)
    · exact .base (.frz h)
    · obtain ⟨o, _, _, h1, h2, _⟩ := h
      exact .kList h1 h2
  | tup h =>
    rcases h with (h | ⟨o, h⟩) | h
    · exact .base (.tup h)
    · exact .fTuple h
    · obtain ⟨o, _, _, h1, h2, _⟩ := h
      exact .kTuple h1 h2
section
variable {K : PySem.W.Frag} {σ : L2.St} {H H' : Hp} {ta tb te tx : TE} {x y z v : V} {D : Ends} {tz : TS}
theorem ev_isi {T C : String} {b : Bool} (h : Ev te σ H x) (ht : TyN K H x T) (k : kitB T C = some b) : Ev (tCB (rIsi K) (tCons te (tCons (tC (.ty C)) tNil))) σ H (.bl b) := fun H1 e Q q =>
  h H1 e _ fun H2 e2 => ⟨x, .ty C, .type T, .type C, b, rfl, .ty C, (ht.ex (e.trans e2)).x, kit_ty k, q H2 e2⟩
theorem ev_isiT {T C C2 : String} {b : Bool} (h : Ev te σ H x) (ht : TyN K H x T) (k : PySem.W.kitAny K (.type T) [.type C, .type C2] = some b) : Ev (tCB (rIsiT K) (tCons te (tCons (tTup (tCons (tC (.ty C)) (tCons (tC (.ty C2)) tNil))) tNil))) σ H (.bl b) := fun H1 e Q q =>
  h H1 e _ fun H2 e2 => ⟨by show 2 ≤ sizeLine; decide, fun p hp => ⟨x, p, [.ty C, .ty C2], .type T, [.type C, .type C2], b, rfl, upd_same, .cons (.ty C) (.cons (.ty C2) .nil), (ht.ex ((e.trans e2).trans (Ex.new hp))).x, k, q _ (e2.trans (Ex.new hp))⟩⟩
theorem rv_isN2 {b : Bool} (h : decide (x = V.non) = b) : RV (fun x y H Q => y = .non ∧ Q (.bl (decide (x = .non))) H) x .non H (.bl b) := fun H1 _ _ q => ⟨rfl, by rw [h]; exact q H1 (Ex.refl H1)⟩
end
theorem walk_zipT {K : PySem.W.Frag} {a b : Addr} {xs ys : List V} {n : Nat} (hn : n = min xs.length ys.length) : Walk (ItzT K a b) n (fun H => SqT K H a xs ∧ SqT K H b ys) (YPair (fun i => xs[i]?) (fun i => ys[i]?)) := by
  subst hn
  refine ⟨fun i _ hi q => ?_, fun _ q => ⟨xs, ys, q.1, q.2, by omega⟩, fun i H v H' _ q y => ?_⟩
  · have g1 : i < xs.length := by omega
    have g2 : i < ys.length := by omega
    exact ⟨xs, ys, xs[i], ys[i], q.1, q.2, by simp [g1], by simp [g2]⟩
  · obtain ⟨T, x, z, h1, h2, h3, h4, h5⟩ := y
    exact ⟨T, x, z, h1, h2, h3, h4 xs q.1, h5 ys q.2⟩
def Flat : V → Prop
  | .int _ => True
  | .bl _ => True
  | .str _ => True
  | .non => True
  | _ => False
def Alike (K : PySem.W.Frag) (H : Hp) : Nat → V → V → Prop
  | 0, _, _ => False
  | d + 1, x, y => (x = y ∧ Flat x) ∨ ∃ (a b : Addr) (xs ys : List V), x = .ref a ∧ y = .ref b ∧ ((SqL K H a xs ∧ SqL K H b ys) ∨ (SqT K H a xs ∧ SqT K H b ys)) ∧ xs.length = ys.length ∧ xs.length ≤ 40000 ∧
    ∀ (i : Nat) (u v : V), xs[i]? = some u → ys[i]? = some v → Alike K H d u v
theorem Alike.ex {K : PySem.W.Frag} {H H' : Hp} (e : Ex H H') : ∀ {d : Nat} {x y : V}, Alike K H d x y → Alike K H' d x y
  | 0, _, _, h => h
  | d + 1, x, y, h => by
    rcases h with h | ⟨a, b, xs, ys, h1, h2, h3, h4, h5, h6⟩
    · exact .inl h
    · refine .inr ⟨a, b, xs, ys, h1, h2, ?_, h4, h5, fun i u v hu hv => Alike.ex e (h6 i u v hu hv)⟩
      rcases h3 with h3 | h3
      · exact .inl ⟨ex_l e h3.1, ex_l e h3.2⟩
      · exact .inr ⟨ex_t e h3.1, ex_t e h3.2⟩
def spSame (K : PySem.W.Frag) (d : Nat) : Sp := fun vs H Q _ => ∃ x y, vs = [x, y] ∧ Alike K H d x y ∧ RetV (.bl true) H Q
theorem has_none {P : Program} {w : World} {K : PySem.W.Frag} {mg : Str → Option Value} {base : Heap} {f : Addr} {fd : FuncData} {ps : List Str} : FnOk P w K mg base CX0 0 f fd ps (spSame K 0) :=
  ⟨fun _ _ _ _ h => by obtain ⟨_, _, _, h, _⟩ := h; exact h.elim, fun _ _ _ _ _ _ _ _ _ _ _ _ _ h => by obtain ⟨_, _, _, h, _⟩ := h; exact h.elim⟩
section
variable {K : PySem.W.Frag} {σ : L2.St} {H H' : Hp}
theorem el_same {d : Nat} {a b : Addr} {xs ys : List V} (hl : xs.length = ys.length) (hz : xs.length ≤ 40000) (h3 : (SqL K H a xs ∧ SqL K H b ys) ∨ (SqT K H a xs ∧ SqT K H b ys)) (h6 : ∀ (i : Nat) (u v : V), xs[i]? = some u → ys[i]? = some v → Alike K H d u v) :
    EvL (tLc (iZipA K (tCons (tVar 0) (tCons (tVar 1) tNil))) (gTup K 2 (gCons (gName 2) (gCons (gName 3) gNil))) tYes (tCall (spSame K d) [] E0 (tCons (tVar 2) (tCons (tVar 3) tNil))) [2, 3]) [some (.ref a), some (.ref b), none, none] H ((List.replicate xs.length true).map V.bl) := fun H0 e Q q => by
  have turn : ∀ (Dl : Addr) (i : Nat) (x : V) (H1 H2 : Hp), H0 Dl = none → i < xs.length → (Ex H0 H1 ∧ H1 Dl = some (.lst ((List.replicate i true).map V.bl))) → YPair (fun i => xs[i]?) (fun i => ys[i]?) i H1 x H2 →
      gTup K 2 (gCons (gName 2) (gCons (gName 3) gNil)) x (wipe [some (.ref a), some (.ref b), none, none] [2, 3]) H2 fun σ2 H3 => wipe σ2 [2, 3] = wipe [some (.ref a), some (.ref b), none, none] [2, 3] ∧ tYes σ2 H3 fun b H4 =>
      if b = true then tCall (spSame K d) [] E0 (tCons (tVar 2) (tCons (tVar 3) tNil)) σ2 H4 fun y H5 => ∃ acc, H5 Dl = some (.lst acc) ∧ acc.length < sizeLine ∧ (Ex H0 (upd H5 Dl (.lst (acc ++ [y]))) ∧ (upd H5 Dl (.lst (acc ++ [y]))) Dl = some (.lst ((List.replicate (i + 1) true).map V.bl))) else (Ex H0 H4 ∧ H4 Dl = some (.lst ((List.replicate (i + 1) true).map V.bl))) := by
    intro Dl i x H1 H2 hD hi p y
    obtain ⟨T, u, v, rfl, nT, rfl, hu, hv⟩ := y
    refine ⟨T, [u, v], rfl, st_of upd_same, rfl, u, [v], rfl, v, [], rfl, rfl, rfl, ?_⟩
    show tCall (spSame K d) [] E0 (tCons (tVar 2) (tCons (tVar 3) tNil)) _ _ _
    have e2 : Ex H0 (upd H1 T (.tup [u, v])) := p.1.trans (Ex.new nT)
    refine ⟨u, rfl, v, rfl, u, v, rfl, (h6 i u v hu hv).ex (e.trans e2), fun H5 e5 => ⟨_, e5 _ _ ((Ex.new nT) _ _ p.2), ?_, ?_, ?_⟩⟩
    · rw [List.length_map, List.length_replicate]
      exact sz_lt (by omega)
    · exact Ex.mut (e2.trans e5) hD
    · rw [upd_same, List.replicate_succ', List.map_append]
      rfl
  rcases h3 with ⟨ha, hb⟩ | ⟨ha, hb⟩
  · refine ⟨.ref a, rfl, .ref b, rfl, a, b, xs, ys, rfl, .inl ⟨ex_l e ha, ex_l e hb, fun Dl hD => ?_⟩⟩
    refine lc_it (walk_zip (n := xs.length) (xs := xs) (ys := ys) (by omega)) (fun i H1 => Ex H0 H1 ∧ H1 Dl = some (.lst ((List.replicate i true).map V.bl))) ⟨Ex.new hD, upd_same⟩ (fun i H1 _ p => ⟨ex_l (e.trans p.1) ha, ex_l (e.trans p.1) hb⟩) (fun i x H1 H2 hi p y => turn Dl i x H1 H2 hD hi p y) (fun H1 p => q Dl H1 hD p.1 p.2)
  · refine ⟨.ref a, rfl, .ref b, rfl, a, b, xs, ys, rfl, .inr ⟨ex_t e ha, ex_t e hb, fun Dl hD => ?_⟩⟩
    refine lc_it (walk_zipT (n := xs.length) (xs := xs) (ys := ys) (by omega)) (fun i H1 => Ex H0 H1 ∧ H1 Dl = some (.lst ((List.replicate i true).map V.bl))) ⟨Ex.new hD, upd_same⟩ (fun i H1 _ p => ⟨ex_t (e.trans p.1) ha, ex_t (e.trans p.1) hb⟩) (fun i x H1 H2 hi p y => turn Dl i x H1 H2 hD hi p y) (fun H1 p => q Dl H1 hD p.1 p.2)
theorem ev_allT {n : Nat} {te : TE} (h : EvL te σ H ((List.replicate n true).map V.bl)) : Ev (tCB (rAll K) (tCons te tNil)) σ H (.bl true) := fun H1 e Q q =>
  h H1 e _ fun p H2 hp e2 h2 => ⟨p, List.replicate n true, rfl, sq_of h2, by
    have e3 : (List.replicate n true).all id = true := by
      rw [List.all_eq_true]
      intro x hx
      rw [(List.mem_replicate.mp hx).2]
      rfl
    rw [e3]
    exact q H2 e2⟩
theorem ev_lenA {a : Addr} {xs : List V} {te : TE} (h : Ev te σ H (.ref a)) (h3 : SqL K H a xs ∨ SqT K H a xs) : Ev (tCB (rLenS K) (tCons te tNil)) σ H (.int (xs.length : Int)) := fun H1 e Q q =>
  h H1 e _ fun H2 e2 => ⟨a, xs, rfl, by
    rcases h3 with h3 | h3
    · exact .inl (ex_l (e.trans e2) h3)
    · exact .inr (ex_t (e.trans e2) h3), q H2 e2⟩
end
theorem kit_list {K : PySem.W.Frag} : PySem.W.kitAny K (.type "list") [.type "list", .type "tuple"] = some true := kitAny_cons (b := true) (kit_ty (by decide +kernel)) (fun h => by cases h) (fun _ => rfl)
theorem kit_tuple {K : PySem.W.Frag} : PySem.W.kitAny K (.type "tuple") [.type "list", .type "tuple"] = some true := kitAny_cons (b := false) (kit_ty (by decide +kernel)) (fun _ => kitAny_cons (b := true) (kit_ty (by decide +kernel)) (fun h => by cases h) (fun _ => rfl)) (fun h => by cases h)
theorem kit_int {K : PySem.W.Frag} : PySem.W.kitAny K (.type "int") [.type "list", .type "tuple"] = some false := kitAny_cons (b := false) (kit_ty (by decide +kernel)) (fun _ => kitAny_cons (b := false) (kit_ty (by decide +kernel)) (fun _ => kitAny_nil) (fun h => by cases h)) (fun h => by cases h)
theorem kit_bool {K : PySem.W.Frag} : PySem.W.kitAny K (.type "bool") [.type "list", .type "tuple"] = some false := kitAny_cons (b := false) (kit_ty (by decide +kernel)) (fun _ => kitAny_cons (b := false) (kit_ty (by decide +kernel)) (fun _ => kitAny_nil) (fun h => by cases h)) (fun h => by cases h)
theorem kit_str {K : PySem.W.Frag} : PySem.W.kitAny K (.type "str") [.type "list", .type "tuple"] = some false := kitAny_cons (b := false) (kit_ty (by decide +kernel)) (fun _ => kitAny_cons (b := false) (kit_ty (by decide +kernel)) (fun _ => kitAny_nil) (fun h => by cases h)) (fun h => by cases h)
theorem kit_non {K : PySem.W.Frag} : PySem.W.kitAny K (.type "NoneType") [.type "list", .type "tuple"] = some false := kitAny_cons (b := false) (kit_ty (by decide +kernel)) (fun _ => kitAny_cons (b := false) (kit_ty (by decide +kernel)) (fun _ => kitAny_nil) (fun h => by cases h)) (fun h => by cases h)
end HH
set_option maxHeartbeats 4000000
namespace HH
open PySem PySem.Spec PyProof.Rows L2 Evl RZ
def spOf (K : PySem.W.Frag) : Sp := fun vs H Q _ => ∃ (p l : Addr) (xs : List V) (n : Nat), vs = [.ref p, .ref l] ∧ SqL K H l xs ∧ 0 < xs.length ∧ xs.length < 100000 ∧ l ≠ p ∧ Bx H p n ∧ n < Lim ∧ ∀ (r : Nat) (x : V) H', xs[r]? = some x → ExB p H H' → Bx H' p (n + 1) → Q x H'
def spDip (K : PySem.W.Frag) : Sp := fun vs H Q _ => ∃ (a : Addr) (k : Nat) (ns : List Int), vs = [.ref a, .int (k : Int)] ∧ SqL K H a (ns.map V.int) ∧ k ≤ 100 ∧ ∀ p H', H p = none → Ex H H' → Bx H' p 0 → Q (.ref p) H'
def spFolded (K : PySem.W.Frag) : Sp := fun vs H Q _ => ∃ (a : Addr) (m : Nat) (ns : List Int), vs = [.ref a, .int (m : Int)] ∧ 0 < m ∧ m ≤ 10 ∧ SqL K H a (ns.map V.int) ∧ ns.length ≤ 63 ∧ ∀ p H' (ms : List Int), H p = none → Ex H H' → ms.length ≤ m → H' p = some (.lst (ms.map V.int)) → Q (.ref p) H'
def Tame (b : Int × Int) : Prop := -(10 ^ 12) < b.1 ∧ b.1 < 10 ^ 12 ∧ 0 ≤ b.2 ∧ b.2 < 10 ^ 12
def spRow (K : PySem.W.Frag) : Sp := fun vs H Q _ => ∃ (p : Addr) (m : Nat) (n : Nat), vs = [.ref p, .int (m : Int)] ∧ 0 < m ∧ m ≤ 30 ∧ Bx H p n ∧ n + 100 < Lim ∧ ∀ v H' (rs : Row), ExB p H H' → Bx H' p (n + 100) → RowAt K H' v rs → 0 < rs.length → rs.length ≤ m → (∀ b ∈ rs, Tame b) → Q v H'
section
variable {K : PySem.W.Frag} {σ : L2.St} {H H' : Hp} {ta tb te tx : TE} {x y z v : V} {D : Ends} {tz : TS}
theorem el_listN {xs : List V} (ha : EvL ta σ H xs) : EvL (tCB (rListS K) (tCons ta tNil)) σ H xs := fun H1 e Q q =>
  ha H1 e _ fun p H2 hp e2 h2 => ⟨p, xs, rfl, .inl (sq_of h2), fun l hl => q l _ (fresh_back e2 hl) (e2.trans (Ex.new hl)) upd_same⟩
theorem rc_abs {i : Int} : RC (fun xs H Q => ∃ i, xs = [.int i] ∧ Q (.int (if i < 0 then -i else i)) H) [.int i] H (.int (if i < 0 then -i else i)) := fun H1 _ _ q => ⟨i, rfl, q H1 (Ex.refl H1)⟩
theorem rc_intB {b : Bool} : RC (fun xs H Q => (∃ i, xs = [.int i] ∧ Q (.int i) H) ∨ ∃ k, xs = [.bl k] ∧ Q (.int (if k then 1 else 0)) H) [.bl b] H (.int (if b then 1 else 0)) := fun H1 _ _ q => .inr ⟨b, rfl, q H1 (Ex.refl H1)⟩
end
theorem at_ints {zs : List Int} {w : Int} (h0 : 0 ≤ w) (h1 : w < zs.length) : ∃ z, z ∈ zs ∧ atI (zs.map V.int) w = some (.int z) := by
  obtain ⟨k, rfl⟩ := Int.eq_ofNat_of_zero_le h0
  have hk : k < zs.length := by omega
  refine ⟨zs[k], List.getElem_mem hk, atI_nat ?_⟩
  rw [List.getElem?_map, List.getElem?_eq_getElem hk] <;> rfl
theorem b01 (b : Bool) : -(2 ^ 64) < (if b = true then (1 : Int) else 0) ∧ (if b = true then (1 : Int) else 0) < 2 ^ 64 := by
  cases b <;> decide
theorem b01n (b : Bool) : 0 ≤ (if b = true then (1 : Int) else 0) := by
  cases b <;> decide
theorem cut_ints (ns : List Int) (lo hi : Option Int) : ∃ ms : List Int, cutV (ns.map V.int) lo hi = ms.map V.int ∧ ms.length ≤ ns.length - HT.sIx ns.length 0 lo := by
  refine ⟨(ns.drop (HT.sIx ns.length 0 lo)).take (HT.sIx ns.length ns.length hi - HT.sIx ns.length 0 lo), ?_, ?_⟩
  · unfold cutV
    rw [List.length_map, List.map_take, List.map_drop]
  · rw [List.length_take, List.length_drop]
    omega
section
variable {K : PySem.W.Frag} {σ : L2.St} {H H' : Hp} {D : Ends} {tz tu : TS} {g : TG}
theorem q_forE {xs : List V} {tl : TE} (h : EvL tl σ H xs) (Pv : Addr → Nat → L2.St → Hp → Prop) (h0 : ∀ c H1, H c = none → Ex H H1 → H1 c = some (.lst xs) → Pv c 0 σ H1) (hl : ∀ c i σ' H', i ≤ xs.length → Pv c i σ' H' → SqL K H' c xs)
    (hs : ∀ c i x σ' H' T, xs[i]? = some x → Pv c i σ' H' → H' T = none → g (.ref T) σ' (upd H' T (.tup [.int (i : Nat), x])) fun σ2 H2 => tu { D with nx := Pv c (i + 1), ct := Pv c (i + 1), bk := tz D } σ2 H2) (hd : ∀ c σ' H', Pv c xs.length σ' H' → tz D σ' H') : tSeq (tFor (iEnum K (tCons tl tNil)) g tu) tz D σ H :=
  h H (Ex.refl H) _ fun c H1 hc e h1 => ⟨c, xs, rfl, sq_of h1, for_it (walk_enum (xs := xs)) (D := { D with nx := tz D }) (Pv c) (h0 c H1 hc e h1) (hl c) (fun i x σ' H' H2 hi p y => by
    obtain ⟨T, u, z, rfl, nT, rfl, hu, hz⟩ := y
    cases hu
    exact hs c i z σ' H' T hz p nT) (hd c)⟩
end
theorem fmod_nat (i m : Nat) : ((i : Nat) : Int).fmod ((m : Nat) : Int) = ((i % m : Nat) : Int) := by
  rw [Int.fmod_eq_emod_of_nonneg _ (Int.natCast_nonneg m)]
  rfl
theorem ExB.back {b p : Addr} {H H' : Hp} (e : ExB b H H') (h : H' p = none) (n : p ≠ b) : H p = none := by
  cases z : H p with
  | none => rfl
  | some o =>
    rw [e p o n z] at h
    cases h
theorem mul_bd {r i : Int} (h0 : 0 ≤ r) (h1 : r ≤ 3) (g0 : 0 ≤ i) (g1 : i ≤ 40) : 0 ≤ r * i ∧ r * i ≤ 120 :=
  ⟨Int.mul_nonneg h0 g0, Int.le_trans (Int.mul_le_mul h1 g1 g0 (by decide)) (by decide)⟩
end HH
set_option maxHeartbeats 4000000
namespace HH
open PySem PySem.Spec PyProof.Rows L2 Evl RZ
def Nice (k : Nat) (d : PyData) : Prop := d.canLay0 = true ∧ d.depth ≤ k
theorem nice_all {k : Nat} : ∀ {ds : List PyData}, (∀ d ∈ ds, Nice k d) → PyData.canLayAll0 ds = true ∧ PyData.depthAll ds ≤ k
  | [], _ => ⟨by simp [PyData.canLayAll0], by simp [PyData.depthAll]⟩
  | d :: ds, h => by
    have h1 := h d (List.mem_cons_self ..)
    have h2 := nice_all (fun e he => h e (List.mem_cons_of_mem _ he))
    refine ⟨by simp [PyData.canLayAll0, h1.1, h2.1], ?_⟩
    have e : PyData.depthAll (d :: ds) = max d.depth (PyData.depthAll ds) := by simp [PyData.depthAll]
    rw [e]
    have := h1.2
    have := h2.2
    omega
theorem nice_int (k : Nat) (i : Int) : Nice k (.int i) := ⟨by simp [PyData.canLay0], by simp [PyData.depth]⟩
theorem nice_list {k : Nat} {ds : List PyData} (h : ∀ d ∈ ds, Nice k d) : Nice (k + 1) (.list ds) := ⟨by simp [PyData.canLay0, (nice_all h).1], by
  have := (nice_all h).2
  simp [PyData.depth]
  omega⟩
theorem nice_tuple {k : Nat} {ds : List PyData} (h : ∀ d ∈ ds, Nice k d) : Nice (k + 1) (.tuple ds) := ⟨by simp [PyData.canLay0, (nice_all h).1], by
  have := (nice_all h).2
  simp [PyData.depth]
  omega⟩
theorem Nice.shaped {k : Nat} {d : PyData} (h : Nice k d) (hk : k ≤ 64) : SeqAt.shaped d = true := by
  unfold SeqAt.shaped
  rw [h.1, decide_eq_true (Nat.le_trans h.2 hk)]
  rfl
theorem dp_ints {K : PySem.W.Frag} {H : Hp} : ∀ ns : List Int, DpAll K H (ns.map V.int) (ns.map PyData.int)
  | [] => .nil
  | n :: ns => .cons (.int n) (dp_ints ns)
theorem nice_ints (ns : List Int) : ∀ d ∈ ns.map PyData.int, Nice 0 d := fun d hd => by
  obtain ⟨i, _, rfl⟩ := List.mem_map.mp hd
  exact nice_int 0 i
mutual
theorem dp_ex {K : PySem.W.Frag} {H H' : Hp} (e : Ex H H') : ∀ {v : V} {d : PyData}, Dp K H v d → Dp K H' v d
  | _, _, .non => .non
  | _, _, .bl b => .bl b
  | _, _, .int i => .int i
  | _, _, .str x => .str x
  | _, _, .lst h g => .lst (ex_l e h) (dps_ex e g)
  | _, _, .tup h g => .tup (ex_t e h) (dps_ex e g)
theorem dps_ex {K : PySem.W.Frag} {H H' : Hp} (e : Ex H H') : ∀ {v : List V} {d : List PyData}, DpAll K H v d → DpAll K H' v d
  | _, _, .nil => .nil
  | _, _, .cons h g => .cons (dp_ex e h) (dps_ex e g)
end
theorem dps_len {K : PySem.W.Frag} {H : Hp} : ∀ {v : List V} {d : List PyData}, DpAll K H v d → v.length = d.length
  | _, _, .nil => rfl
  | _, _, .cons h g => by
    rw [List.length_cons, List.length_cons, dps_len g]
section
variable {K : PySem.W.Frag} {σ : L2.St} {H H' : Hp} {te : TE}
theorem et_neNil {k : Nat} {a : Addr} {xs : List V} {ds : List PyData} (h : Ev te σ H (.ref a)) (ha : SqL K H a xs) (hd : DpAll K H xs ds) (hn : ∀ d ∈ ds, Nice k d) (hk : k < 64) : EvT (tTest (tOp (rNeD K) te (tLst tNil))) σ H (!xs.isEmpty) := fun H1 e Q q =>
  h H1 e _ fun H2 e2 => ⟨by show 0 ≤ sizeLine; decide, fun p hp => by
    have e3 := (e.trans e2).trans (Ex.new (o := .lst []) hp)
    refine ⟨.list ds, .list [], .lst (ex_l e3 ha) (dps_ex e3 hd), .lst (sq_of upd_same) .nil, (nice_list hn).shaped (by omega), (nice_list (k := 0) (fun d h => by cases h)).shaped (by omega), _, rfl, ?_⟩
    have e4 : PyData.eqv (.list ds) (.list []) = xs.isEmpty := by
      have hl := dps_len hd
      cases ds with
      | nil =>
        have : xs = [] := List.length_eq_zero_iff.mp hl
        subst this
        simp [PyData.eqv, PyData.eqvAll]
      | cons d ds =>
        cases xs with
        | nil => cases hl
        | cons x xs => simp [PyData.eqv, PyData.eqvAll]
    rw [e4]
    exact q _ (e2.trans (Ex.new hp))⟩
end
theorem sS_at {pre post : Row} {x y : Int × Int} : sS (pre ++ x :: y :: post) pre.length = x.1 ∧ tS (pre ++ x :: y :: post) pre.length = x.2 ∧ sS (pre ++ x :: y :: post) (pre.length + 1) = y.1 ∧ tS (pre ++ x :: y :: post) (pre.length + 1) = y.2 := by
  unfold sS tS
  have h1 : (pre ++ x :: y :: post)[pre.length]? = some x := by
    rw [List.getElem?_append_right (Nat.le_refl _), Nat.sub_self]
    rfl
  have h2 : (pre ++ x :: y :: post)[pre.length + 1]? = some y := by
    rw [List.getElem?_append_right (by omega), show pre.length + 1 - pre.length = 1 by omega]
    rfl
  rw [h1, h2]
  exact ⟨rfl, rfl, rfl, rfl⟩
theorem split_take {pre post : Row} {x y : Int × Int} : (pre ++ x :: y :: post).take pre.length = pre ∧ (pre ++ x :: y :: post).drop (pre.length + 2) = post := by
  constructor
  · rw [List.take_append_of_le_length (Nat.le_refl _), List.take_length]
  · rw [← List.drop_drop, List.drop_append_of_le_length (Nat.le_refl _), List.drop_length]
    rfl
theorem pass_split {pre post : Row} {x y : Int × Int} : passR (pre ++ x :: y :: post) (pre.length + 1) = pre ++ (y.1 - x.2, y.2) :: x :: post := by
  unfold passR
  obtain ⟨h1, h2, h3, h4⟩ := sS_at (pre := pre) (post := post) (x := x) (y := y)
  obtain ⟨g1, g2⟩ := split_take (pre := pre) (post := post) (x := x) (y := y)
  rw [Nat.add_sub_cancel, h1, h2, h3, h4, g1, show pre.length + 1 + 1 = pre.length + 2 from rfl, g2, List.append_assoc]
  rfl
theorem fall_split {pre post : Row} {x y : Int × Int} : fallR (pre ++ x :: y :: post) pre.length = pre ++ y :: (x.1 + y.2, x.2) :: post := by
  unfold fallR
  obtain ⟨h1, h2, h3, h4⟩ := sS_at (pre := pre) (post := post) (x := x) (y := y)
  obtain ⟨g1, g2⟩ := split_take (pre := pre) (post := post) (x := x) (y := y)
  rw [h1, h2, h3, h4, g1, g2, List.append_assoc]
  rfl
theorem lets_split {pre post : Row} {x y : Int × Int} : letsN (pre ++ x :: y :: post) (pre.length + 1) = decide (y.1 - x.2 > x.1) := by
  unfold letsN
  obtain ⟨h1, h2, h3, h4⟩ := sS_at (pre := pre) (post := post) (x := x) (y := y)
  rw [Nat.add_sub_cancel, h1, h2, h3, decide_eq_true (Nat.succ_pos _), Bool.true_and]
theorem falls_split {pre post : Row} {x y : Int × Int} : fallsN (pre ++ x :: y :: post) pre.length = decide (x.1 > y.1) := by
  unfold fallsN
  obtain ⟨h1, h2, h3, h4⟩ := sS_at (pre := pre) (post := post) (x := x) (y := y)
  rw [h1, h3]
def tsum : Row → Int
  | [] => 0
  | b :: r => b.2 + tsum r
end HH
set_option maxHeartbeats 4000000
namespace HH
abbrev Cow := Nat × (Int × Int)
def Chk (id : Nat) : Int → List Cow → Prop
  | _, [] => True
  | c, y :: r => (y.1 < id → y.2.1 < c) ∧ Chk id (if y.1 < id then c + y.2.2 else c) r
def PInv : List Cow → Prop
  | [] => True
  | x :: r => Chk x.1 (x.2.1 + x.2.2) r ∧ PInv r
def FChk (id : Nat) : Int → List Cow → Prop
  | _, [] => True
  | c, y :: r => (y.1 < id → c < y.2.1) ∧ FChk id (if id < y.1 then c + y.2.2 else c) r
def FInv : List Cow → Prop
  | [] => True
  | x :: r => FChk x.1 x.2.1 r ∧ FInv r
def tag : Nat → Row → List Cow
  | _, [] => []
  | k, b :: r => (k, b) :: tag (k + 1) r
theorem tag_snd : ∀ (k : Nat) (rs : Row), (tag k rs).map (·.2) = rs
  | _, [] => rfl
  | k, b :: r => by
    show b :: (tag (k + 1) r).map (·.2) = b :: r
    rw [tag_snd]
theorem tag_fst : ∀ (k : Nat) (rs : Row), (tag k rs).map (·.1) = (List.range rs.length).map (k + ·)
  | _, [] => rfl
  | k, b :: r => by
    show k :: (tag (k + 1) r).map (·.1) = (List.range (r.length + 1)).map (k + ·)
    rw [tag_fst, List.range_succ_eq_map, List.map_cons, List.map_map]
    have e : (List.range r.length).map (fun x => k + 1 + x) = (List.range r.length).map ((fun x => k + x) ∘ Nat.succ) := List.map_congr_left fun i _ => by
      show k + 1 + i = k + (i + 1)
      omega
    rw [e]
    rfl
theorem tag_len (k : Nat) (rs : Row) : (tag k rs).length = rs.length := by
  have := congrArg List.length (tag_snd k rs)
  rw [List.length_map] at this
  exact this
theorem chk_tag : ∀ (id k : Nat) (c : Int) (rs : Row), id ≤ k → Chk id c (tag k rs)
  | _, _, _, [], _ => True.intro
  | id, k, c, b :: r, h => by
    refine ⟨fun h1 => ?_, ?_⟩
    · have h2 : k < id := h1
      omega
    · rw [if_neg (show ¬ k < id by omega)]
      exact chk_tag id (k + 1) c r (by omega)
theorem fchk_tag : ∀ (id k : Nat) (c : Int) (rs : Row), id ≤ k → FChk id c (tag k rs)
  | _, _, _, [], _ => True.intro
  | id, k, c, b :: r, h => by
    refine ⟨fun h1 => ?_, fchk_tag id (k + 1) _ r (by omega)⟩
    have h2 : k < id := h1
    omega
theorem pinv_tag : ∀ (k : Nat) (rs : Row), PInv (tag k rs)
  | _, [] => True.intro
  | k, b :: r => ⟨chk_tag k (k + 1) _ r (by omega), pinv_tag (k + 1) r⟩
theorem finv_tag : ∀ (k : Nat) (rs : Row), FInv (tag k rs)
  | _, [] => True.intro
  | k, b :: r => ⟨fchk_tag k (k + 1) _ r (by omega), finv_tag (k + 1) r⟩
theorem pinv_tail : ∀ {pre post : List Cow}, PInv (pre ++ post) → PInv post
  | [], _, h => h
  | _ :: pre, _, h => pinv_tail (pre := pre) h.2
theorem finv_tail : ∀ {pre post : List Cow}, FInv (pre ++ post) → FInv post
  | [], _, h => h
  | _ :: pre, _, h => finv_tail (pre := pre) h.2
theorem pinv_lt {pre post : List Cow} {a b : Cow} (h : PInv (pre ++ a :: b :: post)) (hp : b.2.1 - a.2.2 > a.2.1) (hne : a.1 ≠ b.1) : a.1 < b.1 := by
  have h1 := (pinv_tail h).1.1
  rcases Nat.lt_or_ge a.1 b.1 with h2 | h2
  · exact h2
  · have := h1 (by omega)
    omega
theorem finv_lt {pre post : List Cow} {a b : Cow} (h : FInv (pre ++ a :: b :: post)) (hp : a.2.1 > b.2.1) (hne : a.1 ≠ b.1) : a.1 < b.1 := by
  have h1 := (finv_tail h).1.1
  rcases Nat.lt_or_ge a.1 b.1 with h2 | h2
  · exact h2
  · have := h1 (by omega)
    omega
theorem chk_pass {id : Nat} {a b : Cow} {post : List Cow} (hab : a.1 < b.1) (ht : 0 ≤ b.2.2) (hp : b.2.1 - a.2.2 > a.2.1) : ∀ {pre : List Cow} {c : Int}, Chk id c (pre ++ a :: b :: post) → Chk id c (pre ++ (b.1, (b.2.1 - a.2.2, b.2.2)) :: a :: post)
  | [], c, h => by
    obtain ⟨h1, h2, h3⟩ := h
    show (b.1 < id → b.2.1 - a.2.2 < c) ∧ (a.1 < id → a.2.1 < if b.1 < id then c + b.2.2 else c) ∧ Chk id _ post
    by_cases hb : b.1 < id
    · have ha : a.1 < id := by omega
      rw [if_pos ha] at h2 h3
      rw [if_pos hb] at h3 ⊢
      have g1 := h1 ha
      have g2 := h2 hb
      refine ⟨fun _ => by omega, fun _ => by omega, ?_⟩
      rw [if_pos ha]
      have e : c + b.2.2 + a.2.2 = c + a.2.2 + b.2.2 := by omega
      show Chk id (c + b.2.2 + a.2.2) post
      rw [e]
      exact h3
    · rw [if_neg hb] at h3 ⊢
      refine ⟨fun z => absurd z hb, h1, ?_⟩
      exact h3
  | x :: pre, c, h => ⟨h.1, chk_pass hab ht hp (pre := pre) h.2⟩
theorem fchk_fall {id : Nat} {a b : Cow} {post : List Cow} (hab : a.1 < b.1) (ht : 0 ≤ b.2.2) (hp : a.2.1 > b.2.1) : ∀ {pre : List Cow} {c : Int}, FChk id c (pre ++ a :: b :: post) → FChk id c (pre ++ b :: (a.1, (a.2.1 + b.2.2, a.2.2)) :: post)
  | [], c, h => by
    obtain ⟨h1, h2, h3⟩ := h
    show (b.1 < id → c < b.2.1) ∧ (a.1 < id → (if id < b.1 then c + b.2.2 else c) < a.2.1 + b.2.2) ∧ FChk id (if id < a.1 then (if id < b.1 then c + b.2.2 else c) + a.2.2 else (if id < b.1 then c + b.2.2 else c)) post
    by_cases ha : id < a.1
    · have hb : id < b.1 := by omega
      rw [if_pos ha] at h2 h3
      rw [if_pos hb] at h3
      rw [if_pos ha, if_pos hb]
      refine ⟨fun z => by omega, fun z => by omega, ?_⟩
      have e : c + b.2.2 + a.2.2 = c + a.2.2 + b.2.2 := by omega
      rw [e]
      exact h3
    · rw [if_neg ha] at h2 h3
      rw [if_neg ha]
      by_cases hb : id < b.1
      · rw [if_pos hb] at h3
        rw [if_pos hb]
        refine ⟨fun z => by omega, fun z => ?_, h3⟩
        have := h1 z
        omega
      · rw [if_neg hb] at h3
        rw [if_neg hb]
        refine ⟨h2, fun z => ?_, h3⟩
        have := h1 z
        omega
  | x :: pre, c, h => ⟨h.1, fchk_fall hab ht hp (pre := pre) h.2⟩
theorem pinv_pass {a b : Cow} {post : List Cow} (hab : a.1 < b.1) (ht : 0 ≤ b.2.2) (hp : b.2.1 - a.2.2 > a.2.1) : ∀ {pre : List Cow}, PInv (pre ++ a :: b :: post) → PInv (pre ++ (b.1, (b.2.1 - a.2.2, b.2.2)) :: a :: post)
  | [], h => by
    obtain ⟨⟨_, h1⟩, h2, h3⟩ := h
    rw [if_neg (show ¬ b.1 < a.1 by omega)] at h1
    refine ⟨⟨fun _ => ?_, ?_⟩, h1, h3⟩
    · show a.2.1 < b.2.1 - a.2.2 + b.2.2
      omega
    · show Chk b.1 (if a.1 < b.1 then b.2.1 - a.2.2 + b.2.2 + a.2.2 else _) post
      rw [if_pos hab]
      have e : b.2.1 - a.2.2 + b.2.2 + a.2.2 = b.2.1 + b.2.2 := by omega
      rw [e]
      exact h2
  | x :: pre, h => ⟨chk_pass hab ht hp h.1, pinv_pass hab ht hp (pre := pre) h.2⟩
theorem finv_fall {a b : Cow} {post : List Cow} (hab : a.1 < b.1) (ht : 0 ≤ b.2.2) (hp : a.2.1 > b.2.1) : ∀ {pre : List Cow}, FInv (pre ++ a :: b :: post) → FInv (pre ++ b :: (a.1, (a.2.1 + b.2.2, a.2.2)) :: post)
  | [], h => by
    obtain ⟨⟨_, h1⟩, h2, h3⟩ := h
    rw [if_pos hab] at h1
    refine ⟨⟨fun _ => ?_, ?_⟩, h1, h3⟩
    · show b.2.1 < a.2.1 + b.2.2
      omega
    · show FChk b.1 (if b.1 < a.1 then b.2.1 + a.2.2 else b.2.1) post
      rw [if_neg (by omega)]
      exact h2
  | x :: pre, h => ⟨fchk_fall hab ht hp h.1, finv_fall hab ht hp (pre := pre) h.2⟩
def cnt (a : Nat) : List Nat → Nat
  | [] => 0
  | y :: r => (if a < y then 1 else 0) + cnt a r
def asc : List Nat → Nat
  | [] => 0
  | a :: r => cnt a r + asc r
theorem cnt_swap {x a b : Nat} {post : List Nat} : ∀ pre : List Nat, cnt x (pre ++ a :: b :: post) = cnt x (pre ++ b :: a :: post)
  | [] => by
    show (if x < a then 1 else 0) + ((if x < b then 1 else 0) + cnt x post) = (if x < b then 1 else 0) + ((if x < a then 1 else 0) + cnt x post)
    omega
  | y :: pre => by
    show (if x < y then 1 else 0) + cnt x (pre ++ a :: b :: post) = (if x < y then 1 else 0) + cnt x (pre ++ b :: a :: post)
    rw [cnt_swap pre]
theorem asc_swap {a b : Nat} {post : List Nat} (h : a < b) : ∀ pre : List Nat, asc (pre ++ a :: b :: post) = asc (pre ++ b :: a :: post) + 1
  | [] => by
    show ((if a < b then 1 else 0) + cnt a post) + (cnt b post + asc post) = ((if b < a then 1 else 0) + cnt b post) + (cnt a post + asc post) + 1
    rw [if_pos h, if_neg (by omega)]
    omega
  | x :: pre => by
    show cnt x (pre ++ a :: b :: post) + asc (pre ++ a :: b :: post) = cnt x (pre ++ b :: a :: post) + asc (pre ++ b :: a :: post) + 1
    rw [cnt_swap pre, asc_swap h pre]
    omega
theorem cnt_le (a : Nat) : ∀ l : List Nat, cnt a l ≤ l.length
  | [] => Nat.le_refl _
  | y :: r => by
    show (if a < y then 1 else 0) + cnt a r ≤ r.length + 1
    have := cnt_le a r
    split <;> omega
theorem asc_le : ∀ l : List Nat, asc l ≤ l.length * l.length
  | [] => Nat.le_refl _
  | a :: r => by
    show cnt a r + asc r ≤ (r.length + 1) * (r.length + 1)
    have h1 := cnt_le a r
    have h2 := asc_le r
    have e : (r.length + 1) * (r.length + 1) = r.length * r.length + 2 * r.length + 1 := by
      rw [Nat.add_mul, Nat.mul_add]
      omega
    omega
inductive PRun (L0 : List Cow) : List Cow → List (Int × Int) → Prop
  | nil : PRun L0 L0 []
  | step {pre post : List Cow} {a b : Cow} {ps : List (Int × Int)} : PRun L0 (pre ++ a :: b :: post) ps → b.2.1 - a.2.2 > a.2.1 → PRun L0 (pre ++ (b.1, (b.2.1 - a.2.2, b.2.2)) :: a :: post) (ps ++ [((a.1 : Int), (b.1 : Int))])
inductive FRun (L0 : List Cow) : List Cow → List (Int × Int) → Prop
  | nil : FRun L0 L0 []
  | step {pre post : List Cow} {a b : Cow} {ps : List (Int × Int)} : FRun L0 (pre ++ a :: b :: post) ps → a.2.1 > b.2.1 → FRun L0 (pre ++ b :: (a.1, (a.2.1 + b.2.2, a.2.2)) :: post) (ps ++ [((a.1 : Int), (b.1 : Int))])
structure Facts (n : Nat) (L : List Cow) (ps : List (Int × Int)) : Prop where
  len : L.length = n
  tl : ∀ x ∈ L, 0 ≤ x.2.2
  nd : (L.map (·.1)).Nodup
  few : ps.length + asc (L.map (·.1)) ≤ n * n
theorem nd_ne {pre post : List Cow} {a b : Cow} (h : ((pre ++ a :: b :: post).map (·.1)).Nodup) : a.1 ≠ b.1 := by
  rw [List.map_append] at h
  have h1 := (List.nodup_append.mp h).2.1
  intro e
  have h2 := (List.nodup_cons.mp h1).1
  apply h2
  show a.1 ∈ b.1 :: post.map (·.1)
  rw [e]
  exact List.mem_cons_self ..
theorem nd_swap {pre post : List Cow} {a b : Cow} {u v : Int × Int} (h : ((pre ++ a :: b :: post).map (·.1)).Nodup) : ((pre ++ (b.1, u) :: (a.1, v) :: post).map (·.1)).Nodup := by
  rw [List.map_append] at h ⊢
  refine (List.Perm.nodup_iff ?_).mp h
  exact List.Perm.append_left _ (List.Perm.swap ..)
theorem asc_step {pre post : List Cow} {a b : Cow} {u v : Int × Int} (h : a.1 < b.1) : asc ((pre ++ a :: b :: post).map (·.1)) = asc ((pre ++ (b.1, u) :: (a.1, v) :: post).map (·.1)) + 1 := by
  rw [List.map_append, List.map_append]
  exact asc_swap h (pre.map (·.1))
theorem facts_tag {rs : Row} (h : ∀ b ∈ rs, 0 ≤ b.2) : Facts rs.length (tag 0 rs) [] := by
  refine ⟨tag_len 0 rs, fun x hx => ?_, ?_, ?_⟩
  · apply h
    rw [← tag_snd 0 rs]
    exact List.mem_map_of_mem (f := (·.2)) hx
  · rw [tag_fst]
    have e : (fun x => 0 + x) = (id : Nat → Nat) := by
      funext x
      exact Nat.zero_add x
    rw [e, List.map_id]
    exact List.nodup_range
  · have := asc_le ((tag 0 rs).map (·.1))
    rw [List.length_map, tag_len] at this
    show 0 + asc _ ≤ _
    omega
theorem facts_pass {n : Nat} {pre post : List Cow} {a b : Cow} {ps : List (Int × Int)} {q : Int × Int} (f : Facts n (pre ++ a :: b :: post) ps) (i : PInv (pre ++ a :: b :: post)) (hp : b.2.1 - a.2.2 > a.2.1) :
    Facts n (pre ++ (b.1, (b.2.1 - a.2.2, b.2.2)) :: a :: post) (ps ++ [q]) ∧ PInv (pre ++ (b.1, (b.2.1 - a.2.2, b.2.2)) :: a :: post) ∧ asc ((pre ++ (b.1, (b.2.1 - a.2.2, b.2.2)) :: a :: post).map (·.1)) < asc ((pre ++ a :: b :: post).map (·.1)) := by
  have hab := pinv_lt i hp (nd_ne f.nd)
  have hs := asc_step (pre := pre) (post := post) (a := a) (b := b) (u := (b.2.1 - a.2.2, b.2.2)) (v := a.2) hab
  have hb := f.tl b (by simp)
  have ha := f.tl a (by simp)
  refine ⟨⟨?_, fun x hx => ?_, nd_swap (v := a.2) f.nd, ?_⟩, pinv_pass hab hb hp i, ?_⟩
  · rw [← f.len, List.length_append, List.length_append]
    rfl
  · rcases List.mem_append.mp hx with h | h
    · exact f.tl x (List.mem_append_left _ h)
    · rcases List.mem_cons.mp h with rfl | h
      · exact hb
      · rcases List.mem_cons.mp h with rfl | h
        · exact ha
        · exact f.tl x (by simp [h])
  · have := f.few
    rw [List.length_append]
    show ps.length + 1 + asc ((pre ++ (b.1, (b.2.1 - a.2.2, b.2.2)) :: (a.1, a.2) :: post).map (·.1)) ≤ n * n
    omega
  · show asc ((pre ++ (b.1, (b.2.1 - a.2.2, b.2.2)) :: (a.1, a.2) :: post).map (·.1)) < _
    omega
theorem facts_fall {n : Nat} {pre post : List Cow} {a b : Cow} {ps : List (Int × Int)} {q : Int × Int} (f : Facts n (pre ++ a :: b :: post) ps) (i : FInv (pre ++ a :: b :: post)) (hp : a.2.1 > b.2.1) :
    Facts n (pre ++ b :: (a.1, (a.2.1 + b.2.2, a.2.2)) :: post) (ps ++ [q]) ∧ FInv (pre ++ b :: (a.1, (a.2.1 + b.2.2, a.2.2)) :: post) ∧ asc ((pre ++ b :: (a.1, (a.2.1 + b.2.2, a.2.2)) :: post).map (·.1)) < asc ((pre ++ a :: b :: post).map (·.1)) := by
  have hab := finv_lt i hp (nd_ne f.nd)
  have hs := asc_step (pre := pre) (post := post) (a := a) (b := b) (u := b.2) (v := (a.2.1 + b.2.2, a.2.2)) hab
  have hb := f.tl b (by simp)
  have ha := f.tl a (by simp)
  refine ⟨⟨?_, fun x hx => ?_, nd_swap (u := b.2) f.nd, ?_⟩, finv_fall hab hb hp i, ?_⟩
  · rw [← f.len, List.length_append, List.length_append]
    rfl
  · rcases List.mem_append.mp hx with h | h
    · exact f.tl x (List.mem_append_left _ h)
    · rcases List.mem_cons.mp h with rfl | h
      · exact hb
      · rcases List.mem_cons.mp h with rfl | h
        · exact ha
        · exact f.tl x (by simp [h])
  · have := f.few
    rw [List.length_append]
    show ps.length + 1 + asc ((pre ++ (b.1, b.2) :: (a.1, (a.2.1 + b.2.2, a.2.2)) :: post).map (·.1)) ≤ n * n
    omega
  · show asc ((pre ++ (b.1, b.2) :: (a.1, (a.2.1 + b.2.2, a.2.2)) :: post).map (·.1)) < _
    omega
end HH
set_option maxHeartbeats 4000000
namespace HH
open PySem PySem.Spec PyProof.Rows L2 Evl RZ
def rowsOf (L : List Cow) : HH.Row := L.map (·.2)
def ordL (L : List Cow) : List V := L.map fun x => V.int (x.1 : Int)
theorem RowAt.exL {K : PySem.W.Frag} {H H' : Hp} {v : V} {rs : HH.Row} {q : Addr} {ys : List V} (h : RowAt K H v rs) (e : ExB q H H') (hy : H q = some (.lst ys)) : RowAt K H' v rs := by
  obtain ⟨a, vs, h1, h2, h3⟩ := h
  exact ⟨a, vs, h1, e.t hy h2, h3.exB e hy⟩
theorem cow_len (L : List Cow) : (rowsOf L).length = L.length := List.length_map ..
theorem cow_split {L : List Cow} {p : Nat} (h : p + 1 < L.length) : ∃ (pre : List Cow) (x y : Cow) (post : List Cow), L = pre ++ x :: y :: post ∧ pre.length = p := by
  refine ⟨L.take p, L[p], L[p + 1], L.drop (p + 2), ?_, by rw [List.length_take]; omega⟩
  rw [← List.drop_eq_getElem_cons h, ← List.drop_eq_getElem_cons (by omega), List.take_append_drop]
theorem rows_mid (pre post : List Cow) (x y : Cow) : rowsOf (pre ++ x :: y :: post) = rowsOf pre ++ x.2 :: y.2 :: rowsOf post := by
  unfold rowsOf
  rw [List.map_append, List.map_cons, List.map_cons]
theorem ord_mid (pre post : List Cow) (x y : Cow) : ordL (pre ++ x :: y :: post) = ordL pre ++ V.int (x.1 : Int) :: V.int (y.1 : Int) :: ordL post := by
  unfold ordL
  rw [List.map_append, List.map_cons, List.map_cons]
theorem ord_len (L : List Cow) : (ordL L).length = L.length := List.length_map ..
theorem cow_pass {L : List Cow} {p : Nat} (hp : p < (rowsOf L).length) (hl : letsN (rowsOf L) p = true) : ∃ (pre post : List Cow) (a b : Cow), L = pre ++ a :: b :: post ∧ p = pre.length + 1 ∧ b.2.1 - a.2.2 > a.2.1 ∧ passR (rowsOf L) p = rowsOf (pre ++ (b.1, (b.2.1 - a.2.2, b.2.2)) :: a :: post) := by
  have h0 : 0 < p := of_decide_eq_true (Bool.and_eq_true_iff.mp hl).1
  rw [cow_len] at hp
  obtain ⟨k, rfl⟩ : ∃ k, p = k + 1 := ⟨p - 1, by omega⟩
  obtain ⟨pre, a, b, post, rfl, rfl⟩ := cow_split hp
  have e : pre.length = (rowsOf pre).length := (cow_len pre).symm
  rw [rows_mid, e, lets_split] at hl
  refine ⟨pre, post, a, b, rfl, rfl, of_decide_eq_true hl, ?_⟩
  rw [rows_mid, rows_mid, e, pass_split]
theorem cow_fall {L : List Cow} {p : Nat} (hp : p + 1 < (rowsOf L).length) (hl : fallsN (rowsOf L) p = true) : ∃ (pre post : List Cow) (a b : Cow), L = pre ++ a :: b :: post ∧ p = pre.length ∧ a.2.1 > b.2.1 ∧ fallR (rowsOf L) p = rowsOf (pre ++ b :: (a.1, (a.2.1 + b.2.2, a.2.2)) :: post) := by
  rw [cow_len] at hp
  obtain ⟨pre, a, b, post, rfl, rfl⟩ := cow_split hp
  have e : pre.length = (rowsOf pre).length := (cow_len pre).symm
  rw [rows_mid, e, falls_split] at hl
  refine ⟨pre, post, a, b, rfl, rfl, of_decide_eq_true hl, ?_⟩
  rw [rows_mid, rows_mid, e, fall_split]
theorem given_get {n : Nat} {f : Nat → Bool} {v : Nat → V} {r : Nat} {x : V} (h : (given n f v)[r]? = some x) : ∃ k, x = v k ∧ k < n ∧ f k = true := by
  unfold given at h
  have h1 := List.mem_of_getElem? h
  obtain ⟨k, hk, rfl⟩ := List.mem_map.mp h1
  obtain ⟨h2, h3⟩ := List.mem_filter.mp hk
  exact ⟨k, rfl, List.mem_range.mp h2, h3⟩
theorem ord_get {pre post : List Cow} {x y : Cow} : (ordL (pre ++ x :: y :: post))[pre.length]? = some (.int (x.1 : Int)) ∧ (ordL (pre ++ x :: y :: post))[pre.length + 1]? = some (.int (y.1 : Int)) := by
  rw [ord_mid]
  have e : pre.length = (ordL pre).length := (ord_len pre).symm
  rw [e]
  constructor
  · rw [List.getElem?_append_right (Nat.le_refl _), Nat.sub_self]
    rfl
  · rw [List.getElem?_append_right (by omega), show (ordL pre).length + 1 - (ordL pre).length = 1 by omega]
    rfl
theorem ord_swap {pre post : List Cow} {x y : Cow} {u v : Int × Int} : (ordL (pre ++ x :: y :: post)).take pre.length ++ [.int (y.1 : Int), .int (x.1 : Int)] ++ (ordL (pre ++ x :: y :: post)).drop (pre.length + 2) = ordL (pre ++ (y.1, u) :: (x.1, v) :: post) := by
  rw [ord_mid, ord_mid]
  have e : pre.length = (ordL pre).length := (ord_len pre).symm
  rw [e, List.take_append_of_le_length (Nat.le_refl _), List.take_length, ← List.drop_drop, List.drop_append_of_le_length (Nat.le_refl _), List.drop_length, List.append_assoc]
  rfl
theorem ord_tag (rs : HH.Row) : rgV 0 (rs.length : Int) = ordL (tag 0 rs) := by
  unfold rgV ordL
  have h := congrArg (List.map fun k : Nat => V.int (k : Int)) (tag_fst 0 rs)
  rw [List.map_map, List.map_map] at h
  refine Eq.trans ?_ h.symm
  rw [show ((rs.length : Int) - 0).toNat = rs.length by omega]
  refine List.map_congr_left fun i _ => ?_
  show V.int (0 + (i : Int)) = V.int ((0 + i : Nat) : Int)
  rw [Int.zero_add, Nat.zero_add]
section
variable {K : PySem.W.Frag} {σ : L2.St} {H H' : Hp} {te to ta tc : TE} {D : Ends} {tz : TS}
theorem q_sl {l : Addr} {xs ys : List V} {i j : Nat} {a c : Int} (h : EvL te σ H ys) (ho : Ev to σ H (.ref l)) (ha : Ev ta σ H (.int a)) (hc : Ev tc σ H (.int c)) (ea : a = (i : Int)) (ec : c = (j : Int)) (hl : H l = some (.lst xs)) (hij : i ≤ j) (hj : j ≤ xs.length) (hz : xs.length + ys.length ≤ 100000)
    (k : ∀ H1, Ex H H1 → tz D σ (upd H1 l (.lst (xs.take i ++ ys ++ xs.drop j)))) : tSeq (tAsg te (gSl to ta tc)) tz D σ H :=
  h H (Ex.refl H) _ fun b H1 hb e1 h1 => ho H1 e1 _ fun H2 e2 => ha H2 (e1.trans e2) _ fun H3 e3 => hc H3 ((e1.trans e2).trans e3) _ fun H4 e4 => by
    subst ea ec
    have e := (((e1.trans e2).trans e3).trans e4)
    exact ⟨l, b, xs, ys, (i : Int), (j : Int), rfl, rfl, rfl, rfl, e _ _ hl, ((e2.trans e3).trans e4) _ _ h1, ne_of_none hl hb, by omega, by omega, by omega, sz_of hz, k H4 e⟩
end
structure EndAt (K : PySem.W.Frag) (H H' : Hp) (p : Addr) (q : Addr) (v' : V) (ot lp : Addr) (pvs : List V) (L : List Cow) (ps : List (Int × Int)) (n : Nat) : Prop where
  ex : ExB p H H'
  bx : Bx H' p (n + 1000)
  q : H' q = some (.tup [v', .ref ot, .ref lp])
  row : RowAt K H' v' (rowsOf L)
  ord : H' ot = some (.tup (ordL L))
  lst : H' lp = some (.lst pvs)
  prs : Beasts K H' pvs ps
def spEnded (K : PySem.W.Frag) : Sp := fun vs H Q _ => ∃ (p : Addr) (v : V) (rs : HH.Row) (n : Nat), vs = [.ref p, v] ∧ RowAt K H v rs ∧ rs.length ≤ 30 ∧ (∀ b ∈ rs, 0 ≤ b.2) ∧ Bx H p n ∧ n + 1000 < Lim ∧
  ∀ (q : Addr) (v' : V) (ot lp : Addr) (pvs : List V) (L : List Cow) (ps : List (Int × Int)) (H' : Hp), EndAt K H H' p q v' ot lp pvs L ps n → PRun (tag 0 rs) L ps → Facts rs.length L ps → passL (rowsOf L) = [] → Q (.ref q) H'
def fallG (rs : HH.Row) : List V := given (rs.length - 1) (fallsN rs) (fun i => .int (i : Int))
def spBegun (K : PySem.W.Frag) : Sp := fun vs H Q _ => ∃ (p : Addr) (v : V) (rs : HH.Row) (n : Nat), vs = [.ref p, v] ∧ RowAt K H v rs ∧ 0 < rs.length ∧ rs.length ≤ 30 ∧ (∀ b ∈ rs, 0 ≤ b.2) ∧ Bx H p n ∧ n + 1000 < Lim ∧
  ∀ (q : Addr) (v' : V) (ot lp : Addr) (pvs : List V) (L : List Cow) (ps : List (Int × Int)) (H' : Hp), EndAt K H H' p q v' ot lp pvs L ps n → FRun (tag 0 rs) L ps → Facts rs.length L ps → fallG (rowsOf L) = [] → Q (.ref q) H'
end HH
set_option maxHeartbeats 4000000
namespace HH
open PySem PySem.Spec PyProof.Rows L2 Evl RZ
inductive All2 {α : Type} (R : V → α → Prop) : List V → List α → Prop
  | nil : All2 R [] []
  | cons {v : V} {x : α} {vs : List V} {xs : List α} : R v x → All2 R vs xs → All2 R (v :: vs) (x :: xs)
theorem All2.mono {α : Type} {R S : V → α → Prop} (h : ∀ v x, R v x → S v x) : ∀ {vs : List V} {xs : List α}, All2 R vs xs → All2 S vs xs
  | _, _, .nil => .nil
  | _, _, .cons a b => .cons (h _ _ a) (All2.mono h b)
theorem All2.app {α : Type} {R : V → α → Prop} : ∀ {vs : List V} {xs : List α} {us : List V} {ys : List α}, All2 R vs xs → All2 R us ys → All2 R (vs ++ us) (xs ++ ys)
  | _, _, _, _, .nil, h => h
  | _, _, _, _, .cons a b, h => .cons a (All2.app b h)
theorem All2.len {α : Type} {R : V → α → Prop} : ∀ {vs : List V} {xs : List α}, All2 R vs xs → vs.length = xs.length
  | _, _, .nil => rfl
  | _, _, .cons a b => by rw [List.length_cons, List.length_cons, All2.len b]
theorem All2.get {α : Type} {R : V → α → Prop} : ∀ {vs : List V} {xs : List α} {i : Nat} {v : V}, All2 R vs xs → vs[i]? = some v → ∃ x, xs[i]? = some x ∧ R v x
  | _, _, _, _, .nil, h => by simp at h
  | _, _, 0, _, .cons a b, h => by
    cases h
    exact ⟨_, rfl, a⟩
  | _, _, i + 1, _, .cons a b, h => All2.get (i := i) b h
abbrev Deed := Bool × Nat
def wordOf (b : Bool) : Str := if b then "pass" else "fall"
def DeedAt (K : PySem.W.Frag) (H : Hp) (v : V) (d : Deed) : Prop := ∃ p, v = .ref p ∧ SqT K H p [.str (wordOf d.1), .int (d.2 : Int)]
theorem deeds_ex {K : PySem.W.Frag} {H H' : Hp} {vs : List V} {ds : List Deed} (e : Ex H H') (h : All2 (DeedAt K H) vs ds) : All2 (DeedAt K H') vs ds := h.mono fun v d g => by
  obtain ⟨p, h1, h2⟩ := g
  exact ⟨p, h1, ex_t e h2⟩
theorem deeds_exB {K : PySem.W.Frag} {H H' : Hp} {vs : List V} {ds : List Deed} {q : Addr} {ys : List V} (e : ExB q H H') (hq : H q = some (.lst ys)) (h : All2 (DeedAt K H) vs ds) : All2 (DeedAt K H') vs ds := h.mono fun v d g => by
  obtain ⟨p, h1, h2⟩ := g
  exact ⟨p, h1, e.t hq h2⟩
def deedD (d : Deed) : PyData := .tuple [.str (wordOf d.1), .int (d.2 : Int)]
theorem deeds_dp {K : PySem.W.Frag} {H : Hp} : ∀ {vs : List V} {ds : List Deed}, All2 (DeedAt K H) vs ds → DpAll K H vs (ds.map deedD)
  | _, _, .nil => .nil
  | _, _, .cons a b => by
    obtain ⟨p, rfl, h2⟩ := a
    exact .cons (.tup h2 (.cons (.str _) (.cons (.int _) .nil))) (deeds_dp b)
section
variable {K : PySem.W.Frag} {σ : L2.St} {H H' : Hp} {t : TT}
end
inductive MRun (L0 : List Cow) : List Cow → List Deed → Prop
  | nil : MRun L0 L0 []
  | pass {pre post : List Cow} {a b : Cow} {ds : List Deed} : MRun L0 (pre ++ a :: b :: post) ds → b.2.1 - a.2.2 > a.2.1 → MRun L0 (pre ++ (b.1, (b.2.1 - a.2.2, b.2.2)) :: a :: post) (ds ++ [(true, pre.length + 1)])
  | fall {pre post : List Cow} {a b : Cow} {ds : List Deed} : MRun L0 (pre ++ a :: b :: post) ds → a.2.1 > b.2.1 → MRun L0 (pre ++ b :: (a.1, (a.2.1 + b.2.2, a.2.2)) :: post) (ds ++ [(false, pre.length)])
structure WanAt (K : PySem.W.Frag) (H H' : Hp) (p : Addr) (q : Addr) (v' : V) (ot lp : Addr) (us : List V) (L : List Cow) (ds : List Deed) (n m : Nat) : Prop where
  ex : ExB p H H'
  bx : Bx H' p (n + m)
  q : H' q = some (.tup [v', .ref ot, .ref lp])
  row : RowAt K H' v' (rowsOf L)
  ord : H' ot = some (.tup (ordL L))
  lst : H' lp = some (.lst us)
  prs : All2 (DeedAt K H') us ds
end HH
set_option maxHeartbeats 4000000
namespace HH
open PySem PySem.Spec PyProof.Rows L2 Evl RZ
section
variable {X : Cx}
theorem pe_callN0 {x : Str} {p pos : Pos} {kws : List Keyword} {CX : CXT} {E : XK} {k : Nat} {f : Addr} {fd : FuncData} {ps ks : List Str} {sp : Sp} {tk : TA} {g : List Value → List Value → List Value} {gV : List V → List V → List V}
    (F : FnOk X.prog X.w X.K X.mg X.base CX k f fd ps sp) (hr : Room k X.A) (hg : Gl X x) (hm : X.mg x = some (.ref f)) (hk : PySem.W.keepIn X.K (.ref f) = true) (hb : KBn X.K fd ps 0 ks g gV) (hx : Passes CX X E) (hkw : PK X kws tk)
    (hall : (backToKw pos (keywordEach kws X.env)).all (·.1.isSome) = true := by rfl) (hks : (backToKw pos (keywordEach kws X.env)).filterMap (·.1) = ks := by rfl) (hdb : (x == ("__debug__" : Str)) = false := by decide)
    (hpl : ((backTo pos (starEach [] X.env)).any (·.1) || (backToKw pos (keywordEach kws X.env)).any (·.1.isNone)) = false := by rfl) : PE X (.Call (.Name x p) [] kws pos) (tCallN 0 ks.length sp gV E tNil tk) := by
  refine ⟨fun pins s σ H Q I0 h0 => ?_⟩
  refine wpAny_Call_Name_kw (ld_glob I0 hg hm ?_ hdb)
  refine PySem.W.callWith_KW0 (h₀ := X.base) I0.ok.mod.kin hk hall (thn (hkw.run pos pins s σ H _ I0 h0) fun ws s2 ⟨zs, H2, I2, rz, l1, l2, q2⟩ => ⟨I2.kIn, ?_⟩) hpl
  rw [hks]
  exact run_fnN (us := []) (vs := []) F hr hb hx I2 .nil rz rfl l2 q2
end
theorem kb_of {K : PySem.W.Frag} {x qual : Str} {params : Arguments} {body : List Stmt} {scope : Scope} {kws : List (Str × V)} {f : Addr} {fd : FuncData} {ps ks : List Str} (F : FunD K x qual params body scope [] kws f fd) (g : {α : Type} → List α → List α) (hrel : ∀ {zs : List V} {ws : List Value}, Vals zs ws → Vals (g zs) (g ws))
    (h : ∀ (kV doc pm : Value) (an : Option Addr) (cdv ct : Value) (ws : List Value), ws.length = ks.length → bindArgs (PySem.W.fnOf x qual params body scope .none kV doc pm an cdv ct) ⟨[], ks.zip ws⟩ = pure (ps.zip (g ws))) : KBn K fd ps 0 ks (fun _ ws => g ws) (fun _ zs => g zs) := by
  obtain ⟨oc, od, dV, kV, doc, pm, an, cdv, ct, osl, rfl, lk, hcd, hD, hK⟩ := F.ex
  rcases hD with ⟨_, rfl⟩ | ⟨e, _⟩
  · refine ⟨fun s us ws _ h0 hl => ?_, fun _ h => hrel h⟩
    have e0 : us = [] := List.length_eq_zero_iff.mp h0
    subst e0
    exact .of_eq (h kV doc pm an cdv ct ws hl)
  · exact absurd rfl e
section
variable {K : PySem.W.Frag} {σ : L2.St} {H H' : Hp} {te : TE} {D : Ends} {tz tu : TS} {g : TG}
theorem et_yes : EvT tYes σ H true := fun H1 _ _ q => q H1 (Ex.refl H1)
theorem ev_any {bs : List Bool} (h : EvL te σ H (bs.map V.bl)) : Ev (tCB (rAny K) (tCons te tNil)) σ H (.bl (bs.any id)) := fun H1 e Q q =>
  h H1 e _ fun p H2 hp e2 h2 => ⟨p, bs, rfl, sq_of h2, q H2 e2⟩
theorem given_all (n : Nat) (f : Nat → Bool) : given n (fun _ => true) (fun i => V.bl (f i)) = ((List.range n).map f).map V.bl := by
  unfold given
  rw [List.filter_eq_self.mpr (fun _ _ => rfl), List.map_map]
  rfl
theorem s_forNU {xs : List V} {tl : TE} {j : Nat} (h : EvU tl σ H xs) (Pv : Addr → Nat → L2.St → Hp → Prop) (h0 : ∀ p H1, H p = none → Ex H H1 → H1 p = some (.tup xs) → Pv p 0 σ H1) (hl : ∀ p i σ' H', i ≤ xs.length → Pv p i σ' H' → SqT K H' p xs)
    (hs : ∀ p i x σ' H', xs[i]? = some x → Pv p i σ' H' → tu { D with nx := Pv p (i + 1), ct := Pv p (i + 1), bk := D.nx } (σ'.set j (some x)) H') (hd : ∀ p σ' H', Pv p xs.length σ' H' → D.nx σ' H') : tFor (iTup K tl) (gName j) tu D σ H :=
  h H (Ex.refl H) _ fun p H1 hp e h1 => ⟨p, rfl, ⟨xs, st_of h1⟩, for_tup (Pv p) (h0 p H1 hp e h1) (hl p) (hs p) (hd p)⟩
end
def spRight : Sp := fun vs H Q _ => ∃ (p : Addr), vs = [.ref p] ∧ Bx H p 0 ∧ ∀ H', ExB p H H' → Q (.bl true) H'
def spLaw (K : PySem.W.Frag) : Sp := fun vs H Q _ => ∃ (a : Addr) (ns : List Int), vs = [.ref a] ∧ SqL K H a (ns.map V.int) ∧ ns.length ≤ 63 ∧ ∀ H', Q (.bl true) H'
theorem lim_ok {n : Nat} (h : n ≤ 100000000) : n < Lim := by
  have h1 : (2 : Nat) ^ 100 ≤ 2 ^ 4000 := Nat.pow_le_pow_right (by decide) (by decide)
  have h2 : (2 : Nat) ^ 100 = 1267650600228229401496703205376 := by decide
  have h3 : Lim = 2 ^ 4000 := rfl
  rw [h3]
  generalize (2 : Nat) ^ 4000 = L at *
  rw [h2] at h1
  omega
section
variable {K : PySem.W.Frag} {σ : L2.St} {H H' : Hp} {te t1 t2 : TE}
end
theorem q_call {sp : Sp} {dvs : List V} {E : XK} {ta : TA} {i : Nat} {D : Ends} {tz : TS} {σ : L2.St} {H : Hp} (h : ta σ H fun vs H1 => sp (vs ++ dvs) H1 (fun x H2 => tz D (σ.set i (some x)) H2) E) : tSeq (tAsg (tCall sp dvs E ta) (gName i)) tz D σ H := h
end HH
set_option maxHeartbeats 4000000
namespace HH
open PySem PySem.Spec PyProof.Rows L2 Evl RZ
inductive Bk where
  | val
  | run
  | look
  | over
namespace Bk
def nm : Bk → String
  | val => "ValueError"
  | run => "RuntimeError"
  | look => "LookupError"
  | over => "OverflowError"
def st : Bk → Str
  | val => "ValueError"
  | run => "RuntimeError"
  | look => "LookupError"
  | over => "OverflowError"
def nw : Bk → String
  | val => "ValueError.__new__"
  | run => "RuntimeError.__new__"
  | look => "LookupError.__new__"
  | over => "OverflowError.__new__"
def ini : Bk → String
  | val => "ValueError.__init__"
  | run => "RuntimeError.__init__"
  | look => "LookupError.__init__"
  | over => "OverflowError.__init__"
def mro : Bk → List Value
  | val => [.type "ValueError", .type "Exception", .type "BaseException", .type "object"]
  | run => [.type "RuntimeError", .type "Exception", .type "BaseException", .type "object"]
  | look => [.type "LookupError", .type "Exception", .type "BaseException", .type "object"]
  | over => [.type "OverflowError", .type "ArithmeticError", .type "Exception", .type "BaseException", .type "object"]
theorem base : (b : Bk) → ExcBaseFacts b.nm b.nw b.ini b.mro
  | val => F.excBase_ValueError
  | run => F.excBase_RuntimeError
  | look => F.excBase_LookupError
  | over => F.excBase_OverflowError
theorem store : (b : Bk) → StoreFacts b.nm b.mro "object.__setattr__" "object"
  | val => F.store_ValueError
  | run => F.store_RuntimeError
  | look => F.store_LookupError
  | over => F.store_OverflowError
theorem typ : (b : Bk) → typeOf (.type b.nm) = pure (.type "type")
  | val => by kernel_rfl
  | run => by kernel_rfl
  | look => by kernel_rfl
  | over => by kernel_rfl
theorem stub : (b : Bk) → Manifest.isStub b.nm = false
  | val => by decide +kernel
  | run => by decide +kernel
  | look => by decide +kernel
  | over => by decide +kernel
theorem boot : (b : Bk) → bootBuiltins b.st = some (.type b.nm)
  | val => PyProof.Rows.Boot.«ValueError»
  | run => PyProof.Rows.Boot.«RuntimeError»
  | look => PyProof.Rows.Boot.«LookupError»
  | over => PyProof.Rows.Boot.«OverflowError»
end Bk
structure ExcTy (K : PySem.W.Frag) (b : Bk) (f : Str) (C fI : Addr) : Prop where
  ok : PySem.W.excInitIn K C b.mro b.nw = true
  ov : PySem.W.excOver K C b.mro = true
  tk : PySem.W.takerIn K C f = some none
  hd : PySem.W.hasDictIn K C = true
  sa : PySem.W.findIn K (.ref C) "__setattr__" = some (some (.builtin "object.__setattr__"))
  ga : PySem.W.findIn K (.ref C) "__getattribute__" = some (some (.builtin "BaseException.__getattribute__"))
  gg : PySem.W.findIn K (.ref C) "__getattr__" = some none
  no : PySem.W.findIn K (.ref C) f = some none
  iC : PySem.W.findIn K (.ref C) "__init__" = some (some (.ref fI))
  ca : PySem.W.findIn K (.ref C) "__class__" = some (some (.builtin "object.__class__"))
  gs : PySem.W.specialIn K (.builtin "object.__class__") "__get__" = some (some (.builtin "getset_descriptor.__get__"))
  tI : PySem.W.typeIn K (.ref fI) = some (.type "function")
  kC : PySem.W.keepIn K (.ref C) = true
  ex : PySem.W.subIn K (.ref C) (.type "BaseException") = some true
  ty : PySem.W.typeIn K (.ref C) = some (.type "type")
  ts : PySem.W.takesIn K (.builtin "object.__class__") = some true
  mo : PySem.W.mroIn K C (.type "object") = some true
  bi : PySem.W.findCls K (.type b.nm) (.type "type") "__init__" = some (.val (.builtin b.ini))
def exTyB (K : PySem.W.Frag) (b : Bk) (f : Str) (C fI : Addr) : Bool :=
  PySem.W.excInitIn K C b.mro b.nw && (PySem.W.excOver K C b.mro && (He.eqO (PySem.W.takerIn K C f) (some none) && (PySem.W.hasDictIn K C &&
  (He.eqO (PySem.W.findIn K (.ref C) "__setattr__") (some (some (.builtin "object.__setattr__"))) && (He.eqO (PySem.W.findIn K (.ref C) "__getattribute__") (some (some (.builtin "BaseException.__getattribute__"))) &&
  (He.eqO (PySem.W.findIn K (.ref C) "__getattr__") (some none) && (He.eqO (PySem.W.findIn K (.ref C) f) (some none) && (He.eqO (PySem.W.findIn K (.ref C) "__init__") (some (some (.ref fI))) &&
  (He.eqO (PySem.W.findIn K (.ref C) "__class__") (some (some (.builtin "object.__class__"))) && (He.eqO (PySem.W.specialIn K (.builtin "object.__class__") "__get__") (some (some (.builtin "getset_descriptor.__get__"))) &&
  (decide (PySem.W.typeIn K (.ref fI) = some (.type "function")) && (PySem.W.keepIn K (.ref C) && (decide (PySem.W.subIn K (.ref C) (.type "BaseException") = some true) && (decide (PySem.W.typeIn K (.ref C) = some (.type "type")) &&
  (decide (PySem.W.takesIn K (.builtin "object.__class__") = some true) && decide (PySem.W.mroIn K C (.type "object") = some true))))))))))))))))
theorem band {a b : Bool} (h : (a && b) = true) : a = true ∧ b = true := Bool.and_eq_true_iff.mp h
theorem exTyB_ok {K : PySem.W.Frag} {b : Bk} {f : Str} {C fI : Addr} (h : exTyB K b f C fI = true) (bi : PySem.W.findCls K (.type b.nm) (.type "type") "__init__" = some (.val (.builtin b.ini))) : ExcTy K b f C fI := by
  unfold exTyB at h
  obtain ⟨h1, h⟩ := band h
  obtain ⟨h2, h⟩ := band h
  obtain ⟨h3, h⟩ := band h
  obtain ⟨h4, h⟩ := band h
  obtain ⟨h5, h⟩ := band h
  obtain ⟨h6, h⟩ := band h
  obtain ⟨h7, h⟩ := band h
  obtain ⟨h8, h⟩ := band h
  obtain ⟨h9, h⟩ := band h
  obtain ⟨h10, h⟩ := band h
  obtain ⟨h11, h⟩ := band h
  obtain ⟨h12, h⟩ := band h
  obtain ⟨h13, h⟩ := band h
  obtain ⟨h14, h⟩ := band h
  obtain ⟨h15, h⟩ := band h
  obtain ⟨h16, h17⟩ := band h
  exact ⟨h1, h2, He.eqO_ok h3, h4, He.eqO_ok h5, He.eqO_ok h6, He.eqO_ok h7, He.eqO_ok h8, He.eqO_ok h9, He.eqO_ok h10, He.eqO_ok h11, of_decide_eq_true h12, h13, of_decide_eq_true h14, of_decide_eq_true h15, of_decide_eq_true h16, of_decide_eq_true h17, bi⟩
section
variable {X : Cx} {pins : List (Addr × Obj)} {σ : L2.St} {H : Hp} {s : Shared} {a C fI : Addr} {f : Str} {b : Bk} {y : V} {u : Value} {A : Around} {E : Value → Shared → Prop}
theorem dict_new {hp h' : Heap} {g : Array GenState} {d : Drawn} {t tk' : Nat} {os : OsState} {t1 dx : Addr} (I : Inv X pins σ H ⟨hp, g, d, t, os⟩) (e : H a = some (exo a C none)) (k : ∀ c o, c ≠ a → hp.get? c = some o → h'.get? c = some o) (dn : hp.objs.size ≤ dx) (ne : dx ≠ a)
    (hx : h'.get? a = some { cls := .ref C, dict := some dx, data := .fields #[.ref t1, .none, .none, .none, .bool false, .none] }) {mA : Str → Option Value} (hn : h'.Ns1 dx mA) (rel : ∀ g, RelO ([(f, y)].lookup g) (mA g)) :
    H dx = none ∧ Inv X pins σ (upd (upd H dx (exd dx [(f, y)])) a (exo a C (some dx))) ⟨h', g, d, tk', os⟩ := by
  have nd : H dx = none := I.hok.fresh dn
  have old {c : Addr} {o : Obj} (q : hp.get? c = some o) : c ≠ dx := Nat.ne_of_lt (Nat.lt_of_lt_of_le (Heap.lt_size q) dn)
  have una {c : Addr} (n : H c = none) : c ≠ a := by
    rintro rfl
    rw [e] at n
    cases n
  have skip {c : Addr} (h1 : c ≠ a) (h2 : c ≠ dx) : upd (upd H dx (exd dx [(f, y)])) a (exo a C (some dx)) c = H c := by rw [upd_ne h1, upd_ne h2]
  refine ⟨nd, I.un (t' := tk') ⟨fun c o q n _ _ => k c o (una n) q, fun c o q n _ _ => ⟨o.slots, k c o (una n) q⟩, fun c o q n _ => (skip (una n) (old q)).trans n, fun c o q _ => ?_, fun c xs q => (skip (at_ne e q exo_tup) (ne_of_none q nd)).trans q, fun c o v q => (skip (at_ne e q exo_frz) (ne_of_none q nd)).trans q,
    fun c ps q => ⟨#[], by rw [skip (at_ne e q exo_tbl) (ne_of_none q nd), q, Array.append_empty]⟩⟩ fun c o q => ?_⟩
  · by_cases z : c = a
    · exact ⟨_, by rw [z]; exact hx⟩
    · exact ⟨o, k c o z q⟩
  · by_cases z : c = a
    · subst z
      rw [upd_same] at q
      cases q
      exact exo_ok hx
    by_cases z2 : c = dx
    · subst z2
      rw [upd_ne z, upd_same] at q
      cases q
      exact exd_ok hn rel
    rw [skip z z2] at q
    refine (I.hok c o q).stay (fun c2 v hc r => k c2 v ?_ r) (fun c2 hc => (skip (at_ne e hc exo_own) (ne_of_none hc nd)).trans hc) fun c2 xs hc => (skip (at_ne e hc exo_tup) (ne_of_none hc nd)).trans hc
    rcases hc with rfl | hc
    · exact z
    · exact at_ne e hc exo_own
theorem exc_first {Q : Unit → Shared → Prop} (T : ExcTy X.K b f C fI) (I : Inv X pins σ H s) (e : H a = some (exo a C none)) (ry : RelV y u)
    (k : ∀ dx s', H dx = none → dx ≠ a → Inv X pins σ (upd (upd H dx (exd dx [(f, y)])) a (exo a C (some dx))) s' → Q () s') : wpAny (model X.prog X.w) A (setAttr (.ref a) f u) Q E s := by
  obtain ⟨t1, ho⟩ := exo_at I.hok e
  obtain ⟨hp, g, d, t, os⟩ := s
  obtain ⟨cd, hcd, hdd⟩ := PySem.W.any_some T.hd
  have LC : PySem.W.Looks (model X.prog X.w) hp (classData C) cd := PySem.W.looks_clsIn I.kIn hcd
  have J : PySem.W.InstAt hp a { cls := .ref C, dict := none, data := .fields #[.ref t1, .none, .none, .none, .bool false, .none] } C none := ⟨ho, rfl, rfl, trivial⟩
  have aw : a ≠ hp.objs.size := Nat.ne_of_lt (Heap.lt_size ho)
  refine PySem.W.set_plain I.kIn J T.sa (PySem.W.osa_openX b.store I.kIn J T.ov T.tk fun bb => ?_)
  obtain ⟨nm, bs, mro, ns, qn, hd, sn, sb, ab, col, del⟩ := cd
  dsimp only at hdd
  subst hdd
  dsimp only
  unfold Builtin.ObjectAttr.storeInOwnDict Builtin.ObjectAttr.ownDictForStores
  repeat (first | with_reducible refine HandSPX.store_in_new ?_ ?_ | with_reducible refine wpAny_loadPart_at ho ?_ | with_reducible refine LC.at ?_ | wp_step)
  · exact ⟨_, #[], _, (Heap.get?_update_ne _ _ _ _ aw.symm).trans (Heap.get?_push_at rfl rfl), rfl, fun e he => absurd he (by simp), fun _ => rfl⟩
  · intro h' tk' hn' hs
    have ho1 : (hp.push { cls := .type "dict", data := .dict #[] }).get? a = _ := Heap.get?_push_of_some _ ho
    obtain ⟨n, J⟩ := dict_new (tk' := tk') (y := y) (f := f) (dx := hp.objs.size) I e (fun c o hc q => (hs.2 c (Nat.ne_of_lt (Heap.lt_size q))).trans ((Heap.get?_update_ne _ _ _ _ hc).trans (Heap.get?_push_of_some _ q))) (Nat.le_refl _) aw.symm ((hs.2 a aw).trans (Heap.get?_update_self _ ho1 rfl)) hn' (relO_put (fs := []) ry fun _ => True.intro)
    exact k _ _ n aw.symm J
def tBI (K : PySem.W.Frag) (b : Bk) (ta : TA) : TE := fun σ H Q => ta σ H fun vs H1 => ∃ (a C : Addr) (ws : List V), vs = .ref a :: ws ∧ ws.length ≤ 1000 ∧ PySem.W.excInitIn K C b.mro b.nw = true ∧ H1 a = some (exo a C none) ∧ Q .non H1
theorem pe_bini {e : Expr} {es : List Expr} {ta : TA} {p1 p2 pos : Pos} {pl : Sem Bool} (hg : Gl X b.st) (hm : X.mg b.st = none) (bi : PySem.W.findCls X.K (.type b.nm) (.type "type") "__init__" = some (.val (.builtin b.ini))) (ha : PA X (e :: es) ta)
    (hn : b.st ≠ ("__name__" : Str)) (hdb : (b.st == ("__debug__" : Str)) = false) (hh : PySem.W.handedIn (.builtin b.ini) = true)
    (hc : eval (.Call (.Attribute (.Name b.st p1) "__init__" p2) (e :: es) [] pos) X.env = (do
      let ov ← eval (.Name b.st p1) X.env
      standAt p2.atName
      let (f, first) ← holding [ov] (getMethod ov "__init__" pl)
      callWith pos f first (backTo pos (starEach (e :: es) X.env)) (backToKw pos (keywordEach [] X.env))) := by rfl)
    (he : starEach (e :: es) X.env = (false, eval e X.env) :: starEach es X.env := by rfl) (hpl : (backTo pos (starEach es X.env)).any (·.1) = false := by rfl) :
    PE X (.Call (.Attribute (.Name b.st p1) "__init__" p2) (e :: es) [] pos) (tBI X.K b ta) := by
  refine ⟨fun pins s σ H Q I h => PySem.W.methodCall_KW (ld_blt I hg hm b.boot ?_ hn hdb) hc⟩
  obtain ⟨m, fr⟩ := I.fr
  refine PySem.W.method_type fr I.ok.mod.kin b.typ b.stub bi hh ?_
  show wpAny _ _ (callWith pos (Value.builtin b.ini) [] (backTo pos (starEach (e :: es) X.env)) []) _ _ _
  refine PyProof.Rows.callWith_method1 (thn (ha.run pos pins _ σ H _ (I.tok _) h) fun us s1 ⟨vs, H1, J, r, a, C, ws, ev, hl, hC, ea, q⟩ => ?_) he hpl
  subst ev
  cases r with
  | @cons _ u0 _ ur ra rw' =>
    obtain rfl : u0 = Value.ref a := ra
    have few : ur.length ≤ sizeLine := by
      rw [← Paired.length rw', sizeLine_eq]
      omega
    obtain ⟨t1, ho⟩ := exo_at J.hok ea
    obtain ⟨nm, N, qn, bs, bm, hdct, sn, sub, ab, col, dd, k0, k1, k2, k3, k5, hC', hT⟩ := PySem.W.excInit_of J.kIn hC
    obtain ⟨hp, g, d, t, os⟩ := s1
    refine wpAny_call (PySem.HandSPX.init_base b.base hT hC' ho few fun h' t2 k hx => ⟨.non, H1, ?_, rfl, q⟩)
    have W := J.write (t' := t) (x := a) (e := a) (o := exo a C none) (by rw [ea]; exact True.intro) (.inl rfl) k ⟨_, hx⟩ (exo_ok hx)
    have eu : upd H1 a (exo a C none) = H1 := funext fun c => by
      by_cases z : c = a
      · rw [z, upd_same, ea]
      · exact upd_ne z
    rw [eu] at W
    exact W
def tXs (K : PySem.W.Frag) (f : Str) (to te : TE) : TS := fun D σ H => te σ H fun y H1 => to σ H1 fun x H2 => ∃ (a C fI : Addr) (b : Bk), x = .ref a ∧ ExcTy K b f C fI ∧ H2 a = some (exo a C none) ∧ ∀ dx, H2 dx = none → dx ≠ a → D.nx σ (upd (upd H2 dx (exd dx [(f, y)])) a (exo a C (some dx)))
theorem ps_xs {o e : Expr} {to te : TE} {p' pos : Pos} (ho : PE X o to) (he : PE X e te) (hs : swapsWith e (some (.Attribute o f p')) pos.line X.env = pure false := by rfl) : PS X (.Assign [.Attribute o f p'] e pos) (tXs X.K f to te) := by
  refine ⟨fun pins s σ H D I h => plainObj_wpAny_Assign_Attribute (thn (he.run pins s σ H _ I h) fun v s1 ⟨y, H1, I1, r1, q1⟩ => thn (ho.run pins s1 σ H1 _ I1 q1) fun u s2 ⟨x, H2, I2, r2, a, C, fI, b, ex, T, ea, q⟩ => ?_) hs⟩
  subst ex
  obtain rfl : u = Value.ref a := r2
  exact exc_first T I2 ea r1 fun dx s' n ne J => ⟨σ, _, J, q dx n ne⟩
end
def spIni (C : Addr) (f : Str) : Sp := fun vs H Q _ => ∃ (a : Addr) (v : V), vs = [.ref a, v] ∧ H a = some (exo a C none) ∧ ∀ dx, H dx = none → dx ≠ a → Q .non (upd (upd H dx (exd dx [(f, v)])) a (exo a C (some dx)))
def tMkX (C : Addr) (f : Str) (ta : TA) : L2.St → Hp → XK → Prop := fun σ H Q => ta σ H fun vs H1 => ∃ v, vs = [v] ∧ ∀ d, H1 d = none → Q (.ref C) (some d) (upd H1 d (.xd [(f, v)]))
section
variable {X : Cx} {C fI : Addr} {f : Str} {b : Bk}
theorem pmk_x {x : Str} {e : Expr} {ta : TA} {p pos : Pos} {k : Nat} {fd : FuncData} (T : ExcTy X.K b f C fI) (F1 : FnOk X.prog X.w X.K X.mg X.base CX0 k fI fd ["self", f] (spIni C f)) (hr : Room (k + 1) X.A) (hb : Binds X.K fd ["self", f] []) (hm : X.mg x = some (.ref C)) (hg : Gl X x) (ha : PA X [e] ta)
    (hdb : (x == ("__debug__" : Str)) = false := by decide) (he : starEach (e :: []) X.env = (false, eval e X.env) :: starEach [] X.env := by rfl) (hpl : (backTo pos (starEach [] X.env)).any (·.1) = false := by rfl) :
    PMk X (.Call (.Name x p) [e] [] pos) (tMkX C f ta) := by
  intro pins s σ H Q I h
  refine wpAny_Call_Name_kw (ld_glob I hg hm (PySem.W.callWith_K (h₀ := X.base) I.ok.mod.kin T.kC (thn (ha.run pos pins s σ H _ I h) fun us s1 ⟨vs, H1, J, r1, v, ev, q⟩ => ⟨J.kIn, ?_⟩) he hpl) hdb)
  subst ev
  show wpAny _ _ (call (.ref C) us) _ _ _
  obtain ⟨u, rfl, ru⟩ := vals1 r1
  obtain ⟨nm, N, qn, bs, bm, hdct, sn, sub, ab, col, dd, k0, k1, k2, k3, k5, hC, hT⟩ := PySem.W.excInit_of J.kIn T.ok
  obtain ⟨hp, g, dr, tk, os⟩ := s1
  have big : hp.objs.size ≤ hp.objs.size + 1 := Nat.le_succ _
  have nw : H1 (hp.objs.size + 1) = none := J.hok.fresh big
  have kk : ∀ c o, hp.get? c = some o → ((hp.push (PySem.W.kdv_tup [u])).push (PySem.HandSPX.excO C hp.objs.size)).get? c = some o := fun c o z => Heap.get?_push_of_some _ (Heap.get?_push_of_some _ z)
  have at1 : ((hp.push (PySem.W.kdv_tup [u])).push (PySem.HandSPX.excO C hp.objs.size)).get? (hp.objs.size + 1) = some (PySem.HandSPX.excO C hp.objs.size) := by heap_get
  have J2 : Inv X pins σ (upd H1 (hp.objs.size + 1) (exo (hp.objs.size + 1) C none)) ⟨(hp.push (PySem.W.kdv_tup [u])).push (PySem.HandSPX.excO C hp.objs.size), g, dr, tk, os⟩ := J.laid (t' := tk) (h' := (hp.push (PySem.W.kdv_tup [u])).push (PySem.HandSPX.excO C hp.objs.size)) kk big (exo_ok at1)
  have r2 : Vals [V.ref (hp.objs.size + 1), v] [Value.ref (hp.objs.size + 1), u] := .cons rfl (.cons ru .nil)
  have sp : spIni C f [V.ref (hp.objs.size + 1), v] (upd H1 (hp.objs.size + 1) (exo (hp.objs.size + 1) C none)) (fun v' H2 => v' = .non ∧ ∃ (d : Addr) (fs : List (Str × V)), H2 (hp.objs.size + 1) = some (exo (hp.objs.size + 1) C (some d)) ∧ H2 d = some (exd d fs) ∧ H1 d = none ∧ Q (.ref C) (some d) (upd (del H2 (hp.objs.size + 1)) d (.xd fs))) (fun _ _ _ => False) := by
    refine ⟨_, v, rfl, upd_same, fun dx n ne => ⟨rfl, dx, [(f, v)], upd_same, ?_, ?_, ?_⟩⟩
    · rw [upd_ne ne, upd_same]
    · rw [← n, upd_ne ne]
    · have n1 : H1 dx = none := by rw [← n, upd_ne ne]
      have e2 : upd (del (upd (upd (upd H1 (hp.objs.size + 1) (exo (hp.objs.size + 1) C none)) dx (exd dx [(f, v)])) (hp.objs.size + 1) (exo (hp.objs.size + 1) C (some dx))) (hp.objs.size + 1)) dx (.xd [(f, v)]) = upd H1 dx (.xd [(f, v)]) := funext fun c => by
        by_cases z : c = dx
        · rw [z, upd_same, upd_same]
        rw [upd_ne z, upd_ne z]
        by_cases z2 : c = hp.objs.size + 1
        · rw [z2, del_same, nw]
        · rw [del_ne z2, upd_ne z2, upd_ne z, upd_ne z2]
      rw [e2]
      exact q dx n1
  refine wpAny_call (PySem.HandSPX.call_own b.base hT hC (PySem.W.looks_findIn J.kIn T.iC) (fun self => PySem.W.bind_fn J.kIn self T.tI) (by rw [sizeLine_eq]; show 1 ≤ 16777216; decide)
    (codeAny_mono (F1.run _ X.stack _ _ ⟨[Value.ref (hp.objs.size + 1), u], []⟩ [Value.ref (hp.objs.size + 1), u] _ _ (fun _ _ _ => False) (hr.make C [u] []) (J2.env0.make C [u] []) (hb _ [Value.ref (hp.objs.size + 1), u] J2.kIn rfl) r2 sp) fun rs s' hq => ?_))
  match rs, hq with
  | .error _, hq => exact hq.elim
  | .ok .next, hq => exact hq.elim
  | .ok .brk, hq => exact hq.elim
  | .ok .cont, hq => exact hq.elim
  | .ok (.ret _), ⟨v', H2, os2, bare2, un2, hok2, rv, ev, d, fs, ea, ed, hd1, q2⟩ =>
    subst ev
    obtain ⟨h2, g2, d2, t2, os'⟩ := s'
    exact ⟨rv, mk_end (raises_own T.ex T.ty) J big kk un2 hok2 os2 bare2 ea ed hd1 q2⟩
end
end HH
set_option maxHeartbeats 4000000
namespace HH
open PySem PySem.Spec PyProof.Rows L2 Evl RZ
section
variable {X : Cx} {pins : List (Addr × Obj)} {σ : L2.St} {H : Hp} {s : Shared} {a : Addr} {oe : Obj} {cls : Value} {d : Option Addr} {vs : Array Value}
end
section
variable {X : Cx} {x1 x2 x3 x4 : Str} {c1 c2 c3 c4 : Value} {p1 p2 p3 p4 tp : Pos} {kk : Nat}
end
section
variable {X : Cx} {t : Expr} {n : Str} {i : Nat} {m : Value → Prop} {body suite : List Stmt} {b0 : Stmt} {pos pos' : Pos} {tb : WX → TS} {ts : Addr → Value → Option Addr → TS}
end
section
variable {X : Cx} {C fI : Addr} {f : Str} {b : Bk}
end
end HH
set_option maxHeartbeats 4000000
namespace HH
open PySem PySem.Spec PyProof.Rows L2 Evl RZ
structure FnG (P : Program) (w : World) (K : PySem.W.Frag) (mg : Str → Option Value) (base : Heap) (k : Nat) (f : Addr) (fd : FuncData) (ps : List Str) (sp : Sp) : Prop where
  len : ∀ vs H Q E, sp vs H Q E → vs.length = ps.length
  run : ∀ (A : Around) (outer : List Env) (s : Shared) (H : Hp) (args : Args) (us : List Value) (vs : List V) (Q : VK) (E : XK), A.guards = some [] → Room k A → Env0 P w K mg base A outer s H → BindsTo s fd args (ps.zip us) → Vals vs us → sp vs H Q E →
    codeAny (model P w) A (.call (.ref f) args) (CR CX0 outer P w H s Q E) s
theorem FnG.of {P : Program} {w : World} {K : PySem.W.Frag} {mg : Str → Option Value} {base : Heap} {k : Nat} {f : Addr} {x qual : Str} {params : Arguments} {body : List Stmt} {scope : Scope} {kws : List (Str × V)} {fd : FuncData} {N ps : List Str} {sp : Sp}
    (F : FunD K x qual params body scope [] kws f fd) (S : FnScope N ps scope) (len : ∀ vs H Q E, sp vs H Q E → vs.length = ps.length)
    (hbody : ∀ (cdv : Value) (A : Around) (outer : List Env) (s : Shared) (H : Hp) (vs : List V) (Q : VK) (E : XK), (A.deeper (envOfC qual scope s.heap.objs.size f cdv)).guards = some [] → Room k (A.deeper (envOfC qual scope s.heap.objs.size f cdv)) → sp vs H Q E →
      ∃ t, PSs (cxOf CX0 P w K mg base N qual scope f cdv A outer s H E) body t ∧ t { nx := fun _ H' => Q .non H', rt := Q } (start N vs) H) : FnG P w K mg base (k + 1) f fd ps sp := by
  obtain ⟨oc, od, dV, kV, doc, pm, an, cdv, ct, osl, rfl, lk, hcd, _, _⟩ := F.ex
  refine ⟨len, fun A outer s H args us vs Q E hg hr e0 hb r hsp => ?_⟩
  have inK : K.In s.heap := e0.mod.kin.keeps fun c o z => (e0.bs c o z).1
  have noL : s.heap.NoLimit := e0.mod.nolimit.keeps fun c o z => (e0.bs c o z).1
  have kinds : ∀ y ∈ ps.zip us, scope.names.lookup y.1 = some .local ∨ (scope.names.lookup y.1 = some .cell ∧ ((cellsFrom (s.heap.objs.size + 1) scope.names []).lookup y.1).isSome = true) := fun ⟨nm, v⟩ hy =>
    (S.par nm (List.of_mem_zip hy).1).elim .inl fun z => .inr ⟨z, PySem.W.cellsFrom_some _ _ _ (.inl z)⟩
  refine codeAny_call_function hr.depth (inK _ _ lk) rfl S.co S.gen rfl (PySem.W.codeRec_of inK hcd) (hb _ _ _ _ (wpAny_newFunctionEnv_cells S.kind kinds fun env he s1 x => ?_))
  subst he
  refine ⟨noL.keeps x.toInCall.keep, codeAny_func ?_⟩
  obtain ⟨t, ht, hq⟩ := hbody cdv A outer s H vs Q E hg (hr.deeper _) hsp
  have I0 := inv_start (CX := CX0) (E := E) S hr.hd e0 (len _ _ _ _ hsp) r x
  refine wpAny_mono (ht.run [] s1 (start N vs) H _ I0 hq) (fun fl s' hs => ?_) fun e s' hs => hs
  cases fl with
  | ret u =>
    obtain ⟨v, σ', H', J, rv, q⟩ := hs
    exact ⟨v, H', J.os, J.bare, J.base, J.hok, rv, q⟩
  | next =>
    obtain ⟨σ', H', J, q⟩ := hs
    exact ⟨.non, H', J.os, J.bare, J.base, J.hok, rfl, q⟩
  | brk => exact hs.elim fun _ z => z.elim fun _ z => z.2.elim
  | cont => exact hs.elim fun _ z => z.elim fun _ z => z.2.elim
structure HasG (P : Program) (w : World) (K : PySem.W.Frag) (mg : Str → Option Value) (base : Heap) (k : Nat) (x : Str) (ps : List Str) (sp : Sp) (f : Addr) (fd : FuncData) : Prop where
  G : FnG P w K mg base k f fd ps sp
  g : mg x = some (.ref f)
  kp : PySem.W.keepIn K (.ref f) = true
  b : Binds K fd ps []
section
variable {X : Cx}
theorem pe_callG {x : Str} {p pos : Pos} {e : Expr} {es : List Expr} {k : Nat} {f : Addr} {fd : FuncData} {ps : List Str} {sp : Sp} {t : TA} (F : FnG X.prog X.w X.K X.mg X.base k f fd ps sp) (gd : X.A.guards = some []) (hr : Room k X.A) (hg : Gl X x) (hm : X.mg x = some (.ref f)) (hk : PySem.W.keepIn X.K (.ref f) = true) (hb : Binds X.K fd ps [])
    (ha : PA X (e :: es) t) (hdb : (x == ("__debug__" : Str)) = false := by decide) (he : starEach (e :: es) X.env = (false, eval e X.env) :: starEach es X.env := by rfl) (hpl : (backTo pos (starEach es X.env)).any (·.1) = false := by rfl) : PE X (.Call (.Name x p) (e :: es) [] pos) (tCall sp [] E0 t) := by
  refine ⟨fun pins s σ H Q I0 h0 => ?_⟩
  refine wpAny_Call_Name_kw (ld_glob I0 hg hm (PySem.W.callWith_K (h₀ := X.base) I0.ok.mod.kin hk (thn (ha.run pos pins s σ H _ I0 h0) fun us s1 ⟨vs, H1, I1, r, q⟩ => ⟨I1.kIn, ?_⟩) he hpl) hdb)
  have r2 : Vals (vs ++ []) (us ++ []) := r.append .nil
  refine wpAny_call (codeAny_mono (F.run X.A X.stack s1 H1 ⟨us, []⟩ (us ++ []) (vs ++ []) Q E0 gd hr I1.env0 (hb s1 us I1.kIn (r2.length.symm.trans (F.len _ _ _ _ q))) r2 q) fun z s' hq => ?_)
  match z, hq with
  | .error _, hq => exact hq.elim
  | .ok (.ret _), hq => exact I1.after hq
  | .ok .next, hq => exact hq.elim
  | .ok .brk, hq => exact hq.elim
  | .ok .cont, hq => exact hq.elim
theorem call_reprD (gd : X.A.guards = some []) (hu : X.A.units + 70 < cLine) : CallR X (.builtin "repr") (fun xs H Q => ∃ (a : Addr) (d : PyData), xs = [.ref a] ∧ Dp X.K H (.ref a) d ∧ Nice 60 d ∧ d.showable = true ∧ d.shown.length ≤ sizeLine ∧ Q (.str d.shown) H) := by
  intro pins s σ H xs us Q I0 r h
  obtain ⟨a, d, rfl, hd, hn, hs, hz, q⟩ := h
  obtain ⟨u, rfl, ru⟩ := vals1 r
  obtain ⟨as, rd⟩ := Dp.reads I0 d _ _ hd ru
  cases ru
  refine repr_of_reads' rd hs (fun z => ?_) gd (by have := hn.2; omega) (fun _ _ z => z) (fun h' u tk hk => ⟨.str d.shown, H, ?_, ⟨_, rfl⟩, q⟩) hz
  · rw [PyData.hasDict_of_canLay d hn.1] at z
    cases z
  · exact I0.kept (t' := tk) hk
end
end HH
set_option maxHeartbeats 4000000
namespace HH
open PySem PySem.Spec PyProof.Rows L2 Evl RZ
theorem askG {P : Program} {w : World} {K : PySem.W.Frag} {mg mb : Str → Option Value} {k : Nat} {fa a : Addr} {fd : FuncData} {x : Str} {sp : Sp} {s : Shared} {vs : List Value} {ns : List Int}
    (inK : K.In s.heap) (gN : s.heap.Ns mainGlobals mg) (bN : s.heap.Ns builtinsNs mb) (bB : ∀ x : Str, x ≠ "__name__" → mb x = bootBuiltins x) (noL : s.heap.NoLimit) (noG : s.gens = #[])
    (obj : s.heap.get? a = some { cls := .type "list", data := .seq vs.toArray }) (hInts : IntsAre vs ns) (few : ns.length ≤ sizeLine) (room : Room k callerA)
    (F : ∀ base : Heap, K.In base → base.Ns mainGlobals mg → FnG P w K mg base k fa fd [x] sp) (hBind : ∀ (s : Shared) (u : Value), BindsTo s fd ⟨[u], []⟩ [(x, u)])
    (asked : ∀ H : Hp, Only H → SqL K H a (ns.map V.int) → sp [.ref a] H (fun v _ => v = .bl true) fun _ _ _ => False) :
    codeAny (model P w) callerA (.call (.ref fa) ⟨[.ref a], []⟩) (fun r s' => r = .ok (.ret (.bool true)) ∧ OldK s.heap s'.heap ∧ s'.os = s.os ∧ AllBare s'.gens) s := by
  have vals := vals_ints hInts
  have from_ : ∀ H : Hp, Only H → SqL K H a (ns.map V.int) → HOk P w H s.heap → (∀ c, H c ≠ none → c = a) → (H a ≠ none → K.lookup a = none) →
      codeAny (model P w) callerA (.call (.ref fa) ⟨[.ref a], []⟩) (fun r s' => r = .ok (.ret (.bool true)) ∧ OldK s.heap s'.heap ∧ s'.os = s.os ∧ AllBare s'.gens) s := by
    intro H only reads ok hA hK
    have dictN : ∀ {c : Addr} {o : Obj} {es : Array DictEntry} {ep : Nat}, s.heap.get? c = some o → o.data = .dict es ep → H c = none := by
      intro c o es ep e d
      by_cases z : H c = none
      · exact z
      · have z' := hA c z
        subst z'
        rw [obj] at e
        cases e
        cases d
    have keepN : ∀ {c : Addr} {m : Str → Option Value}, s.heap.Ns c m → (hidT s.heap H).Ns c m := by
      intro c m h
      obtain ⟨o, es, ep, e, d, r⟩ := h
      exact ⟨o, es, ep, hidT_get e (dictN e d), d, r⟩
    have keepK : K.In (hidT s.heap H) := by
      intro c o e
      refine hidT_get (inK c o e) ?_
      by_cases z : H c = none
      · exact z
      · have z' := hA c z
        subst z'
        rw [hK z] at e
        cases e
    obtain ⟨mc, lim1, lim2⟩ := noL
    have env0 : Env0 P w K mg (hidT s.heap H) callerA [] s H := ⟨rfl, ⟨keepK, keepN gN, ⟨mb, keepN bN, bB⟩, ⟨mc, keepN lim1, lim2⟩⟩, fun c o e => of_hidT e, Nat.le_of_eq (hidT_size _ _), trivial, fun c hc => (List.not_mem_nil (show c ∈ ([] : List Addr) from hc)).elim, ok, .of_eq noG⟩
    have out := (F _ keepK (keepN gN)).run callerA [] s H ⟨[.ref a], []⟩ [.ref a] [.ref a] _ _ rfl room env0 (hBind s (.ref a)) (.cons rfl .nil) (asked H only reads)
    refine codeAny_mono out fun r s' h => ?_
    match r, h with
    | .error _, h => exact h.elim
    | .ok .next, h => exact h.elim
    | .ok .brk, h => exact h.elim
    | .ok .cont, h => exact h.elim
    | .ok (.ret u), h =>
      obtain ⟨v, H', os, bare, un, ok', rel, q⟩ := h
      have q' : v = .bl true := q
      subst q'
      have ub : u = Value.bool true := rel
      subst ub
      refine ⟨rfl, OldK.of_keep fun c o e => ?_, os, bare⟩
      rcases only c with z | ⟨ob, xs, z⟩
      · exact un.keep c o e z (fun m => (List.not_mem_nil (show c ∈ ([] : List Addr) from m)).elim) (by simp)
      · have e1 := (ok c _ z).1
        have e2 := (ok' c _ (un.frzs c ob _ z)).1
        rw [e] at e1
        cases e1
        exact e2
  by_cases z : K.lookup a = none
  · refine from_ (fun c => if c = a then some (.frz { cls := .type "list", data := .seq vs.toArray } (.lst (ns.map V.int))) else none) (fun c => ?_) (.inl (.inr ⟨{ cls := .type "list", data := .seq vs.toArray }, if_pos rfl⟩)) (fun c u h => ?_) (fun c h => ?_) fun _ => z
    · by_cases hc : c = a
      · exact .inr ⟨_, _, if_pos hc⟩
      · exact .inl (if_neg hc)
    · by_cases hc : c = a
      · subst hc
        cases (if_pos rfl).symm.trans h
        exact ⟨obj, by rw [List.length_map]; exact few, vs, _, vals, obj⟩
      · cases (if_neg hc).symm.trans h
    · by_cases hc : c = a
      · exact hc
      · exact absurd (if_neg hc) h
  · obtain ⟨o, ho⟩ := Option.ne_none_iff_exists'.mp z
    have e := inK a o ho
    rw [obj] at e
    cases e
    refine from_ (fun _ => none) (fun _ => .inl rfl) (.inr ⟨_, vs.toArray, _, ho, rfl, rfl, rfl, by rw [List.size_toArray, hInts.length]; exact few, by simpa using vals⟩) (fun c u h => ?_) (fun c h => absurd rfl h) fun h => absurd rfl h
    have h' : (none : Option HO) = some u := h
    cases h'
theorem walk_ofG {l : PySem.W.OpenLaw} {n k : Nat} {q : Program} {loose : List Str} {XP : (Str → Option Value) → Heap → Prop} {YP : World → Heap → Prop} {d : DefRec} {x : Str} (hn : l.most = some n) (hn2 : n ≤ sizeLine) (hdf : d.params.defaults = []) (hr : Room k callerA)
    (F : ∀ (w : World) (mg : Str → Option Value) (fa : Addr) (h : Heap), YP w h → h.Ns mainGlobals mg → mg d.name = some (.ref fa) → ∃ (K : PySem.W.Frag) (fd : FuncData) (sp : Sp), K.In h ∧ (∀ (s : Shared) (u : Value), BindsTo s fd ⟨[u], []⟩ [(x, u)]) ∧
        (∀ (H : Hp) (a : Addr) (ns : List Int), ns.length ≤ n → Only H → SqL K H a (ns.map V.int) → sp [.ref a] H (fun v _ => v = .bl true) fun _ _ _ => False) ∧ ∀ base : Heap, K.In base → base.Ns mainGlobals mg → FnG l.prog w K mg base k fa fd [x] sp) :
    PySem.W.WalkO q loose XP YP l.row.toRowW d [] (fun f vs => PySem.call f vs) :=
  Att.attach_call hn hdf fun w s₀ s₁ mg mb fa o pm cd doc a vs ns G Y ho hd hcd hmg hobj hints hlen hg => by
    obtain ⟨K, fd, sp, KX, hb, hsp, hF⟩ := F w mg fa _ Y G.T.g hmg
    exact askG KX G.T.g G.T.b G.T.builtins G.T.nolimit hg hobj hints (Nat.le_trans hlen hn2) hr hF hb fun H hO hS => hsp H a ns hlen hO hS
end HH
set_option maxHeartbeats 4000000
namespace HH
open PySem PySem.Spec PyProof.Rows L2 Evl RZ
section
variable {X : Cx}
end
def Step (L M : List Cow) : Prop := ∃ (pre post : List Cow) (a b : Cow), L = pre ++ a :: b :: post ∧ b.2.1 - a.2.2 > a.2.1 ∧ M = pre ++ (b.1, (b.2.1 - a.2.2, b.2.2)) :: a :: post
inductive Steps : List Cow → List Cow → Prop
  | refl (L : List Cow) : Steps L L
  | head {L M N : List Cow} : Step L M → Steps M N → Steps L N
theorem Steps.trans {L M N : List Cow} (h : Steps L M) (g : Steps M N) : Steps L N := by
  induction h with
  | refl => exact g
  | head s _ ih => exact .head s (ih g)
theorem Steps.one {L M : List Cow} (h : Step L M) : Steps L M := .head h (.refl M)
def Nf (L : List Cow) : Prop := ∀ M, ¬ Step L M
theorem Step.under {L M : List Cow} (pre post : List Cow) (h : Step L M) : Step (pre ++ L ++ post) (pre ++ M ++ post) := by
  obtain ⟨p, q, a, b, rfl, hp, rfl⟩ := h
  exact ⟨pre ++ p, q ++ post, a, b, by simp, hp, by simp⟩
theorem Steps.under {L M : List Cow} (pre post : List Cow) (h : Steps L M) : Steps (pre ++ L ++ post) (pre ++ M ++ post) := by
  induction h with
  | refl => exact .refl _
  | head s _ ih => exact .head (s.under pre post) ih
theorem three {a b c : Cow} (ta : 0 ≤ a.2.2) (tb : 0 ≤ b.2.2) (h1 : b.2.1 - a.2.2 > a.2.1) (h2 : c.2.1 - b.2.2 > b.2.1) :
    Steps [(b.1, (b.2.1 - a.2.2, b.2.2)), a, c] [(c.1, (c.2.1 - a.2.2 - b.2.2, c.2.2)), (b.1, (b.2.1 - a.2.2, b.2.2)), a] ∧ Steps [a, (c.1, (c.2.1 - b.2.2, c.2.2)), b] [(c.1, (c.2.1 - a.2.2 - b.2.2, c.2.2)), (b.1, (b.2.1 - a.2.2, b.2.2)), a] := by
  constructor
  · refine .head (M := [(b.1, (b.2.1 - a.2.2, b.2.2)), (c.1, (c.2.1 - a.2.2, c.2.2)), a]) ⟨[(b.1, (b.2.1 - a.2.2, b.2.2))], [], a, c, rfl, by omega, rfl⟩ (.one ⟨[], [a], (b.1, (b.2.1 - a.2.2, b.2.2)), (c.1, (c.2.1 - a.2.2, c.2.2)), rfl, by dsimp only; omega, rfl⟩)
  · have e : c.2.1 - a.2.2 - b.2.2 = c.2.1 - b.2.2 - a.2.2 := by omega
    rw [e]
    exact .head (M := [(c.1, (c.2.1 - b.2.2 - a.2.2, c.2.2)), a, b]) ⟨[], [b], a, (c.1, (c.2.1 - b.2.2, c.2.2)), rfl, by dsimp only; omega, rfl⟩ (.one ⟨[(c.1, (c.2.1 - b.2.2 - a.2.2, c.2.2))], [], a, b, rfl, h1, rfl⟩)
theorem splits {α : Type} : ∀ {p p' : List α} {a b a' b' : α} {q q' : List α}, p ++ a :: b :: q = p' ++ a' :: b' :: q' →
    (p = p' ∧ a = a' ∧ b = b' ∧ q = q') ∨ (∃ c, p' = p ++ [a] ∧ a' = b ∧ b' = c ∧ q = c :: q') ∨ (∃ c, p = p' ++ [a'] ∧ a = b' ∧ b = c ∧ q' = c :: q) ∨ (∃ m, p' = p ++ a :: b :: m ∧ q = m ++ a' :: b' :: q') ∨ (∃ m, p = p' ++ a' :: b' :: m ∧ q' = m ++ a :: b :: q)
  | [], [], _, _, _, _, _, _, h => by
    simp only [List.nil_append, List.cons.injEq] at h
    exact .inl ⟨rfl, h.1, h.2.1, h.2.2⟩
  | [], [x], a, b, a', b', q, q', h => by
    simp only [List.nil_append, List.cons_append, List.cons.injEq] at h
    exact .inr (.inl ⟨b', by simp [h.1], h.2.1.symm, rfl, h.2.2⟩)
  | [], x :: y :: m, a, b, a', b', q, q', h => by
    simp only [List.nil_append, List.cons_append, List.cons.injEq] at h
    exact .inr (.inr (.inr (.inl ⟨m, by simp [h.1, h.2.1], h.2.2⟩)))
  | [x], [], a, b, a', b', q, q', h => by
    simp only [List.nil_append, List.cons_append, List.cons.injEq] at h
    exact .inr (.inr (.inl ⟨b, by simp [h.1], h.2.1, rfl, h.2.2.symm⟩))
  | x :: y :: m, [], a, b, a', b', q, q', h => by
    simp only [List.nil_append, List.cons_append, List.cons.injEq] at h
    exact .inr (.inr (.inr (.inr ⟨m, by simp [h.1, h.2.1], h.2.2.symm⟩)))
  | x :: p, y :: p', a, b, a', b', q, q', h => by
    simp only [List.cons_append, List.cons.injEq] at h
    obtain ⟨rfl, h⟩ := h
    rcases splits h with ⟨rfl, k⟩ | ⟨c, rfl, k⟩ | ⟨c, rfl, k⟩ | ⟨m, rfl, k⟩ | ⟨m, rfl, k⟩
    · exact .inl ⟨rfl, k⟩
    · exact .inr (.inl ⟨c, rfl, k⟩)
    · exact .inr (.inr (.inl ⟨c, rfl, k⟩))
    · exact .inr (.inr (.inr (.inl ⟨m, rfl, k⟩)))
    · exact .inr (.inr (.inr (.inr ⟨m, rfl, k⟩)))
theorem near {L M N : List Cow} (ht : ∀ x ∈ L, 0 ≤ x.2.2) (h : Step L M) (g : Step L N) : ∃ J, Steps M J ∧ Steps N J := by
  obtain ⟨p, q, a, b, rfl, h1, rfl⟩ := h
  obtain ⟨p', q', a', b', e, h2, rfl⟩ := g
  rcases splits e with ⟨rfl, rfl, rfl, rfl⟩ | ⟨c, rfl, rfl, rfl, rfl⟩ | ⟨c, rfl, rfl, rfl, rfl⟩ | ⟨m, rfl, rfl⟩ | ⟨m, rfl, rfl⟩
  · exact ⟨_, .refl _, .refl _⟩
  · obtain ⟨s1, s2⟩ := three (a := a) (b := a') (c := b') (ht a (by simp)) (ht a' (by simp)) h1 h2
    refine ⟨p ++ [(b'.1, (b'.2.1 - a.2.2 - a'.2.2, b'.2.2)), (a'.1, (a'.2.1 - a.2.2, a'.2.2)), a] ++ q', ?_, ?_⟩
    · have := s1.under p q'
      simpa using this
    · have := s2.under p q'
      simpa using this
  · obtain ⟨s1, s2⟩ := three (a := a') (b := a) (c := b) (ht a' (by simp)) (ht a (by simp)) h2 h1
    refine ⟨p' ++ [(b.1, (b.2.1 - a'.2.2 - a.2.2, b.2.2)), (a.1, (a.2.1 - a'.2.2, a.2.2)), a'] ++ q, ?_, ?_⟩
    · have := s2.under p' q
      simpa using this
    · have := s1.under p' q
      simpa using this
  · refine ⟨p ++ (b.1, (b.2.1 - a.2.2, b.2.2)) :: a :: (m ++ (b'.1, (b'.2.1 - a'.2.2, b'.2.2)) :: a' :: q'), .one ⟨p ++ (b.1, (b.2.1 - a.2.2, b.2.2)) :: a :: m, q', a', b', by simp, h2, by simp⟩, .one ⟨p, m ++ (b'.1, (b'.2.1 - a'.2.2, b'.2.2)) :: a' :: q', a, b, by simp, h1, by simp⟩⟩
  · refine ⟨p' ++ (b'.1, (b'.2.1 - a'.2.2, b'.2.2)) :: a' :: (m ++ (b.1, (b.2.1 - a.2.2, b.2.2)) :: a :: q), .one ⟨p', m ++ (b.1, (b.2.1 - a.2.2, b.2.2)) :: a :: q, a', b', by simp, h2, by simp⟩, .one ⟨p' ++ (b'.1, (b'.2.1 - a'.2.2, b'.2.2)) :: a' :: m, q, a, b, by simp, h1, by simp⟩⟩
structure Good (L : List Cow) : Prop where
  tl : ∀ x ∈ L, 0 ≤ x.2.2
  nd : (L.map (·.1)).Nodup
  iv : PInv L
theorem Good.step {L M : List Cow} (g : Good L) (h : Step L M) : Good M ∧ asc (M.map (·.1)) < asc (L.map (·.1)) := by
  obtain ⟨p, q, a, b, rfl, h1, rfl⟩ := h
  obtain ⟨f1, f2, f3⟩ := facts_pass (n := (p ++ a :: b :: q).length) (ps := []) (q := (0, 0)) ⟨rfl, g.tl, g.nd, by
    have := asc_le ((p ++ a :: b :: q).map (·.1))
    rw [List.length_map] at this
    show 0 + _ ≤ _
    omega⟩ g.iv h1
  exact ⟨⟨f1.tl, f1.nd, f2⟩, f3⟩
theorem Good.steps {L M : List Cow} (g : Good L) (h : Steps L M) : Good M := by
  induction h with
  | refl => exact g
  | head s _ ih => exact ih (g.step s).1
theorem some_nf : ∀ (n : Nat) {L : List Cow}, Good L → asc (L.map (·.1)) ≤ n → ∃ N, Steps L N ∧ Nf N
  | n, L, g, h => by
    by_cases z : Nf L
    · exact ⟨L, .refl L, z⟩
    · have z' : ∃ M, Step L M := Classical.byContradiction fun e => z fun M s => e ⟨M, s⟩
      obtain ⟨M, s⟩ := z'
      obtain ⟨g2, lt⟩ := g.step s
      cases n with
      | zero => omega
      | succ n =>
        obtain ⟨N, s2, nf⟩ := some_nf n g2 (by omega)
        exact ⟨N, .head s s2, nf⟩
theorem one_nf : ∀ (n : Nat) {L N N' : List Cow}, Good L → asc (L.map (·.1)) ≤ n → Steps L N → Nf N → Steps L N' → Nf N' → N = N'
  | n, L, N, N', g, h, s, nf, s', nf' => by
    cases s with
    | refl =>
      cases s' with
      | refl => rfl
      | head t _ => exact (nf _ t).elim
    | @head _ M _ t u =>
      cases s' with
      | refl => exact (nf' _ t).elim
      | @head _ M' _ t' u' =>
        obtain ⟨J, j1, j2⟩ := near g.tl t t'
        obtain ⟨g2, l2⟩ := g.step t
        obtain ⟨g3, l3⟩ := g.step t'
        cases n with
        | zero => omega
        | succ n =>
          obtain ⟨O, so, nfo⟩ := some_nf _ (g2.steps j1) (Nat.le_refl _)
          have e1 := one_nf n g2 (by omega) u nf (j1.trans so) nfo
          have e2 := one_nf n g3 (by omega) u' nf' (j2.trans so) nfo
          rw [e1, e2]
theorem good_tag {rs : HH.Row} (h : ∀ b ∈ rs, 0 ≤ b.2) : Good (tag 0 rs) := ⟨(facts_tag h).tl, (facts_tag h).nd, pinv_tag 0 rs⟩
theorem Steps.snoc {L M N : List Cow} (h : Steps L M) (s : Step M N) : Steps L N := h.trans (.one s)
theorem PRun.steps {L0 L : List Cow} {ps : List (Int × Int)} (h : PRun L0 L ps) : Steps L0 L := by
  induction h with
  | nil => exact .refl _
  | step _ hp ih => exact ih.snoc ⟨_, _, _, _, rfl, hp, rfl⟩
theorem nf_of {L : List Cow} (h : HH.passL (rowsOf L) = []) : Nf L := by
  intro M s
  obtain ⟨p, q, a, b, rfl, hp, rfl⟩ := s
  have h1 : letsN (rowsOf (p ++ a :: b :: q)) (p.length + 1) = true := by
    rw [rows_mid, show p.length = (rowsOf p).length from (cow_len p).symm, lets_split]
    exact decide_eq_true hp
  have h2 : V.int ((p.length + 1 : Nat) : Int) ∈ HH.passL (rowsOf (p ++ a :: b :: q)) := by
    unfold HH.passL given
    refine List.mem_map_of_mem (f := fun i : Nat => V.int (i : Int)) (List.mem_filter.mpr ⟨List.mem_range.mpr ?_, h1⟩)
    rw [cow_len, List.length_append, List.length_cons, List.length_cons]
    omega
  rw [h] at h2
  cases h2
end HH
set_option maxHeartbeats 4000000
namespace HH
open PySem PySem.Spec PyProof.Rows L2 Evl RZ
def NfR : List Cow → Prop
  | [] => True
  | [_] => True
  | a :: b :: r => ¬ (b.2.1 - a.2.2 > a.2.1) ∧ NfR (b :: r)
theorem nfr_tail {a : Cow} {r : List Cow} (h : NfR (a :: r)) : NfR r := by
  cases r with
  | nil => exact True.intro
  | cons b r => exact h.2
theorem nfr_nf : ∀ {L : List Cow}, NfR L → Nf L := by
  intro L h M s
  obtain ⟨p, q, a, b, rfl, hp, rfl⟩ := s
  induction p with
  | nil => exact h.1 hp
  | cons x p ih => exact ih (nfr_tail h)
theorem nfr_in {w : Cow} : ∀ {A B : List Cow}, NfR (A ++ B) → (∀ x, A.getLast? = some x → ¬ (w.2.1 - x.2.2 > x.2.1)) → (∀ b r, B = b :: r → ¬ (b.2.1 - w.2.2 > w.2.1)) → NfR (A ++ w :: B)
  | [], [], _, _, _ => True.intro
  | [], b :: r, h, _, g => ⟨g b r rfl, h⟩
  | [x], B, h, f, g => ⟨f x rfl, by
    have := nfr_in (w := w) (A := []) (B := B) (nfr_tail h) (fun _ z => by cases z) g
    exact this⟩
  | x :: y :: A, B, h, f, g => ⟨h.1, nfr_in (A := y :: A) (B := B) h.2 (fun z hz => f z (by rw [List.getLast?_cons_cons]; exact hz)) g⟩
structure Kept (S T : List Int) (N : List Cow) : Prop where
  s : ∀ x ∈ N, S[x.1]? = some x.2.1
  t : ∀ x ∈ N, T[x.1]? = some x.2.2
def ExB2 (a b : Addr) (H H' : Hp) : Prop := ∀ c o, c ≠ a → c ≠ b → H c = some o → H' c = some o
structure LastAt (K : PySem.W.Frag) (H : Hp) (q : Addr) (L : List Cow) : Prop where
  ex : ∃ (v : V) (ot : Addr), H q = some (.tup [v, .ref ot]) ∧ RowAt K H v (rowsOf L) ∧ H ot = some (.tup (ordL L))
theorem LastAt.mono {K : PySem.W.Frag} {H H' : Hp} {q : Addr} {L : List Cow} (h : LastAt K H q L) (e : Ex H H') : LastAt K H' q L := by
  obtain ⟨v, ot, h1, h2, h3⟩ := h.ex
  exact ⟨v, ot, e _ _ h1, h2.ex e, e _ _ h3⟩
section
variable {K : PySem.W.Frag} {σ : L2.St} {H H' : Hp} {te : TE} {v : V}
end
end HH
set_option maxHeartbeats 4000000
namespace HH
open PySem PySem.Spec PyProof.Rows L2 Evl RZ
section
variable {K : PySem.W.Frag} {σ : L2.St} {p : Addr} {ta tb te : TE} {D : Ends} {tz : TS}
end
theorem ev_pow {σ : L2.St} {H : Hp} {a b c : Int} (h : CPow a b) (e : a ^ b.toNat = c) : Ev (tOp (rI CPow fun i j => .int (i ^ j.toNat)) (tC (.int a)) (tC (.int b))) σ H (.int c) := ev_is (ev_op ev_c ev_c (rv_I h)) (by rw [e])
end HH
set_option maxHeartbeats 4000000
namespace HH
open PySem PySem.Spec PyProof.Rows L2 Evl RZ
def beastD (b : Int × Int) : PyData := .tuple [.int b.1, .int b.2]
def rowD (rs : HH.Row) : PyData := .tuple (rs.map beastD)
theorem Beasts.uncons {K : PySem.W.Frag} {H : Hp} {v : V} {vs : List V} {b : Int × Int} {rs : HH.Row} (h : Beasts K H (v :: vs) (b :: rs)) : BeastAt K H v b ∧ Beasts K H vs rs := by
  refine ⟨?_, Nat.succ.inj h.1, fun i c hi => ?_⟩
  · obtain ⟨u, hu, g⟩ := h.2 0 b rfl
    cases hu
    exact g
  · obtain ⟨u, hu, g⟩ := h.2 (i + 1) c hi
    exact ⟨u, hu, g⟩
theorem beasts_dp {K : PySem.W.Frag} {H : Hp} : ∀ {vs : List V} {rs : HH.Row}, Beasts K H vs rs → DpAll K H vs (rs.map beastD)
  | [], [], _ => .nil
  | [], _ :: _, h => by cases h.1
  | _ :: _, [], h => by cases h.1
  | v :: vs, b :: rs, h => by
    obtain ⟨⟨p, rfl, hp⟩, h2⟩ := h.uncons
    exact .cons (.tup hp (.cons (.int _) (.cons (.int _) .nil))) (beasts_dp h2)
theorem RowAt.dp {K : PySem.W.Frag} {H : Hp} {v : V} {rs : HH.Row} (h : RowAt K H v rs) : ∃ a, v = .ref a ∧ Dp K H (.ref a) (rowD rs) := by
  obtain ⟨a, vs, rfl, h1, h2⟩ := h
  exact ⟨a, rfl, .tup h1 (beasts_dp h2)⟩
theorem nice_beast (b : Int × Int) : Nice 1 (beastD b) := nice_tuple (k := 0) fun d hd => by
  rcases List.mem_cons.mp hd with rfl | hd
  · exact nice_int 0 _
  · rcases List.mem_cons.mp hd with rfl | hd
    · exact nice_int 0 _
    · cases hd
theorem nice_mono {k j : Nat} {d : PyData} (h : Nice k d) (e : k ≤ j) : Nice j d := ⟨h.1, Nat.le_trans h.2 e⟩
def Low (b : Int × Int) : Prop := b.1.natAbs < 10 ^ 18 ∧ b.2.natAbs < 10 ^ 18
theorem Tame.low {b : Int × Int} (h : Tame b) : Low b := by
  unfold Tame at h
  have e : (10 : Int) ^ 12 = 1000000000000 := by decide
  have e2 : (10 : Nat) ^ 18 = 1000000000000000000 := by decide
  rw [e] at h
  unfold Low
  rw [e2]
  omega
section
variable {K : PySem.W.Frag} {σ : L2.St} {H H' : Hp} {te : TE} {v : V}
end
theorem Alike.up {K : PySem.W.Frag} {H : Hp} : ∀ {d : Nat} {x y : V}, Alike K H d x y → Alike K H (d + 1) x y
  | 0, _, _, h => h.elim
  | d + 1, x, y, h => by
    rcases h with h | ⟨a, b, xs, ys, h1, h2, h3, h4, h5, h6⟩
    · exact .inl h
    · exact .inr ⟨a, b, xs, ys, h1, h2, h3, h4, h5, fun i u v hu hv => (h6 i u v hu hv).up⟩
def lastD (L : List Cow) : PyData := .tuple [rowD (rowsOf L), .tuple ((L.map fun x => (x.1 : Int)).map PyData.int)]
theorem LastAt.dp {K : PySem.W.Frag} {H : Hp} {p : Addr} {L : List Cow} (h : LastAt K H p L) : Dp K H (.ref p) (lastD L) := by
  obtain ⟨v, ot, h1, h2, h3⟩ := h.ex
  obtain ⟨a, rfl, hd⟩ := h2.dp
  have e : ordL L = (L.map fun x => (x.1 : Int)).map V.int := by
    unfold ordL
    rw [List.map_map]
    rfl
  rw [e] at h3
  exact .tup (st_of h1) (.cons hd (.cons (.tup (st_of h3) (dp_ints _)) .nil))
end HH
set_option maxHeartbeats 4000000
namespace HH
open PySem PySem.Spec PyProof.Rows L2 Evl RZ
def FStep (L M : List Cow) : Prop := ∃ (pre post : List Cow) (a b : Cow), L = pre ++ a :: b :: post ∧ a.2.1 > b.2.1 ∧ M = pre ++ b :: (a.1, (a.2.1 + b.2.2, a.2.2)) :: post
inductive FSteps : List Cow → List Cow → Prop
  | refl (L : List Cow) : FSteps L L
  | head {L M N : List Cow} : FStep L M → FSteps M N → FSteps L N
theorem FSteps.trans {L M N : List Cow} (h : FSteps L M) (g : FSteps M N) : FSteps L N := by
  induction h with
  | refl => exact g
  | head s _ ih => exact .head s (ih g)
theorem FSteps.one {L M : List Cow} (h : FStep L M) : FSteps L M := .head h (.refl M)
def Ff (L : List Cow) : Prop := ∀ M, ¬ FStep L M
theorem FStep.under {L M : List Cow} (pre post : List Cow) (h : FStep L M) : FStep (pre ++ L ++ post) (pre ++ M ++ post) := by
  obtain ⟨p, q, a, b, rfl, hp, rfl⟩ := h
  exact ⟨pre ++ p, q ++ post, a, b, by simp, hp, by simp⟩
theorem FSteps.under {L M : List Cow} (pre post : List Cow) (h : FSteps L M) : FSteps (pre ++ L ++ post) (pre ++ M ++ post) := by
  induction h with
  | refl => exact .refl _
  | head s _ ih => exact .head (s.under pre post) ih
theorem threeF {a b c : Cow} (tb : 0 ≤ b.2.2) (tc : 0 ≤ c.2.2) (h1 : a.2.1 > b.2.1) (h2 : b.2.1 > c.2.1) :
    FSteps [b, (a.1, (a.2.1 + b.2.2, a.2.2)), c] [c, (b.1, (b.2.1 + c.2.2, b.2.2)), (a.1, (a.2.1 + b.2.2 + c.2.2, a.2.2))] ∧ FSteps [a, c, (b.1, (b.2.1 + c.2.2, b.2.2))] [c, (b.1, (b.2.1 + c.2.2, b.2.2)), (a.1, (a.2.1 + b.2.2 + c.2.2, a.2.2))] := by
  constructor
  · exact .head (M := [b, c, (a.1, (a.2.1 + b.2.2 + c.2.2, a.2.2))]) ⟨[b], [], (a.1, (a.2.1 + b.2.2, a.2.2)), c, rfl, by dsimp only; omega, rfl⟩ (.one ⟨[], [(a.1, (a.2.1 + b.2.2 + c.2.2, a.2.2))], b, c, rfl, h2, rfl⟩)
  · have e : a.2.1 + b.2.2 + c.2.2 = a.2.1 + c.2.2 + b.2.2 := by omega
    rw [e]
    exact .head (M := [c, (a.1, (a.2.1 + c.2.2, a.2.2)), (b.1, (b.2.1 + c.2.2, b.2.2))]) ⟨[], [(b.1, (b.2.1 + c.2.2, b.2.2))], a, c, rfl, by omega, rfl⟩ (.one ⟨[c], [], (a.1, (a.2.1 + c.2.2, a.2.2)), (b.1, (b.2.1 + c.2.2, b.2.2)), rfl, by dsimp only; omega, rfl⟩)
theorem nearF {L M N : List Cow} (ht : ∀ x ∈ L, 0 ≤ x.2.2) (h : FStep L M) (g : FStep L N) : ∃ J, FSteps M J ∧ FSteps N J := by
  obtain ⟨p, q, a, b, rfl, h1, rfl⟩ := h
  obtain ⟨p', q', a', b', e, h2, rfl⟩ := g
  rcases splits e with ⟨rfl, rfl, rfl, rfl⟩ | ⟨c, rfl, rfl, rfl, rfl⟩ | ⟨c, rfl, rfl, rfl, rfl⟩ | ⟨m, rfl, rfl⟩ | ⟨m, rfl, rfl⟩
  · exact ⟨_, .refl _, .refl _⟩
  · obtain ⟨s1, s2⟩ := threeF (a := a) (b := a') (c := b') (ht a' (by simp)) (ht b' (by simp)) h1 h2
    refine ⟨p ++ [b', (a'.1, (a'.2.1 + b'.2.2, a'.2.2)), (a.1, (a.2.1 + a'.2.2 + b'.2.2, a.2.2))] ++ q', ?_, ?_⟩
    · have := s1.under p q'
      simpa using this
    · have := s2.under p q'
      simpa using this
  · obtain ⟨s1, s2⟩ := threeF (a := a') (b := a) (c := b) (ht a (by simp)) (ht b (by simp)) h2 h1
    refine ⟨p' ++ [b, (a.1, (a.2.1 + b.2.2, a.2.2)), (a'.1, (a'.2.1 + a.2.2 + b.2.2, a'.2.2))] ++ q, ?_, ?_⟩
    · have := s2.under p' q
      simpa using this
    · have := s1.under p' q
      simpa using this
  · refine ⟨p ++ b :: (a.1, (a.2.1 + b.2.2, a.2.2)) :: (m ++ b' :: (a'.1, (a'.2.1 + b'.2.2, a'.2.2)) :: q'), .one ⟨p ++ b :: (a.1, (a.2.1 + b.2.2, a.2.2)) :: m, q', a', b', by simp, h2, by simp⟩, .one ⟨p, m ++ b' :: (a'.1, (a'.2.1 + b'.2.2, a'.2.2)) :: q', a, b, by simp, h1, by simp⟩⟩
  · refine ⟨p' ++ b' :: (a'.1, (a'.2.1 + b'.2.2, a'.2.2)) :: (m ++ b :: (a.1, (a.2.1 + b.2.2, a.2.2)) :: q), .one ⟨p', m ++ b :: (a.1, (a.2.1 + b.2.2, a.2.2)) :: q, a', b', by simp, h2, by simp⟩, .one ⟨p' ++ b' :: (a'.1, (a'.2.1 + b'.2.2, a'.2.2)) :: m, q, a, b, by simp, h1, by simp⟩⟩
structure FGood (L : List Cow) : Prop where
  tl : ∀ x ∈ L, 0 ≤ x.2.2
  nd : (L.map (·.1)).Nodup
  iv : FInv L
theorem FGood.step {L M : List Cow} (g : FGood L) (h : FStep L M) : FGood M ∧ asc (M.map (·.1)) < asc (L.map (·.1)) := by
  obtain ⟨p, q, a, b, rfl, h1, rfl⟩ := h
  obtain ⟨f1, f2, f3⟩ := facts_fall (n := (p ++ a :: b :: q).length) (ps := []) (q := (0, 0)) ⟨rfl, g.tl, g.nd, by
    have := asc_le ((p ++ a :: b :: q).map (·.1))
    rw [List.length_map] at this
    show 0 + _ ≤ _
    omega⟩ g.iv h1
  exact ⟨⟨f1.tl, f1.nd, f2⟩, f3⟩
theorem FGood.steps {L M : List Cow} (g : FGood L) (h : FSteps L M) : FGood M := by
  induction h with
  | refl => exact g
  | head s _ ih => exact ih (g.step s).1
theorem some_ff : ∀ (n : Nat) {L : List Cow}, FGood L → asc (L.map (·.1)) ≤ n → ∃ N, FSteps L N ∧ Ff N
  | n, L, g, h => by
    by_cases z : Ff L
    · exact ⟨L, .refl L, z⟩
    · have z' : ∃ M, FStep L M := Classical.byContradiction fun e => z fun M s => e ⟨M, s⟩
      obtain ⟨M, s⟩ := z'
      obtain ⟨g2, lt⟩ := g.step s
      cases n with
      | zero => omega
      | succ n =>
        obtain ⟨N, s2, nf⟩ := some_ff n g2 (by omega)
        exact ⟨N, .head s s2, nf⟩
theorem one_ff : ∀ (n : Nat) {L N N' : List Cow}, FGood L → asc (L.map (·.1)) ≤ n → FSteps L N → Ff N → FSteps L N' → Ff N' → N = N'
  | n, L, N, N', g, h, s, nf, s', nf' => by
    cases s with
    | refl =>
      cases s' with
      | refl => rfl
      | head t _ => exact (nf _ t).elim
    | @head _ M _ t u =>
      cases s' with
      | refl => exact (nf' _ t).elim
      | @head _ M' _ t' u' =>
        obtain ⟨J, j1, j2⟩ := nearF g.tl t t'
        obtain ⟨g2, l2⟩ := g.step t
        obtain ⟨g3, l3⟩ := g.step t'
        cases n with
        | zero => omega
        | succ n =>
          obtain ⟨O, so, nfo⟩ := some_ff _ (g2.steps j1) (Nat.le_refl _)
          have e1 := one_ff n g2 (by omega) u nf (j1.trans so) nfo
          have e2 := one_ff n g3 (by omega) u' nf' (j2.trans so) nfo
          rw [e1, e2]
theorem fgood_tag {rs : HH.Row} (h : ∀ b ∈ rs, 0 ≤ b.2) : FGood (tag 0 rs) := ⟨(facts_tag h).tl, (facts_tag h).nd, finv_tag 0 rs⟩
theorem FSteps.snoc {L M N : List Cow} (h : FSteps L M) (s : FStep M N) : FSteps L N := h.trans (.one s)
theorem FRun.steps {L0 L : List Cow} {ps : List (Int × Int)} (h : FRun L0 L ps) : FSteps L0 L := by
  induction h with
  | nil => exact .refl _
  | step _ hp ih => exact ih.snoc ⟨_, _, _, _, rfl, hp, rfl⟩
theorem ff_of {L : List Cow} (hl : 0 < L.length) (h : HH.fallG (rowsOf L) = []) : Ff L := by
  intro M s
  obtain ⟨p, q, a, b, rfl, hp, rfl⟩ := s
  have h1 : fallsN (rowsOf (p ++ a :: b :: q)) p.length = true := by
    rw [rows_mid, show p.length = (rowsOf p).length from (cow_len p).symm, falls_split]
    exact decide_eq_true hp
  have h2 : V.int (p.length : Int) ∈ HH.fallG (rowsOf (p ++ a :: b :: q)) := by
    unfold HH.fallG given
    refine List.mem_map_of_mem (f := fun i : Nat => V.int (i : Int)) (List.mem_filter.mpr ⟨List.mem_range.mpr ?_, h1⟩)
    rw [cow_len, List.length_append, List.length_cons, List.length_cons]
    omega
  rw [h] at h2
  cases h2
def FfR : List Cow → Prop
  | [] => True
  | [_] => True
  | a :: b :: r => ¬ (a.2.1 > b.2.1) ∧ FfR (b :: r)
section
variable {K : PySem.W.Frag} {σ : L2.St} {H : Hp} {D : Ends} {tz tu : TS}
end
theorem el_listRg {σ : L2.St} {H : Hp} {te : TE} {n : Nat} (h : Ev te σ H (.int (n : Int))) (hn : n ≤ 100000) : EvL (tLstRg (tRg1 te)) σ H (rgV 0 (n : Int)) := fun H1 e Q q =>
  h H1 e _ fun H2 e2 => ⟨(n : Int), rfl, RgOk.of_le (by decide) (by omega) (by decide) (by omega), fun p hp => q p _ (fresh_back e2 hp) (e2.trans (Ex.new hp)) upd_same⟩
theorem sorted_same : ∀ {xs ys : List Int}, xs.Perm ys → xs.Pairwise (· ≤ ·) → ys.Pairwise (· ≤ ·) → xs = ys := fun p h g => p.eq_of_pairwise (fun a b _ _ h1 h2 => Int.le_antisymm h1 h2) h g
end HH
set_option maxHeartbeats 4000000
namespace PySem
open Sem (wp)
open AutoSeq1 (wpAny_loadPart')
theorem meets_enum_newT (t : Addr) (items : Array Value) (n : Nat) (dct : Option Addr) (sl : Array (Option Value)) :
    Meets (Builtin.«enumerate.__new__» ⟨[.type "enumerate", .ref t], []⟩) (fun _ R s => s.heap.get? t = some { cls := .type "tuple", dict := dct, data := .seq items n, slots := sl } ∧
      R (.ok (.ret (.ref (s.heap.push { cls := .type "tuple_iterator", data := .fields #[.ref t, .int 0 0] }).objs.size)))
        { s with heap := (s.heap.push { cls := .type "tuple_iterator", data := .fields #[.ref t, .int 0 0] }).push { cls := .type "enumerate", data := .fields #[.none, .bool false, .ref s.heap.objs.size, rawInt 0, .none, .none] } }) :=
  .of_wp fun prog w A R s h => by
    obtain ⟨hp, g, d, tk, os⟩ := s; obtain ⟨hl, h⟩ := h
    have hsub := sub_enumerate
    have hT : Heap.IsTuple (Shared.heap ⟨hp, g, d, tk, os⟩) t items := ⟨_, hl, rfl, n, rfl⟩
    wp_walk using wpAny_loadPart' hl
    refine wpAny_stack_any fun st => wpAny_pure ?_
    split
    · rename_i c _ _ _ _ _
      cases (c == Value.type "enumerate")
      · wp_walk using wpAny_loadPart' hl, wpAny_pyIter_tuple hT
        exact ⟨_, rfl, h⟩
      · wp_walk using wpAny_loadPart' hl, wpAny_pyIter_tuple hT
        exact ⟨_, rfl, h⟩
    · wp_walk using wpAny_loadPart' hl, wpAny_pyIter_tuple hT
      exact ⟨_, rfl, h⟩
section
variable {prog : Program} {w : World} {A : Around} {E : Value → Shared → Prop} {s : Shared}
theorem call_enum_tuple {t : Addr} {items : Array Value} {Q : Value → Shared → Prop} (hL : s.heap.IsTuple t items)
    (h : ∀ h', IsEnum h' (s.heap.objs.size + 1) s.heap.objs.size 0 .none → h'.IsTupleIter s.heap.objs.size t 0 → h'.objs.size = s.heap.objs.size + 2 →
      (∀ b o, s.heap.get? b = some o → h'.get? b = some o) → Q (.ref (s.heap.objs.size + 1)) { s with heap := h' }) :
    wpAny (model prog w) A (call (.type "enumerate") [.ref t]) Q E s := by
  obtain ⟨⟨c, dct, dt, sl⟩, hl, hc, n, hd⟩ := hL
  replace hc : c = .type "tuple" := hc
  replace hd : dt = .seq items n := hd
  subst hc hd
  refine callType_new F.called_enumerate (by decide) (F.typeCall_enumerate_1 _) (F.newCall_enumerate_1 _) (fun obj => F.args_object_init_2 obj _) F.entry_enumerate_new
    (meets_enum_newT t items n dct sl) ⟨hl, ?_⟩
  have hz : (s.heap.push { cls := .type "tuple_iterator", data := .fields #[.ref t, .int 0 0] }).objs.size = s.heap.objs.size + 1 := Heap.size_push ..
  show _ ∧ _
  rw [hz]
  have he : IsEnum ((s.heap.push { cls := .type "tuple_iterator", data := .fields #[.ref t, .int 0 0] }).push
      { cls := .type "enumerate", data := .fields #[.none, .bool false, .ref s.heap.objs.size, rawInt 0, .none, .none] }) (s.heap.objs.size + 1) s.heap.objs.size 0 .none := by
    have := Heap.get?_push_size (s.heap.push { cls := .type "tuple_iterator", data := .fields #[.ref t, .int 0 0] })
      (o := { cls := .type "enumerate", data := .fields #[.none, .bool false, .ref s.heap.objs.size, rawInt 0, .none, .none] }) rfl
    rw [hz] at this; exact this
  refine ⟨⟨_, he, rfl⟩, h _ he ⟨_, Heap.get?_push_of_some _ (Heap.get?_push_size _ rfl), rfl, rfl⟩ (by rw [Heap.size_push, hz]) fun b o x => Heap.get?_push_of_some _ (Heap.get?_push_of_some _ x)⟩
end
end PySem
namespace HH
open PySem PySem.Spec PyProof.Rows L2 Evl RZ
def IteT (K : PySem.W.Frag) (a : Addr) : It :=
  ⟨fun i H => ∃ (xs : List V) (x : V), SqT K H a xs ∧ xs[i]? = some x, fun i H v H' => ∃ T x, v = .ref T ∧ H T = none ∧ H' = upd H T (.tup [.int (i : Nat), x]) ∧ ∀ xs, SqT K H a xs → xs[i]? = some x, fun i H => ∃ xs : List V, SqT K H a xs ∧ xs.length = i⟩
theorem turn_enumT {P : Program} {w : World} {K : PySem.W.Frag} {elts : List Expr} {kk : Nat} {tpos : Pos} (a e it : Addr) :
    Turn P w K (.Tuple elts kk tpos) (IteT K a) [e, it] e (fun i h => (∃ old, IsEnum h e it ((i : Nat) : Int) old) ∧ h.IsTupleIter it a i ∧ e ≠ it) where
  mem := by simp
  obj := fun i h st b hb => by
    obtain ⟨⟨old, he⟩, ⟨o, ho, hc, hd⟩, _⟩ := st
    have e' : b = e ∨ b = it := by simpa using hb
    rcases e' with z | z
    · rw [z]; exact ⟨_, he, fun v q => nomatch q⟩
    · rw [z]; exact ⟨o, ho, fun v q => by rw [hd] at q; cases q⟩
  keep := fun i h h' st k => let ⟨⟨old, he⟩, hi, hne⟩ := st; ⟨⟨old, k e (by simp) _ he⟩, hi.at fun o q => k it (by simp) o q, hne⟩
  item := by
    intro X hP hw hK hc i pins s σ H E I hf st hg
    subst hP hw hK
    obtain ⟨⟨old, he⟩, hit, hne⟩ := st
    obtain ⟨xs, x, hq, hx⟩ := hg
    obtain ⟨its, rv, p, hz⟩ := I.tuple hq
    obtain ⟨u, hu, ru⟩ := rv.get hx
    have hel : e < s.heap.objs.size := Heap.lt_size he
    have hil : it < s.heap.objs.size := by obtain ⟨_, q, _⟩ := hit; exact Heap.lt_size q
    have pT : s.heap.IsTuple a its.toArray := p
    have hHa : ∀ b ∈ [e, it], a ≠ b := fun b hb z => by
      obtain ⟨o, ho, hoc, _⟩ := (show s.heap.IsTuple a its.toArray from p)
      obtain ⟨o2, ho2, hc2, _⟩ := hit
      have e' : b = e ∨ b = it := by simpa using hb
      rcases e' with z' | z'
      · rw [z, z', he] at ho
        rw [← Option.some.inj ho] at hoc
        revert hoc
        simp
      · rw [z, z', ho2] at ho
        rw [← Option.some.inj ho, hc2] at hoc
        revert hoc
        simp
    have hae : a ≠ e := hHa e (by simp)
    have hai : a ≠ it := hHa it (by simp)
    have hlt : i < its.toArray.size := by
      have := (List.getElem?_eq_some_iff.mp hu).1
      simpa using this
    refine wpAny_pyNext_enum_itemD (Draws.tuple (A := X.A.in1) (I.ok.hd hc) it a hai its.toArray) he ⟨hit, pT⟩ hlt hne (by simp; exact ⟨hne, Ne.symm hae⟩) fun y h' tk hy ho hst hT hsz hk => ?_
    have hyu : y = u := by
      have : its.toArray[i]? = some u := by simpa using hu
      rw [hy] at this
      exact Option.some.inj this
    subst hyu
    obtain ⟨hit', _⟩ := hst
    refine ⟨_, rfl, wpAny_letOwnedTupleGo_enum (s := { s with heap := h', toks := tk + 1 }) ho fun h'' he' sb => ?_⟩
    have hT2 : h''.get? s.heap.objs.size = some { cls := .type "tuple", data := .seq #[.int i tk, y] } := (sb.2 _ (Nat.ne_of_gt hel)).trans hT
    have new : ObjOk X.prog X.w (upd H s.heap.objs.size (.tup [.int (i : Nat), x])) h'' s.heap.objs.size (.tup [.int (i : Nat), x]) :=
      ⟨by show 2 ≤ sizeLine; decide, [.int i tk, y], .cons ⟨_, rfl⟩ (.cons ru .nil), ⟨_, hT2, rfl, _, rfl⟩⟩
    have I1 : Inv X pins σ (upd H s.heap.objs.size (.tup [.int (i : Nat), x])) { s with heap := h'', toks := tk + 1 } :=
      I.turnedNew (ch := [e, it]) (fun b ob hb q => (sb.2 b (fun z => hb (by simp [z]))).trans (hk b ob (fun z => hb (by simp [z])) (fun z => hb (by simp [z])) q)) hf (Nat.le_refl _) new
    refine ⟨.ref s.heap.objs.size, _, I1, rfl, ⟨_, x, rfl, I.hok.fresh (Nat.le_refl _), rfl, fun ys hy => by rw [I.tuple_inj hy hq]; exact hx⟩, ⟨⟨y, ?_⟩, hit'.at fun o q => (sb.2 it (Ne.symm hne)).trans q, hne⟩, fun b hb => ?_⟩
    · have e1 : ((i + 1 : Nat) : Int) = (i : Int) + 1 := by omega
      rw [e1]; exact he'
    · have hb' : b < s.heap.objs.size := by
        have e' : b = e ∨ b = it := by simpa using hb
        rcases e' with z | z
        · rw [z]; exact hel
        · rw [z]; exact hil
      rw [upd_ne (Nat.ne_of_lt hb')]
      exact (hf b hb).1
  done := by
    intro X hP hw hK hc i pins s σ H E I hf st hg
    subst hP hw hK
    obtain ⟨⟨old, he⟩, hit, hne⟩ := st
    obtain ⟨xs, hq, hx⟩ := hg
    obtain ⟨its, rv, p, hz⟩ := I.tuple hq
    have hHa : ∀ b ∈ [e, it], a ≠ b := fun b hb z => by
      obtain ⟨o, ho, hoc, _⟩ := (show s.heap.IsTuple a its.toArray from p)
      obtain ⟨o2, ho2, hc2, _⟩ := hit
      have e' : b = e ∨ b = it := by simpa using hb
      rcases e' with z' | z'
      · rw [z, z', he] at ho
        rw [← Option.some.inj ho] at hoc
        revert hoc
        simp
      · rw [z, z', ho2] at ho
        rw [← Option.some.inj ho, hc2] at hoc
        revert hoc
        simp
    have hai : a ≠ it := hHa it (by simp)
    have pT : s.heap.IsTuple a its.toArray := p
    obtain ⟨f0, f1, f2, f3, f4, f5⟩ := hf it (by simp)
    have hl := rv.length
    have hn : its.toArray.size = i := by simp; omega
    exact wpAny_pyNext_enum_endD (Draws.tuple (A := X.A.in1) (I.ok.hd hc) it a hai its.toArray) he (by rw [hn]; exact ⟨hit, pT⟩) fun h' eb => ⟨rfl, I.turned (t' := s.toks) (fun b o hb q => eb b o hb q) f0 f1 f3 f4 f5⟩
  self := fun A i s Q E st h => let ⟨⟨_, he⟩, _⟩ := st; wpAny_pyIter_enum he h
def iEnumT (K : PySem.W.Frag) (ta : TA) : TI := fun σ H R => ta σ H fun vs H1 => ∃ a xs, vs = [.ref a] ∧ SqT K H1 a xs ∧ R (IteT K a) H1
theorem pi_enumT {X : Cx} {e : Expr} {ta : TA} {p pos tpos : Pos} {elts : List Expr} {kk : Nat} (hg : Gl X "enumerate") (hm : X.mg "enumerate" = none) (ha : PA X [e] ta) (hs : starEach [e] X.env = [(false, eval e X.env)] := by rfl) :
    PI X (.Tuple elts kk tpos) (.Call (.Name "enumerate" p) [e] [] pos) (iEnumT X.K ta) := by
  refine ⟨fun pins s σ H R I h => ?_⟩
  refine Call_ (ld_blt I hg hm boot_enumerate (PyProof.Rows.callWith_type1 (thn (ha.run pos pins s σ H _ I h) fun us s1 ⟨vs, H1, I1, r1, q1⟩ => ?_) hs rfl))
  obtain ⟨a, xs, ex, hq, q⟩ := q1
  subst ex
  cases r1 with
  | cons r rr =>
    cases rr
    cases r
    obtain ⟨its, rv, p', hz⟩ := I1.tuple hq
    refine call_enum_tuple (show s1.heap.IsTuple a its.toArray from p') fun h' he hit hsz hk => wpAny_pyIter_enum he ?_
    have I2 : Inv X pins σ H1 { s1 with heap := h' } := I1.kept (t' := s1.toks) hk
    refine ⟨s1.heap.objs.size + 1, [s1.heap.objs.size + 1, s1.heap.objs.size], _, _, H1, rfl, I2, turn_enumT a (s1.heap.objs.size + 1) s1.heap.objs.size, ⟨⟨.none, he⟩, hit, Nat.succ_ne_self _⟩, fun b hb => ?_, q⟩
    have e' : b = s1.heap.objs.size + 1 ∨ b = s1.heap.objs.size := by simpa using hb
    have hle : s1.heap.objs.size ≤ b := by
      rcases e' with z | z
      · rw [z]; exact Nat.le_add_right _ _
      · rw [z]; exact Nat.le_refl _
    exact I1.fpOk hle (I1.hok.fresh hle)
theorem walk_enumT {K : PySem.W.Frag} {a : Addr} {xs : List V} : Walk (IteT K a) xs.length (fun H => SqT K H a xs) (YPair (fun i => some (.int (i : Nat))) (fun i => xs[i]?)) := by
  refine ⟨fun i _ hi q => ⟨xs, xs[i], q, by simp [hi]⟩, fun _ q => ⟨xs, q, rfl⟩, fun i H v H' _ q y => ?_⟩
  obtain ⟨T, x, h1, h2, h3, h4⟩ := y
  exact ⟨T, .int (i : Nat), x, h1, h2, h3, rfl, h4 xs q⟩
end HH
set_option maxHeartbeats 4000000
namespace HH
open PySem PySem.Spec PyProof.Rows L2 Evl RZ
def bef : List Nat → Nat → Nat → Bool
  | [], _, _ => false
  | x :: r, j, i => (decide (x = j) && decide (i ∈ r)) || bef r j i
theorem bef_cons {x : Nat} {r : List Nat} {j i : Nat} : bef (x :: r) j i = true ↔ (x = j ∧ i ∈ r) ∨ bef r j i = true := by
  simp [bef]
theorem bef_mem : ∀ {l : List Nat} {j i : Nat}, bef l j i = true → j ∈ l ∧ i ∈ l
  | [], _, _, h => by cases h
  | x :: r, j, i, h => by
    rcases bef_cons.mp h with ⟨rfl, h1⟩ | h1
    · exact ⟨List.mem_cons_self .., List.mem_cons_of_mem _ h1⟩
    · exact ⟨List.mem_cons_of_mem _ (bef_mem h1).1, List.mem_cons_of_mem _ (bef_mem h1).2⟩
theorem bef_swap {a b i j : Nat} {B : List Nat} (hab : a < b) (hij : i < j) : ∀ A : List Nat, bef (A ++ b :: a :: B) j i = true ↔ bef (A ++ a :: b :: B) j i = true ∨ (i = a ∧ j = b)
  | [] => by
    rw [List.nil_append, List.nil_append, bef_cons, bef_cons, bef_cons, bef_cons, List.mem_cons, List.mem_cons]
    constructor
    · rintro (⟨h1, h2 | h2⟩ | ⟨h1, h2⟩ | h)
      · exact .inr ⟨h2, h1.symm⟩
      · exact .inl (.inr (.inl ⟨h1, h2⟩))
      · exact .inl (.inl ⟨h1, .inr h2⟩)
      · exact .inl (.inr (.inr h))
    · rintro ((⟨h1, h2 | h2⟩ | ⟨h1, h2⟩ | h) | ⟨h1, h2⟩)
      · omega
      · exact .inr (.inl ⟨h1, h2⟩)
      · exact .inl ⟨h1, .inr h2⟩
      · exact .inr (.inr h)
      · exact .inl ⟨h2.symm, .inl h1⟩
  | x :: A => by
    rw [List.cons_append, List.cons_append, bef_cons, bef_cons, bef_swap hab hij A]
    have e : i ∈ A ++ b :: a :: B ↔ i ∈ A ++ a :: b :: B := by
      rw [List.mem_append, List.mem_append, List.mem_cons, List.mem_cons, List.mem_cons, List.mem_cons]
      constructor
      · rintro (h | h | h | h)
        · exact .inl h
        · exact .inr (.inr (.inl h))
        · exact .inr (.inl h)
        · exact .inr (.inr (.inr h))
      · rintro (h | h | h | h)
        · exact .inl h
        · exact .inr (.inr (.inl h))
        · exact .inr (.inl h)
        · exact .inr (.inr (.inr h))
    rw [e]
    constructor
    · rintro (h | h | h)
      · exact .inl (.inl h)
      · exact .inl (.inr h)
      · exact .inr h
    · rintro ((h | h) | h)
      · exact .inl h
      · exact .inr (.inl h)
      · exact .inr (.inr h)
theorem bef_lt : ∀ {l : List Nat} {p q j i : Nat}, l[p]? = some j → l[q]? = some i → p < q → bef l j i = true
  | [], p, q, j, i, h, _, _ => by cases h
  | x :: r, 0, 0, j, i, _, _, h => absurd h (Nat.lt_irrefl 0)
  | x :: r, 0, q + 1, j, i, h1, h2, _ => by
    have e : x = j := Option.some.inj h1
    exact bef_cons.mpr (.inl ⟨e, List.mem_of_getElem? (i := q) h2⟩)
  | x :: r, p + 1, 0, j, i, _, _, h => absurd h (Nat.not_lt_zero _)
  | x :: r, p + 1, q + 1, j, i, h1, h2, h => bef_cons.mpr (.inr (bef_lt (l := r) (p := p) (q := q) h1 h2 (by omega)))
theorem bef_get : ∀ {l : List Nat} {j i : Nat}, bef l j i = true → ∃ p q : Nat, p < q ∧ l[p]? = some j ∧ l[q]? = some i
  | [], _, _, h => by cases h
  | x :: r, j, i, h => by
    rcases bef_cons.mp h with ⟨rfl, h1⟩ | h1
    · obtain ⟨q, hq⟩ := List.getElem?_of_mem h1
      exact ⟨0, q + 1, by omega, rfl, hq⟩
    · obtain ⟨p, q, h2, h3, h4⟩ := bef_get h1
      exact ⟨p + 1, q + 1, by omega, h3, h4⟩
theorem nd_at {l : List Nat} (nd : l.Nodup) {p q j : Nat} (h1 : l[p]? = some j) (h2 : l[q]? = some j) : p = q := by
  have hp := (List.getElem?_eq_some_iff.mp h1).1
  exact (List.getElem?_inj hp nd).mp (h1.trans h2.symm)
theorem bef_iff {l : List Nat} (nd : l.Nodup) {p q j i : Nat} (h1 : l[p]? = some j) (h2 : l[q]? = some i) : bef l j i = decide (p < q) := by
  by_cases h : p < q
  · rw [decide_eq_true h]
    exact bef_lt h1 h2 h
  · rw [decide_eq_false h]
    cases hb : bef l j i with
    | false => rfl
    | true =>
      obtain ⟨p', q', h3, h4, h5⟩ := bef_get hb
      have := nd_at nd h1 h4
      have := nd_at nd h2 h5
      omega
def inP (l : List Nat) (i : Nat) (k : Nat) : Bool := bef l (i + 1 + k) i
def tabR (l : List Nat) (n i m : Nat) : List (Int × Int) := ((List.range m).filter (inP l i)).map fun k => ((i : Int), ((i + 1 + k : Nat) : Int))
def tab (l : List Nat) (n m : Nat) : List (Int × Int) := (List.range m).flatMap fun i => tabR l n i (n - (i + 1))
theorem tabR_succ (l : List Nat) (n i m : Nat) : tabR l n i (m + 1) = tabR l n i m ++ (if inP l i m = true then [((i : Int), ((i + 1 + m : Nat) : Int))] else []) := by
  unfold tabR
  rw [List.range_succ, List.filter_append, List.map_append]
  by_cases h : inP l i m = true
  · rw [if_pos h, List.filter_cons_of_pos h]
    rfl
  · rw [if_neg h, List.filter_cons_of_neg h]
    rfl
theorem tab_succ (l : List Nat) (n m : Nat) : tab l n (m + 1) = tab l n m ++ tabR l n m (n - (m + 1)) := by
  unfold tab
  rw [List.range_succ, List.flatMap_append]
  simp
theorem mem_tab {l : List Nat} {n : Nat} {p : Int × Int} : p ∈ tab l n n ↔ ∃ i j : Nat, i < j ∧ j < n ∧ p = ((i : Int), (j : Int)) ∧ bef l j i = true := by
  unfold tab tabR
  rw [List.mem_flatMap]
  constructor
  · rintro ⟨i, hi, h⟩
    obtain ⟨k, hk, rfl⟩ := List.mem_map.mp h
    obtain ⟨h1, h2⟩ := List.mem_filter.mp hk
    have h3 := List.mem_range.mp h1
    exact ⟨i, i + 1 + k, by omega, by omega, rfl, h2⟩
  · rintro ⟨i, j, h1, h2, rfl, h3⟩
    refine ⟨i, List.mem_range.mpr (by omega), List.mem_map.mpr ⟨j - (i + 1), List.mem_filter.mpr ⟨List.mem_range.mpr (by omega), ?_⟩, ?_⟩⟩
    · unfold inP
      rw [show i + 1 + (j - (i + 1)) = j by omega]
      exact h3
    · rw [show i + 1 + (j - (i + 1)) = j by omega]
def lexL (p q : Int × Int) : Prop := p.1 < q.1 ∨ (p.1 = q.1 ∧ p.2 < q.2)
theorem pw_tabR (l : List Nat) (n i m : Nat) : (tabR l n i m).Pairwise lexL := by
  unfold tabR
  rw [List.pairwise_map]
  refine List.Pairwise.filter _ ?_
  refine List.pairwise_lt_range.imp fun {a b} h => .inr ⟨rfl, ?_⟩
  show ((i + 1 + a : Nat) : Int) < ((i + 1 + b : Nat) : Int)
  omega
theorem pw_tab (l : List Nat) (n : Nat) : ∀ m, (tab l n m).Pairwise lexL
  | 0 => .nil
  | m + 1 => by
    rw [tab_succ]
    refine List.pairwise_append.mpr ⟨pw_tab l n m, pw_tabR l n m _, fun p hp q hq => ?_⟩
    obtain ⟨i, hi, h⟩ := List.mem_flatMap.mp hp
    obtain ⟨k, _, rfl⟩ := List.mem_map.mp h
    obtain ⟨k', _, rfl⟩ := List.mem_map.mp hq
    have := List.mem_range.mp hi
    exact .inl (by show (i : Int) < (m : Int); omega)
theorem lex_irr (p : Int × Int) : ¬ lexL p p := fun h => by
  rcases h with h | h
  · omega
  · omega
theorem nd_tab (l : List Nat) (n m : Nat) : (tab l n m).Nodup := (pw_tab l n m).imp fun {a b} h (e : a = b) => lex_irr b (by rw [e] at h; exact h)
structure Told (n : Nat) (l : List Nat) (ps : List (Int × Int)) : Prop where
  mem : ∀ p, p ∈ ps ↔ ∃ i j : Nat, i < j ∧ p = ((i : Int), (j : Int)) ∧ bef l j i = true
  nd : ps.Nodup
theorem told_swap {n a b : Nat} {A B : List Nat} {ps : List (Int × Int)} (t : Told n (A ++ a :: b :: B) ps) (hab : a < b) (nd : (A ++ a :: b :: B).Nodup) : Told n (A ++ b :: a :: B) (ps ++ [((a : Int), (b : Int))]) := by
  refine ⟨fun p => ?_, ?_⟩
  · rw [List.mem_append, List.mem_singleton, t.mem]
    constructor
    · rintro (⟨i, j, h1, h2, h3⟩ | rfl)
      · exact ⟨i, j, h1, h2, (bef_swap hab h1 A).mpr (.inl h3)⟩
      · exact ⟨a, b, hab, rfl, (bef_swap hab hab A).mpr (.inr ⟨rfl, rfl⟩)⟩
    · rintro ⟨i, j, h1, h2, h3⟩
      rcases (bef_swap hab h1 A).mp h3 with h4 | ⟨rfl, rfl⟩
      · exact .inl ⟨i, j, h1, h2, h4⟩
      · exact .inr h2
  · refine List.nodup_append.mpr ⟨t.nd, by simp, fun x hx y hy e => ?_⟩
    rw [List.mem_singleton] at hy
    subst e hy
    obtain ⟨i, j, h1, h2, h3⟩ := (t.mem _).mp hx
    have e1 : a = i := by
      have := congrArg Prod.fst h2
      have : (a : Int) = (i : Int) := this
      omega
    have e2 : b = j := by
      have := congrArg Prod.snd h2
      have : (b : Int) = (j : Int) := this
      omega
    subst e1 e2
    have g1 : (A ++ a :: b :: B)[A.length]? = some a := by simp
    have g2 : (A ++ a :: b :: B)[A.length + 1]? = some b := by
      rw [List.getElem?_append_right (by omega), show A.length + 1 - A.length = 1 by omega]
      rfl
    rw [bef_iff nd g2 g1] at h3
    have := of_decide_eq_true h3
    omega
theorem bef_range' : ∀ (k n : Nat) {j i : Nat}, bef (List.range' k n) j i = true → j < i
  | k, 0, _, _, h => by cases h
  | k, n + 1, j, i, h => by
    rw [List.range'_succ] at h
    rcases bef_cons.mp h with ⟨rfl, h1⟩ | h1
    · have := (List.mem_range'_1.mp h1).1
      omega
    · exact bef_range' _ n h1
theorem told_nil (n : Nat) : Told n (List.range n) [] := by
  refine ⟨fun p => ⟨(fun h => by cases h), ?_⟩, .nil⟩
  rintro ⟨i, j, h1, _, h2⟩
  rw [List.range_eq_range'] at h2
  have := bef_range' 0 n h2
  omega
theorem told_tab {n : Nat} {l : List Nat} {ps : List (Int × Int)} (t : Told n l ps) (hl : ∀ x ∈ l, x < n) : ps.Perm (tab l n n) := by
  refine (List.perm_ext_iff_of_nodup t.nd (nd_tab l n n)).mpr fun p => ?_
  rw [t.mem, mem_tab]
  constructor
  · rintro ⟨i, j, h1, h2, h3⟩
    exact ⟨i, j, h1, hl _ (bef_mem h3).1, h2, h3⟩
  · rintro ⟨i, j, h1, h2, h3, h4⟩
    exact ⟨i, j, h1, h3, h4⟩
end HH
set_option maxHeartbeats 4000000
namespace HH
open PySem PySem.Spec PyProof.Rows L2 Evl RZ
theorem in_it {J : It} {n : Nat} {G : Hp → Prop} {Y : Nat → Hp → V → Hp → Prop} (w : Walk J n G Y) {Step : V → Hp → (Hp → Prop) → Prop} {H1 : Hp} {Qd : Hp → Prop} (Pv : Nat → Hp → Prop) (h0 : Pv 0 H1) (hG : ∀ i H, i ≤ n → Pv i H → G H)
    (hs : ∀ i x H H', i < n → Pv i H → Y i H x H' → Step x H' (Pv (i + 1))) (hd : ∀ H, Pv n H → Qd H) :
    ∃ W : Nat → Nat → Hp → Prop, (∃ m, W 0 m H1) ∧ ∀ i m H, W i m H →
      (J.stop i H ∧ Qd H) ∨ (J.go i H ∧ ∃ Nx : Hp → Prop, (∀ H', Nx H' → ∃ m', m' < m ∧ W (i + 1) m' H') ∧ ∀ x H', J.yld i H x H' → Step x H' Nx) := by
  refine ⟨fun i m H => m = n - i ∧ i ≤ n ∧ Pv i H, ⟨n, by simp, Nat.zero_le _, h0⟩, ?_⟩
  rintro i m H ⟨rfl, hi, p⟩
  have q := hG i H hi p
  by_cases hlt : i < n
  · refine .inr ⟨w.goes i H hlt q, Pv (i + 1), fun H' p' => ⟨n - (i + 1), by omega, rfl, hlt, p'⟩, fun x H' y => hs i x H H' hlt p (w.yields i H x H' hlt q y)⟩
  · have e : i = n := by omega
    subst e
    exact .inl ⟨w.stops H q, hd H p⟩
theorem PRun.told {rs : HH.Row} {L : List Cow} {ps : List (Int × Int)} (r : PRun (tag 0 rs) L ps) (ht : ∀ b ∈ rs, 0 ≤ b.2) : Told rs.length (L.map (·.1)) ps ∧ Facts rs.length L ps ∧ PInv L := by
  induction r with
  | nil =>
    refine ⟨?_, facts_tag ht, pinv_tag 0 rs⟩
    have e : (tag 0 rs).map (·.1) = List.range rs.length := by
      rw [tag_fst]
      have e : (fun x => 0 + x) = (id : Nat → Nat) := by
        funext x
        exact Nat.zero_add x
      rw [e, List.map_id]
    rw [e]
    exact told_nil _
  | step r hp ih =>
    rename_i pre post a b ps
    obtain ⟨t, f, i⟩ := ih
    have hab := pinv_lt i hp (nd_ne f.nd)
    obtain ⟨f1, f2, f3⟩ := facts_pass (q := ((a.1 : Int), (b.1 : Int))) f i hp
    refine ⟨?_, f1, f2⟩
    have e1 : (pre ++ a :: b :: post).map (·.1) = pre.map (·.1) ++ a.1 :: b.1 :: post.map (·.1) := by simp
    have e2 : (pre ++ (b.1, (b.2.1 - a.2.2, b.2.2)) :: a :: post).map (·.1) = pre.map (·.1) ++ b.1 :: a.1 :: post.map (·.1) := by simp
    have nd := f.nd
    rw [e1] at t nd
    rw [e2]
    exact told_swap t hab nd
theorem FRun.told {rs : HH.Row} {L : List Cow} {ps : List (Int × Int)} (r : FRun (tag 0 rs) L ps) (ht : ∀ b ∈ rs, 0 ≤ b.2) : Told rs.length (L.map (·.1)) ps ∧ Facts rs.length L ps ∧ FInv L := by
  induction r with
  | nil =>
    refine ⟨?_, facts_tag ht, finv_tag 0 rs⟩
    have e : (tag 0 rs).map (·.1) = List.range rs.length := by
      rw [tag_fst]
      have e : (fun x => 0 + x) = (id : Nat → Nat) := by
        funext x
        exact Nat.zero_add x
      rw [e, List.map_id]
    rw [e]
    exact told_nil _
  | step r hp ih =>
    rename_i pre post a b ps
    obtain ⟨t, f, i⟩ := ih
    have hab := finv_lt i hp (nd_ne f.nd)
    obtain ⟨f1, f2, f3⟩ := facts_fall (q := ((a.1 : Int), (b.1 : Int))) f i hp
    refine ⟨?_, f1, f2⟩
    have e1 : (pre ++ a :: b :: post).map (·.1) = pre.map (·.1) ++ a.1 :: b.1 :: post.map (·.1) := by simp
    have e2 : (pre ++ b :: (a.1, (a.2.1 + b.2.2, a.2.2)) :: post).map (·.1) = pre.map (·.1) ++ b.1 :: a.1 :: post.map (·.1) := by simp
    have nd := f.nd
    rw [e1] at t nd
    rw [e2]
    exact told_swap t hab nd
theorem Step.ids {L M : List Cow} (h : Step L M) : (M.map (·.1)).Perm (L.map (·.1)) := by
  obtain ⟨pre, post, a, b, rfl, _, rfl⟩ := h
  rw [List.map_append, List.map_append]
  exact List.Perm.append_left _ (List.Perm.swap ..)
theorem FStep.ids {L M : List Cow} (h : FStep L M) : (M.map (·.1)).Perm (L.map (·.1)) := by
  obtain ⟨pre, post, a, b, rfl, _, rfl⟩ := h
  rw [List.map_append, List.map_append]
  exact List.Perm.append_left _ (List.Perm.swap ..)
theorem Steps.ids {L M : List Cow} (h : Steps L M) : (M.map (·.1)).Perm (L.map (·.1)) := by
  induction h with
  | refl => exact .refl _
  | head s _ ih => exact ih.trans s.ids
theorem FSteps.ids {L M : List Cow} (h : FSteps L M) : (M.map (·.1)).Perm (L.map (·.1)) := by
  induction h with
  | refl => exact .refl _
  | head s _ ih => exact ih.trans s.ids
theorem tag_ids (rs : HH.Row) : (tag 0 rs).map (·.1) = List.range rs.length := by
  rw [tag_fst]
  have e : (fun x => 0 + x) = (id : Nat → Nat) := by
    funext x
    exact Nat.zero_add x
  rw [e, List.map_id]
def natsV (l : List Nat) : List V := l.map fun (x : Nat) => V.int (x : Int)
theorem ordL_nats (L : List Cow) : ordL L = natsV (L.map (·.1)) := by
  unfold ordL natsV
  rw [List.map_map]
  rfl
structure PlacesD (l : List Nat) (k : Nat) (kvs : List (Key × V)) : Prop where
  at' : ∀ i x : Nat, i < k → l[i]? = some x → valV kvs (.inl (x : Int)) = some (.int (i : Int))
  few : kvs.length ≤ k
theorem PlacesD.put {l : List Nat} (nd : l.Nodup) {k x : Nat} {kvs : List (Key × V)} (h : PlacesD l k kvs) (hx : l[k]? = some x) : PlacesD l (k + 1) (putK kvs (.inl (x : Int)) (.int (k : Int))) := by
  refine ⟨fun i y hi hy => ?_, ?_⟩
  · rw [valV_put]
    by_cases e : y = x
    · subst e
      have := nd_at nd hy hx
      subst this
      rw [if_pos rfl]
    · rw [if_neg (fun z => e (by
        have z' : (y : Int) = (x : Int) := Sum.inl.inj z
        omega))]
      refine h.at' i y ?_ hy
      rcases Nat.lt_or_ge i k with h1 | h1
      · exact h1
      · have h2 : i = k := by omega
        subst h2
        rw [hx] at hy
        exact absurd (Option.some.inj hy).symm e
  · have := length_putK kvs (.inl (x : Int)) (.int (k : Int))
    have := h.few
    omega
theorem room_u1 {k : Nat} {A : Around} (r : Room k A) : A.units + 1 < cLine := by
  have := r.un
  omega
theorem ev_lenT {K : PySem.W.Frag} {ta : TE} {σ : L2.St} {H : Hp} {a : Addr} {xs : List V} (h : Ev ta σ H (.ref a)) (hr : SqT K H a xs) : Ev (tCB (rLenS K) (tCons ta tNil)) σ H (.int (xs.length : Int)) := fun H1 e Q q => h H1 e _ fun H2 e2 => ⟨a, xs, rfl, Or.inr (ex_t (e.trans e2) hr), q H2 e2⟩
theorem ev_dget {td ty : TE} {σ : L2.St} {H : Hp} {a : Addr} {kvs : List (Key × V)} {k : Key} {v : V} (hd : Ev td σ H (.ref a)) (hy : Ev ty σ H (kV k)) (h : H a = some (.dK kvs)) (hv : valV kvs k = some v) : Ev (tDGet td ty) σ H v := fun H1 e Q q =>
  hd H1 e _ fun H2 e2 => hy H2 (e.trans e2) _ fun H3 e3 => ⟨a, v, rfl, by rw [← hv]; exact DGet.k (((e.trans e2).trans e3) _ _ h), q H3 (e2.trans e3)⟩
theorem tabR_len (l : List Nat) (n i m : Nat) : (tabR l n i m).length ≤ m := by
  unfold tabR
  rw [List.length_map]
  have := List.length_filter_le (inP l i) (List.range m)
  rw [List.length_range] at this
  exact this
theorem tab_len (l : List Nat) (n : Nat) : ∀ m, (tab l n m).length ≤ m * n
  | 0 => by
    show ([] : List (Int × Int)).length ≤ 0 * n
    simp
  | m + 1 => by
    rw [tab_succ, List.length_append, Nat.succ_mul]
    have := tab_len l n m
    have := tabR_len l n m (n - (m + 1))
    omega
theorem i_rng2 {ta : TA} {σ : L2.St} {H : Hp} {R : It → Hp → Prop} {i j : Int} (h : EvA ta σ H [.int i, .int j]) (b : -(2 ^ 62) ≤ i ∧ i < 2 ^ 62 ∧ -(2 ^ 62) ≤ j ∧ j < 2 ^ 62) (k : ∀ H1, Ex H H1 → R (Itr i (j - i).toNat) H1) : iRng2 ta σ H R := h H (Ex.refl H) _ fun H1 e => ⟨i, j, rfl, b, k H1 e⟩
theorem t_ev {t : TT} {σ : L2.St} {H : Hp} {b : Bool} {Q : Bool → Hp → Prop} (h : EvT t σ H b) (k : ∀ H1, Ex H H1 → Q b H1) : t σ H Q := h H (Ex.refl H) _ k
theorem t_yes {σ : L2.St} {H : Hp} {Q R : Hp → Prop} (h : Q H) : tYes σ H (fun b H1 => if b = true then Q H1 else R H1) := by
  show if true = true then Q H else R H
  rw [if_pos rfl]
  exact h
end HH
set_option maxHeartbeats 4000000
namespace HH
open PySem PySem.Spec PyProof.Rows L2 Evl RZ
theorem step_back {L M : List Cow} (h : Step L M) : FStep M L := by
  obtain ⟨pre, post, a, b, rfl, hp, rfl⟩ := h
  refine ⟨pre, post, _, a, rfl, hp, ?_⟩
  obtain ⟨bi, bs, bt⟩ := b
  show pre ++ a :: (bi, (bs, bt)) :: post = pre ++ a :: (bi, (bs - a.2.2 + a.2.2, bt)) :: post
  rw [Int.sub_add_cancel]
theorem fstep_back {L M : List Cow} (h : FStep L M) : Step M L := by
  obtain ⟨pre, post, a, b, rfl, hp, rfl⟩ := h
  refine ⟨pre, post, b, _, rfl, ?_, ?_⟩
  · show a.2.1 + b.2.2 - b.2.2 > b.2.1
    omega
  · obtain ⟨ai, as, at'⟩ := a
    show pre ++ (ai, (as, at')) :: b :: post = pre ++ (ai, (as + b.2.2 - b.2.2, at')) :: b :: post
    rw [Int.add_sub_cancel]
theorem FSteps.back {L M : List Cow} (h : FSteps L M) : Steps M L := by
  induction h with
  | refl => exact .refl _
  | head s _ ih => exact ih.snoc (fstep_back s)
theorem Steps.back {L M : List Cow} (h : Steps L M) : FSteps M L := by
  induction h with
  | refl => exact .refl _
  | head s _ ih => exact ih.snoc (step_back s)
def rl (f : Nat → Nat) (x : Cow) : Cow := (f x.1, x.2)
def rlL (f : Nat → Nat) (L : List Cow) : List Cow := L.map (rl f)
theorem rl_rows (f : Nat → Nat) (L : List Cow) : rowsOf (rlL f L) = rowsOf L := by
  unfold rowsOf rlL
  rw [List.map_map]
  rfl
theorem rl_ids (f : Nat → Nat) (L : List Cow) : (rlL f L).map (·.1) = (L.map (·.1)).map f := by
  unfold rlL
  rw [List.map_map, List.map_map]
  rfl
theorem Step.map {L M : List Cow} (f : Nat → Nat) (h : Step L M) : Step (rlL f L) (rlL f M) := by
  obtain ⟨pre, post, a, b, rfl, hp, rfl⟩ := h
  exact ⟨rlL f pre, rlL f post, rl f a, rl f b, by simp [rlL], hp, by simp [rlL, rl]⟩
theorem Step.unmap {f : Nat → Nat} {L0 M : List Cow} (h : Step (rlL f L0) M) : ∃ M0, Step L0 M0 ∧ M = rlL f M0 := by
  obtain ⟨pre, post, a, b, h1, hp, rfl⟩ := h
  obtain ⟨p0, r0, rfl, rfl, h2⟩ := List.map_eq_append_iff.mp h1
  obtain ⟨a0, r1, rfl, rfl, h3⟩ := List.map_eq_cons_iff.mp h2
  obtain ⟨b0, r2, rfl, rfl, rfl⟩ := List.map_eq_cons_iff.mp h3
  exact ⟨_, ⟨p0, r2, a0, b0, rfl, hp, rfl⟩, by simp [rlL, rl]⟩
theorem FStep.map {L M : List Cow} (f : Nat → Nat) (h : FStep L M) : FStep (rlL f L) (rlL f M) := step_back ((fstep_back h).map f)
theorem Steps.map {L M : List Cow} (f : Nat → Nat) (h : Steps L M) : Steps (rlL f L) (rlL f M) := by
  induction h with
  | refl => exact .refl _
  | head s _ ih => exact .head (s.map f) ih
theorem FSteps.map {L M : List Cow} (f : Nat → Nat) (h : FSteps L M) : FSteps (rlL f L) (rlL f M) := by
  induction h with
  | refl => exact .refl _
  | head s _ ih => exact .head (s.map f) ih
theorem FStep.unmap {f : Nat → Nat} {L0 M : List Cow} (h : FStep (rlL f L0) M) : ∃ M0, FStep L0 M0 ∧ M = rlL f M0 := by
  obtain ⟨pre, post, a, b, h1, hp, rfl⟩ := h
  obtain ⟨p0, r0, rfl, rfl, h2⟩ := List.map_eq_append_iff.mp h1
  obtain ⟨a0, r1, rfl, rfl, h3⟩ := List.map_eq_cons_iff.mp h2
  obtain ⟨b0, r2, rfl, rfl, rfl⟩ := List.map_eq_cons_iff.mp h3
  exact ⟨_, ⟨p0, r2, a0, b0, rfl, hp, rfl⟩, by simp [rlL, rl]⟩
theorem Steps.unmap {f : Nat → Nat} {L M : List Cow} (h : Steps L M) : ∀ {L0 : List Cow}, L = rlL f L0 → ∃ M0, Steps L0 M0 ∧ M = rlL f M0 := by
  induction h with
  | refl => exact fun e => ⟨_, .refl _, e⟩
  | head s _ ih =>
    intro L0 e
    subst e
    obtain ⟨M1, s1, e1⟩ := s.unmap
    obtain ⟨M0, s0, e0⟩ := ih e1
    exact ⟨M0, .head s1 s0, e0⟩
theorem FSteps.unmap {f : Nat → Nat} {L M : List Cow} (h : FSteps L M) : ∀ {L0 : List Cow}, L = rlL f L0 → ∃ M0, FSteps L0 M0 ∧ M = rlL f M0 := by
  induction h with
  | refl => exact fun e => ⟨_, .refl _, e⟩
  | head s _ ih =>
    intro L0 e
    subst e
    obtain ⟨M1, s1, e1⟩ := s.unmap
    obtain ⟨M0, s0, e0⟩ := ih e1
    exact ⟨M0, .head s1 s0, e0⟩
theorem nf_un {f : Nat → Nat} {L : List Cow} (h : Nf (rlL f L)) : Nf L := fun M s => h _ (s.map f)
theorem ff_un {f : Nat → Nat} {L : List Cow} (h : Ff (rlL f L)) : Ff L := fun M s => h _ (s.map f)
theorem nf_map {f : Nat → Nat} {L : List Cow} (h : Nf L) : Nf (rlL f L) := fun M s => by
  obtain ⟨M0, s0, _⟩ := s.unmap
  exact h _ s0
theorem ff_map {f : Nat → Nat} {L : List Cow} (h : Ff L) : Ff (rlL f L) := fun M s => by
  obtain ⟨M0, s0, _⟩ := s.unmap
  exact h _ s0
def ixN (l : List Nat) (i : Nat) : Nat := (l[i]?).getD 0
theorem tag_at : ∀ (k i : Nat) (rs : HH.Row), (tag k rs)[i]? = (rs[i]?).map fun b => (k + i, b)
  | _, _, [] => rfl
  | k, 0, b :: r => rfl
  | k, i + 1, b :: r => by
    show (tag (k + 1) r)[i]? = (r[i]?).map _
    rw [tag_at (k + 1) i r]
    rw [show k + 1 + i = k + (i + 1) by omega]
theorem rl_tag (L : List Cow) : rlL (ixN (L.map (·.1))) (tag 0 (rowsOf L)) = L := by
  refine List.ext_getElem? fun i => ?_
  unfold rlL
  rw [List.getElem?_map, tag_at]
  unfold rowsOf
  rw [List.getElem?_map]
  cases h : L[i]? with
  | none => rfl
  | some x =>
    show some (rl (ixN (L.map (·.1))) (0 + i, x.2)) = some x
    unfold rl ixN
    rw [Nat.zero_add, List.getElem?_map, h]
    rfl
theorem tolls_rows {L : List Cow} (h : ∀ x ∈ L, 0 ≤ x.2.2) : ∀ b ∈ rowsOf L, 0 ≤ b.2 := fun b hb => by
  obtain ⟨x, hx, rfl⟩ := List.mem_map.mp hb
  exact h x hx
theorem nf_any {L N N' : List Cow} (ht : ∀ x ∈ L, 0 ≤ x.2.2) (s : Steps L N) (n : Nf N) (s' : Steps L N') (n' : Nf N') : N = N' := by
  obtain ⟨M, t, rfl⟩ := s.unmap (rl_tag L).symm
  obtain ⟨M', t', rfl⟩ := s'.unmap (rl_tag L).symm
  rw [one_nf _ (good_tag (tolls_rows ht)) (Nat.le_refl _) t (nf_un n) t' (nf_un n')]
theorem ff_any {L N N' : List Cow} (ht : ∀ x ∈ L, 0 ≤ x.2.2) (s : FSteps L N) (n : Ff N) (s' : FSteps L N') (n' : Ff N') : N = N' := by
  obtain ⟨M, t, rfl⟩ := s.unmap (rl_tag L).symm
  obtain ⟨M', t', rfl⟩ := s'.unmap (rl_tag L).symm
  rw [one_ff _ (fgood_tag (tolls_rows ht)) (Nat.le_refl _) t (ff_un n) t' (ff_un n')]
theorem nf_is {L : List Cow} (ht : ∀ x ∈ L, 0 ≤ x.2.2) : ∃ N, Steps L N ∧ Nf N := by
  obtain ⟨N, s, n⟩ := some_nf _ (good_tag (tolls_rows ht)) (Nat.le_refl _)
  have s' := s.map (ixN (L.map (·.1)))
  rw [rl_tag] at s'
  exact ⟨_, s', nf_map n⟩
theorem ff_is {L : List Cow} (ht : ∀ x ∈ L, 0 ≤ x.2.2) : ∃ N, FSteps L N ∧ Ff N := by
  obtain ⟨N, s, n⟩ := some_ff _ (fgood_tag (tolls_rows ht)) (Nat.le_refl _)
  have s' := s.map (ixN (L.map (·.1)))
  rw [rl_tag] at s'
  exact ⟨_, s', ff_map n⟩
theorem step_tl {L M : List Cow} (h : Step L M) (ht : ∀ x ∈ L, 0 ≤ x.2.2) : ∀ x ∈ M, 0 ≤ x.2.2 := by
  obtain ⟨pre, post, a, b, rfl, hp, rfl⟩ := h
  intro x hx
  simp only [List.mem_append, List.mem_cons] at hx
  rcases hx with h | h | h | h
  · exact ht x (by simp [h])
  · subst h
    exact ht b (by simp)
  · exact ht x (by simp [h])
  · exact ht x (by simp [h])
theorem fstep_tl {L M : List Cow} (h : FStep L M) (ht : ∀ x ∈ L, 0 ≤ x.2.2) : ∀ x ∈ M, 0 ≤ x.2.2 := by
  obtain ⟨pre, post, a, b, rfl, hp, rfl⟩ := h
  intro x hx
  simp only [List.mem_append, List.mem_cons] at hx
  rcases hx with h | h | h | h
  · exact ht x (by simp [h])
  · exact ht x (by simp [h])
  · subst h
    exact ht a (by simp)
  · exact ht x (by simp [h])
theorem Steps.tl {L M : List Cow} (h : Steps L M) (ht : ∀ x ∈ L, 0 ≤ x.2.2) : ∀ x ∈ M, 0 ≤ x.2.2 := by
  induction h with
  | refl => exact ht
  | head s _ ih => exact ih (step_tl s ht)
theorem FSteps.tl {L M : List Cow} (h : FSteps L M) (ht : ∀ x ∈ L, 0 ≤ x.2.2) : ∀ x ∈ M, 0 ≤ x.2.2 := by
  induction h with
  | refl => exact ht
  | head s _ ih => exact ih (fstep_tl s ht)
theorem ends_fstep {L M E : List Cow} (ht : ∀ x ∈ L, 0 ≤ x.2.2) (s : FStep L M) (h : FSteps L E) (n : Ff E) : FSteps M E := by
  obtain ⟨N, s1, n1⟩ := ff_is (fstep_tl s ht)
  rw [ff_any ht h n (.head s s1) n1]
  exact s1
theorem ends_step {L M E : List Cow} (ht : ∀ x ∈ L, 0 ≤ x.2.2) (s : Step L M) (h : Steps L E) (n : Nf E) : Steps M E := by
  obtain ⟨N, s1, n1⟩ := nf_is (step_tl s ht)
  rw [nf_any ht h n (.head s s1) n1]
  exact s1
theorem MRun.both {L0 L E B : List Cow} {ds : List Deed} (r : MRun L0 L ds) (ht : ∀ x ∈ L0, 0 ≤ x.2.2) (hE : Steps L0 E) (nE : Nf E) (hB : FSteps L0 B) (nB : Ff B) : (∀ x ∈ L, 0 ≤ x.2.2) ∧ Steps L E ∧ FSteps L B := by
  induction r with
  | nil => exact ⟨ht, hE, hB⟩
  | pass r hp ih =>
    rename_i pre post a b ds
    have s : Step (pre ++ a :: b :: post) (pre ++ (b.1, (b.2.1 - a.2.2, b.2.2)) :: a :: post) := ⟨_, _, _, _, rfl, hp, rfl⟩
    exact ⟨step_tl s ih.1, ends_step ih.1 s ih.2.1 nE, .head (step_back s) ih.2.2⟩
  | fall r hp ih =>
    rename_i pre post a b ds
    have s : FStep (pre ++ a :: b :: post) (pre ++ b :: (a.1, (a.2.1 + b.2.2, a.2.2)) :: post) := ⟨_, _, _, _, rfl, hp, rfl⟩
    exact ⟨fstep_tl s ih.1, .head (fstep_back s) ih.2.1, ends_fstep ih.1 s ih.2.2 nB⟩
end HH
set_option maxHeartbeats 4000000
namespace HH
open PySem PySem.Spec PyProof.Rows L2 Evl RZ
theorem bef_stays {L M : List Cow} (g : Good L) (h : Steps L M) : ∀ {p q : Nat}, p < q → bef (L.map (·.1)) q p = true → bef (M.map (·.1)) q p = true := by
  induction h with
  | refl => exact fun _ h => h
  | head s _ ih =>
    intro p q hpq hb
    refine ih (g.step s).1 hpq ?_
    obtain ⟨pre, post, a, b, rfl, hp, rfl⟩ := s
    have hab := pinv_lt g.iv hp (nd_ne g.nd)
    have e1 : (pre ++ a :: b :: post).map (·.1) = pre.map (·.1) ++ a.1 :: b.1 :: post.map (·.1) := by simp
    have e2 : (pre ++ (b.1, (b.2.1 - a.2.2, b.2.2)) :: a :: post).map (·.1) = pre.map (·.1) ++ b.1 :: a.1 :: post.map (·.1) := by simp
    rw [e1] at hb
    rw [e2]
    exact (bef_swap hab hpq _).mpr (.inl hb)
theorem bef_map {f : Nat → Nat} {j i : Nat} : ∀ {l : List Nat}, (∀ x ∈ l, f x = f j → x = j) → (∀ x ∈ l, f x = f i → x = i) → (bef (l.map f) (f j) (f i) = true ↔ bef l j i = true)
  | [], _, _ => Iff.rfl
  | x :: r, h1, h2 => by
    rw [List.map_cons, bef_cons, bef_cons, bef_map (l := r) (fun x hx => h1 x (List.mem_cons_of_mem _ hx)) (fun x hx => h2 x (List.mem_cons_of_mem _ hx))]
    have e1 : f x = f j ↔ x = j := ⟨h1 x (List.mem_cons_self ..), fun e => by rw [e]⟩
    have e2 : f i ∈ r.map f ↔ i ∈ r := by
      constructor
      · intro h
        obtain ⟨y, hy, e⟩ := List.mem_map.mp h
        rw [← h2 y (List.mem_cons_of_mem _ hy) e]
        exact hy
      · exact fun h => List.mem_map_of_mem h
    rw [e1, e2]
theorem bef_asym {l : List Nat} (nd : l.Nodup) {j i : Nat} (h : bef l j i = true) : bef l i j = false := by
  obtain ⟨p, q, h1, h2, h3⟩ := bef_get h
  rw [bef_iff nd h3 h2, decide_eq_false]
  omega
theorem bef_tot {l : List Nat} {j i : Nat} (hj : j ∈ l) (hi : i ∈ l) (hne : j ≠ i) (h : bef l j i = false) : bef l i j = true := by
  obtain ⟨p, hp⟩ := List.getElem?_of_mem hj
  obtain ⟨q, hq⟩ := List.getElem?_of_mem hi
  rcases Nat.lt_trichotomy p q with h1 | h1 | h1
  · rw [bef_lt hp hq h1] at h
    cases h
  · subst h1
    rw [hp] at hq
    exact absurd (Option.some.inj hq) hne
  · exact bef_lt hq hp h1
theorem bef_range {n j i : Nat} (hj : j < i) (hi : i < n) : bef (List.range n) j i = true := by
  refine bef_lt (p := j) (q := i) ?_ ?_ hj
  · rw [List.getElem?_range (by omega)]
  · rw [List.getElem?_range hi]
theorem ixN_at {l : List Nat} {p : Nat} (h : p < l.length) : l[p]? = some (ixN l p) := by
  unfold ixN
  rw [List.getElem?_eq_getElem h]
  rfl
theorem ixN_inj {l : List Nat} (nd : l.Nodup) {p q : Nat} (hp : p < l.length) (hq : q < l.length) (h : ixN l p = ixN l q) : p = q := by
  have h1 := ixN_at hp
  rw [h] at h1
  exact nd_at nd h1 (ixN_at hq)
structure Thru (n : Nat) (l1 l2 y : List Nat) : Prop where
  p1 : l1.Perm (List.range n)
  p2 : l2.Perm (List.range n)
  py : y.Perm (List.range n)
  e : l2 = y.map (ixN l1)
  no : ∀ {a b : Nat}, a < b → bef l1 b a = true → bef l2 b a = true → False
theorem pair_inj {a b c d : Nat} (h : (((a : Int), (b : Int)) : Int × Int) = ((c : Int), (d : Int))) : a = c ∧ b = d := by
  have h1 : (a : Int) = (c : Int) := congrArg Prod.fst h
  have h2 : (b : Int) = (d : Int) := congrArg Prod.snd h
  omega
end HH
set_option maxHeartbeats 4000000
namespace SrtO
open PySem PySem.Spec PyProof.Rows L2
section
variable {prog : Program} {w : World} {A : Around} {E : Value → Shared → Prop} {s : Shared}
end
end SrtO
namespace HH
open PySem PySem.Spec PyProof.Rows L2 Evl RZ
section
variable {X : Cx}
end
end HH
set_option maxHeartbeats 4000000
namespace HH
open PySem PySem.Spec PyProof.Rows L2 Evl RZ
theorem room_u65 {k : Nat} {A : Around} (r : Room k A) : A.units + 65 < cLine := by
  have := r.un
  omega
theorem natsV_at {l : List Nat} {k x : Nat} (h : l[k]? = some x) : (natsV l)[k]? = some (V.int (x : Int)) := by
  unfold natsV
  rw [List.getElem?_map, h]
  rfl
theorem natsV_len (l : List Nat) : (natsV l).length = l.length := List.length_map ..
def natsD (l : List Nat) : PyData := .tuple ((l.map fun (x : Nat) => (x : Int)).map PyData.int)
theorem natsV_ints (l : List Nat) : natsV l = (l.map fun (x : Nat) => (x : Int)).map V.int := by
  unfold natsV
  rw [List.map_map]
  rfl
section
variable {K : PySem.W.Frag} {σ : L2.St} {H H' : Hp} {ta tb te : TE} {x y v : V}
theorem dp_nats {a : Addr} {l : List Nat} (h : SqT K H a (natsV l)) : Dp K H (.ref a) (natsD l) := by
  rw [natsV_ints] at h
  exact .tup h (dp_ints _)
theorem nice_nats (l : List Nat) : Nice 1 (natsD l) := nice_tuple (nice_ints _)
def pairsD (ps : HH.Row) : PyData := .list (ps.map beastD)
theorem dp_pairs {a : Addr} {us : List V} {ps : HH.Row} (h : SqL K H a us) (hb : Beasts K H us ps) : Dp K H (.ref a) (pairsD ps) := .lst h (beasts_dp hb)
theorem nice_pairs (ps : HH.Row) : Nice 2 (pairsD ps) := nice_list fun d hd => by
  obtain ⟨b, _, rfl⟩ := List.mem_map.mp hd
  exact nice_beast b
end
end HH
set_option maxHeartbeats 4000000
namespace HH
open PySem PySem.Spec PyProof.Rows L2 Evl RZ
theorem FSteps.len {L M : List Cow} (h : FSteps L M) : M.length = L.length := by
  have := h.ids.length_eq
  rw [List.length_map, List.length_map] at this
  exact this
theorem Steps.len {L M : List Cow} (h : Steps L M) : M.length = L.length := by
  have := h.ids.length_eq
  rw [List.length_map, List.length_map] at this
  exact this
theorem ids_lt {rs : HH.Row} {M : List Cow} {k : Nat} (p : (M.map (·.1)).Perm (List.range rs.length)) (h : rs.length ≤ k) : ∀ x ∈ M.map (·.1), x < k := fun x hx => by
  have := List.mem_range.mp (p.mem_iff.mp hx)
  omega
theorem FSteps.idsT {rs : HH.Row} {M : List Cow} (h : FSteps (tag 0 rs) M) : (M.map (·.1)).Perm (List.range rs.length) := by
  rw [← tag_ids]
  exact h.ids
theorem Steps.idsT {rs : HH.Row} {M : List Cow} (h : Steps (tag 0 rs) M) : (M.map (·.1)).Perm (List.range rs.length) := by
  rw [← tag_ids]
  exact h.ids
section
variable {K : PySem.W.Frag} {σ : L2.St} {H H' : Hp} {ta tb te : TE} {x y v : V} {t : TT} {tu tz : TS} {D : Ends}
theorem beast_eqv (b c : Int × Int) : PyData.eqv (beastD b) (beastD c) = decide (b = c) := by
  obtain ⟨b1, b2⟩ := b
  obtain ⟨c1, c2⟩ := c
  simp [beastD, PyData.eqv, PyData.eqvAll]
  rfl
end
end HH
namespace HH
open PySem PySem.Spec PyProof.Rows L2 Evl RZ
section
variable {X : Cx} {K : PySem.W.Frag}
theorem op_inDK (hu : X.A.units + 65 < cLine) (hK : X.K = K := by rfl) : OpR X (compareOp .In) (rInD K) := by
  subst hK
  exact op_inD hu
end
end HH
namespace HH
open PySem PySem.Spec PyProof.Rows L2 Evl RZ
section
variable {K : PySem.W.Frag} {σ : L2.St} {H H' : Hp} {ta tb te : TE} {x y v : V} {Q : VK}
end
end HH
namespace HH
open PySem PySem.Spec PyProof.Rows L2 Evl RZ
section
variable {K : PySem.W.Frag} {σ : L2.St} {H H' : Hp} {ta tb te : TE} {x y v : V} {Q : VK}
end
end HH
set_option maxHeartbeats 4000000
namespace HH
open PySem PySem.Spec PyProof.Rows L2 Evl RZ
section
variable {K : PySem.W.Frag} {σ : L2.St} {H H' : Hp} {ta tb te : TE} {x y v : V} {Q : VK}
end
end HH
namespace HH
open PySem PySem.Spec PyProof.Rows L2 Evl RZ
end HH
namespace HH
open PySem PySem.Spec PyProof.Rows L2 Evl RZ
end HH
set_option maxHeartbeats 4000000
namespace HH
open PySem PySem.Spec PyProof.Rows L2 Evl RZ
def spPlaces (K : PySem.W.Frag) : Sp := fun vs H Q _ => ∃ (o : Addr) (l : List Nat), vs = [.ref o] ∧ SqT K H o (natsV l) ∧ l.Nodup ∧ l.length ≤ 30 ∧ ∀ (q : Addr) (kvs : List (Key × V)) (H' : Hp), H q = none → Ex H H' → H' q = some (.dK kvs) → PlacesD l l.length kvs → Q (.ref q) H'
theorem s_at {ts : TS} {D : Ends} {σ : L2.St} {H : Hp} (σ' : L2.St) (e : σ = σ') (k : ts D σ' H) : ts D σ H := by
  rw [e]
  exact k
end HH
set_option maxHeartbeats 4000000
namespace HH
open PySem PySem.Spec PyProof.Rows L2 Evl RZ
def barN (rs : HH.Row) (i : Nat) : Nat → Int
  | 0 => sS rs i + tS rs i
  | m + 1 => if sS rs (i + 1 + m) ≤ barN rs i m then barN rs i m + tS rs (i + 1 + m) else barN rs i m
theorem barN_yes {rs : HH.Row} {i m : Nat} (h : sS rs (i + 1 + m) ≤ barN rs i m) : barN rs i (m + 1) = barN rs i m + tS rs (i + 1 + m) := if_pos h
theorem barN_no {rs : HH.Row} {i m : Nat} (h : ¬ sS rs (i + 1 + m) ≤ barN rs i m) : barN rs i (m + 1) = barN rs i m := if_neg h
def tsumC : List Cow → Int
  | [] => 0
  | x :: r => x.2.2 + tsumC r
theorem tsumC_app : ∀ A B : List Cow, tsumC (A ++ B) = tsumC A + tsumC B
  | [], B => by
    show tsumC B = 0 + tsumC B
    omega
  | x :: A, B => by
    show x.2.2 + tsumC (A ++ B) = x.2.2 + tsumC A + tsumC B
    rw [tsumC_app A B]
    omega
def BarI (rs : HH.Row) (m : Nat) : List Cow → Prop
  | [] => True
  | x :: r => x.2.1 + x.2.2 + tsumC r = barN rs x.1 (m - x.1 - 1) ∧ BarI rs m r
def PB (s : Int) : List Cow → Prop
  | [] => True
  | x :: r => x.2.1 + x.2.2 + tsumC r < s ∧ PB s r
theorem ins_end (w : Cow) : ∀ (k : Nat) (A B : List Cow), A.length = k → PB w.2.1 B → ∃ A' B', A ++ B = A' ++ B' ∧ PB w.2.1 B' ∧ Steps (A ++ (w.1, (w.2.1 - tsumC B, w.2.2)) :: B) (A' ++ (w.1, (w.2.1 - tsumC B', w.2.2)) :: B') ∧ ∀ x, A'.getLast? = some x → ¬ (w.2.1 - tsumC B' - x.2.2 > x.2.1)
  | 0, A, B, h, hp => by
    have e : A = [] := List.length_eq_zero_iff.mp h
    subst e
    exact ⟨[], B, rfl, hp, .refl _, fun x hx => by cases hx⟩
  | k + 1, A, B, h, hp => by
    have hne : A ≠ [] := fun e => by
      rw [e] at h
      cases h
    have eA := List.dropLast_concat_getLast hne
    generalize A.getLast hne = a at eA
    by_cases z : w.2.1 - tsumC B - a.2.2 > a.2.1
    · have hl : A.dropLast.length = k := by rw [List.length_dropLast, h]; rfl
      obtain ⟨A', B', e1, p1, s1, l1⟩ := ins_end w k A.dropLast (a :: B) hl ⟨by omega, hp⟩
      refine ⟨A', B', ?_, p1, .head ?_ s1, l1⟩
      · rw [← e1]
        conv => lhs; rw [← eA]
        simp
      · refine ⟨A.dropLast, B, a, (w.1, (w.2.1 - tsumC B, w.2.2)), ?_, z, ?_⟩
        · conv => lhs; rw [← eA]
          simp
        · have e2 : w.2.1 - tsumC (a :: B) = w.2.1 - tsumC B - a.2.2 := by
            show w.2.1 - (a.2.2 + tsumC B) = _
            omega
          rw [e2]
    · refine ⟨A, B, rfl, hp, .refl _, fun x hx => ?_⟩
      have e3 : A.getLast? = some a := by
        rw [← eA]
        simp
      rw [e3] at hx
      cases hx
      exact z
theorem bar_idx {x m : Nat} (h : x < m) : m + 1 - x - 1 = (m - x - 1) + 1 ∧ x + 1 + (m - x - 1) = m := by omega
theorem barI_B {rs : HH.Row} {m : Nat} {s : Int} (hs : s = sS rs m) : ∀ {B : List Cow}, PB s B → BarI rs m B → (∀ x ∈ B, x.1 < m) → BarI rs (m + 1) B ∧ ∀ x ∈ B, barN rs x.1 (m - x.1 - 1) < s
  | [], _, _, _ => ⟨True.intro, fun x hx => by cases hx⟩
  | x :: r, h, b, l => by
    obtain ⟨i1, i2⟩ := bar_idx (l x (List.mem_cons_self ..))
    obtain ⟨g1, g2⟩ := barI_B hs h.2 b.2 fun y hy => l y (List.mem_cons_of_mem _ hy)
    have h1 := h.1
    have hb := b.1
    refine ⟨⟨?_, g1⟩, fun y hy => ?_⟩
    · rw [i1, barN_no (by rw [i2, ← hs, ← hb]; omega)]
      exact hb
    · rcases List.mem_cons.mp hy with rfl | hy
      · rw [← hb]
        exact h1
      · exact g2 y hy
theorem barI_A {rs : HH.Row} {m : Nat} {w : Cow} {B : List Cow} (hw : w.1 = m) (hs : w.2.1 = sS rs m) (ht : w.2.2 = tS rs m) (hB : BarI rs (m + 1) B) : ∀ {A : List Cow}, NfR (A ++ B) → BarI rs m (A ++ B) → (∀ x ∈ A, x.1 < m) → (∀ x, A.getLast? = some x → ¬ (w.2.1 - tsumC B - x.2.2 > x.2.1)) →
    BarI rs (m + 1) (A ++ (w.1, (w.2.1 - tsumC B, w.2.2)) :: B) ∧ (∀ x r, A = x :: r → w.2.1 ≤ x.2.1 + x.2.2 + tsumC (r ++ B)) ∧ ∀ x ∈ A, w.2.1 ≤ barN rs x.1 (m - x.1 - 1)
  | [], _, _, _, _ => by
    refine ⟨⟨?_, hB⟩, fun x r e => (by cases e), fun x hx => by cases hx⟩
    show w.2.1 - tsumC B + w.2.2 + tsumC B = barN rs w.1 (m + 1 - w.1 - 1)
    rw [hw, show m + 1 - m - 1 = 0 by omega]
    show _ = sS rs m + tS rs m
    omega
  | [x], n, b, l, la => by
    obtain ⟨i1, i2⟩ := bar_idx (l x (List.mem_cons_self ..))
    have z := la x rfl
    have hb : x.2.1 + x.2.2 + tsumC ([] ++ B) = barN rs x.1 (m - x.1 - 1) := b.1
    have hc : w.2.1 ≤ x.2.1 + x.2.2 + tsumC ([] ++ B) := by
      show w.2.1 ≤ x.2.1 + x.2.2 + tsumC B
      omega
    refine ⟨⟨?_, ?_⟩, fun y r e => ?_, fun y hy => ?_⟩
    · show x.2.1 + x.2.2 + (w.2.2 + tsumC B) = barN rs x.1 (m + 1 - x.1 - 1)
      rw [i1, barN_yes (by rw [i2, ← hs, ← hb]; exact hc), i2, ← hb, ← ht]
      show _ = x.2.1 + x.2.2 + tsumC B + w.2.2
      omega
    · show BarI rs (m + 1) ((w.1, (w.2.1 - tsumC B, w.2.2)) :: B)
      refine ⟨?_, hB⟩
      show w.2.1 - tsumC B + w.2.2 + tsumC B = barN rs w.1 (m + 1 - w.1 - 1)
      rw [hw, show m + 1 - m - 1 = 0 by omega]
      show _ = sS rs m + tS rs m
      omega
    · cases e
      exact hc
    · rcases List.mem_cons.mp hy with rfl | hy
      · rw [← hb]
        exact hc
      · cases hy
  | x :: y :: A, n, b, l, la => by
    obtain ⟨i1, i2⟩ := bar_idx (l x (List.mem_cons_self ..))
    obtain ⟨g1, g2, g3⟩ := barI_A hw hs ht hB (A := y :: A) n.2 b.2 (fun z hz => l z (List.mem_cons_of_mem _ hz)) (fun z hz => la z (by rw [List.getLast?_cons_cons]; exact hz))
    have hb : x.2.1 + x.2.2 + tsumC (y :: A ++ B) = barN rs x.1 (m - x.1 - 1) := b.1
    have nn := n.1
    have hy := g2 y A rfl
    have hc : w.2.1 ≤ x.2.1 + x.2.2 + tsumC (y :: A ++ B) := by
      show w.2.1 ≤ x.2.1 + x.2.2 + (y.2.2 + tsumC (A ++ B))
      omega
    refine ⟨⟨?_, g1⟩, fun z r e => ?_, fun z hz => ?_⟩
    · show x.2.1 + x.2.2 + tsumC (y :: A ++ (w.1, (w.2.1 - tsumC B, w.2.2)) :: B) = barN rs x.1 (m + 1 - x.1 - 1)
      rw [i1, barN_yes (by rw [i2, ← hs, ← hb]; exact hc), i2, ← hb, ← ht, tsumC_app, tsumC_app]
      show x.2.1 + x.2.2 + (tsumC (y :: A) + (w.2.2 + tsumC B)) = _
      omega
    · cases e
      exact hc
    · rcases List.mem_cons.mp hz with rfl | hz
      · rw [← hb]
        exact hc
      · exact g3 z hz
theorem bef_ins {m j i : Nat} {Y : List Nat} (hj : j ≠ m) (hi : i ≠ m) : ∀ X : List Nat, (bef (X ++ m :: Y) j i = true ↔ bef (X ++ Y) j i = true)
  | [] => by
    show bef (m :: Y) j i = true ↔ bef Y j i = true
    rw [bef_cons]
    constructor
    · rintro (⟨h, _⟩ | h)
      · exact absurd h.symm hj
      · exact h
    · exact .inr
  | x :: X => by
    show bef (x :: (X ++ m :: Y)) j i = true ↔ bef (x :: (X ++ Y)) j i = true
    rw [bef_cons, bef_cons, bef_ins hj hi X]
    have e : i ∈ X ++ m :: Y ↔ i ∈ X ++ Y := by
      simp [hi]
    rw [e]
theorem bef_new {m i : Nat} {Y : List Nat} (hY : m ∉ Y) : ∀ X : List Nat, m ∉ X → (bef (X ++ m :: Y) m i = true ↔ i ∈ Y)
  | [], _ => by
    show bef (m :: Y) m i = true ↔ i ∈ Y
    rw [bef_cons]
    constructor
    · rintro (⟨_, h⟩ | h)
      · exact h
      · exact absurd (bef_mem h).1 hY
    · exact fun h => .inl ⟨rfl, h⟩
  | x :: X, h => by
    show bef (x :: (X ++ m :: Y)) m i = true ↔ i ∈ Y
    rw [bef_cons, bef_new hY X (fun z => h (List.mem_cons_of_mem _ z))]
    constructor
    · rintro (⟨e, _⟩ | h1)
      · exact absurd (List.mem_cons.mpr (.inl e.symm)) h
      · exact h1
    · exact .inr
theorem tag_app : ∀ (k : Nat) (a b : HH.Row), tag k (a ++ b) = tag k a ++ tag (k + a.length) b
  | k, [], b => rfl
  | k, x :: a, b => by
    show (k, x) :: tag (k + 1) (a ++ b) = (k, x) :: (tag (k + 1) a ++ tag (k + (a.length + 1)) b)
    rw [tag_app (k + 1) a b, show k + 1 + a.length = k + (a.length + 1) by omega]
structure EndP (rs : HH.Row) (m : Nat) (N : List Cow) : Prop where
  st : Steps (tag 0 (rs.take m)) N
  nf : NfR N
  ba : BarI rs m N
  ids : (N.map (·.1)).Perm (List.range m)
  by' : ∀ i j : Nat, i < j → j < m → (bef (N.map (·.1)) j i = true ↔ barN rs i (j - i - 1) < sS rs j)
theorem endP {rs : HH.Row} (ht : ∀ b ∈ rs, 0 ≤ b.2) : ∀ m, m ≤ rs.length → ∃ N, EndP rs m N
  | 0, _ => ⟨[], .refl _, True.intro, True.intro, .refl _, fun i j _ h => absurd h (Nat.not_lt_zero _)⟩
  | m + 1, h => by
    obtain ⟨N, e⟩ := endP ht m (by omega)
    have hm : m < rs.length := by omega
    have hg := row_get hm
    have hmem : ∀ x ∈ N, x.1 < m := fun x hx => List.mem_range.mp (e.ids.mem_iff.mp (List.mem_map_of_mem (f := (·.1)) hx))
    obtain ⟨A, B, e1, pb, st, la⟩ := ins_end (m, (sS rs m, tS rs m)) N.length N [] rfl True.intro
    rw [List.append_nil] at e1
    subst e1
    have t0 : 0 ≤ tS rs m := by
      have := ht (sS rs m, tS rs m) (List.mem_of_getElem? hg)
      exact this
    have hA : ∀ x ∈ A, x.1 < m := fun x hx => hmem x (List.mem_append_left _ hx)
    have hB : ∀ x ∈ B, x.1 < m := fun x hx => hmem x (List.mem_append_right _ hx)
    have baB : BarI rs m B := by
      have := e.ba
      clear e st la pb hmem hA
      induction A with
      | nil => exact this
      | cons x A ih => exact ih this.2
    obtain ⟨b1, b2⟩ := barI_B (s := sS rs m) rfl pb baB hB
    obtain ⟨a1, _, a3⟩ := barI_A (w := (m, (sS rs m, tS rs m))) rfl rfl rfl b1 e.nf e.ba hA la
    refine ⟨A ++ (m, (sS rs m - tsumC B, tS rs m)) :: B, ?_, ?_, a1, ?_, ?_⟩
    · have e2 : rs.take (m + 1) = rs.take m ++ [(sS rs m, tS rs m)] := by
        rw [List.take_add_one, hg]
        rfl
      have e3 : tag 0 (rs.take (m + 1)) = tag 0 (rs.take m) ++ [(m, (sS rs m, tS rs m))] := by
        rw [e2, tag_app, List.length_take, Nat.min_eq_left (by omega), Nat.zero_add]
        rfl
      rw [e3]
      have s1 := e.st.under [] [(m, (sS rs m, tS rs m))]
      refine Steps.trans (by simpa using s1) ?_
      have e4 : sS rs m - tsumC [] = sS rs m := Int.sub_zero _
      have st' := st
      dsimp only at st'
      rw [e4] at st'
      simpa using st'
    · refine nfr_in e.nf la fun b r eb => ?_
      subst eb
      have := pb.1
      show ¬ (b.2.1 - tS rs m > sS rs m - (b.2.2 + tsumC r))
      dsimp only at this
      omega
    · rw [List.map_append, List.map_cons, List.range_succ]
      have ids := e.ids
      rw [List.map_append] at ids
      refine List.perm_middle.trans ?_
      refine (List.Perm.cons m ids).trans ?_
      exact List.perm_append_comm (l₁ := [m]) (l₂ := List.range m)
    · intro i j hij hj
      have eids : (A ++ (m, (sS rs m - tsumC B, tS rs m)) :: B).map (·.1) = A.map (·.1) ++ m :: B.map (·.1) := by
        rw [List.map_append, List.map_cons]
      rw [eids]
      have eids0 : (A ++ B).map (·.1) = A.map (·.1) ++ B.map (·.1) := List.map_append
      have noA : m ∉ A.map (·.1) := fun z => by
        obtain ⟨x, hx, ex⟩ := List.mem_map.mp z
        have := hA x hx
        omega
      have noB : m ∉ B.map (·.1) := fun z => by
        obtain ⟨x, hx, ex⟩ := List.mem_map.mp z
        have := hB x hx
        omega
      by_cases hjm : j = m
      · subst hjm
        rw [bef_new noB _ noA]
        constructor
        · intro z
          obtain ⟨x, hx, rfl⟩ := List.mem_map.mp z
          exact b2 x hx
        · intro z
          have hi : i ∈ (A ++ B).map (·.1) := e.ids.mem_iff.mpr (List.mem_range.mpr hij)
          rw [eids0] at hi
          rcases List.mem_append.mp hi with hi | hi
          · obtain ⟨x, hx, rfl⟩ := List.mem_map.mp hi
            have := a3 x hx
            dsimp only at this
            omega
          · exact hi
      · rw [bef_ins hjm (by omega), ← eids0]
        exact e.by' i j hij (by omega)
theorem never_iff {rs : HH.Row} {L : List Cow} (ht : ∀ b ∈ rs, 0 ≤ b.2) (h : Steps (tag 0 rs) L) (nf : Nf L) {i j : Nat} (hij : i < j) (hj : j < rs.length) : bef (L.map (·.1)) j i = true ↔ barN rs i (j - i - 1) < sS rs j := by
  obtain ⟨N, e⟩ := endP ht rs.length (Nat.le_refl _)
  have st := e.st
  rw [List.take_length] at st
  rw [nf_any (good_tag ht).tl h nf st (nfr_nf e.nf)]
  exact e.by' i j hij hj
def nevP (rs : HH.Row) (i m : Nat) : Bool := decide (sS rs (i + 1 + m) ≤ barN rs i m)
def nevL (rs : HH.Row) (i n : Nat) : List Nat := ((List.range n).filter (nevP rs i)).map (i + 1 + ·)
end HH
set_option maxHeartbeats 4000000
namespace HH
open PySem PySem.Spec PyProof.Rows L2 Evl RZ
section
variable {K : PySem.W.Frag} {σ : L2.St} {H H' : Hp} {ta tb te : TE} {x y v : V}
end
theorem vals_rev : ∀ {zs : List V} {ws : List Value}, Vals zs ws → Vals zs.reverse ws.reverse
  | _, _, .nil => .nil
  | _, _, .cons a b => by
    rw [List.reverse_cons, List.reverse_cons]
    exact (vals_rev b).append (.cons a .nil)
def LowN (n : Nat) (b : Int × Int) : Prop := b.1.natAbs ≤ 10 ^ 12 * (n + 1) ∧ 0 ≤ b.2 ∧ b.2 < 10 ^ 12
theorem MRun.low {L0 L : List Cow} {ds : List Deed} (r : MRun L0 L ds) (h : ∀ x ∈ L0, LowN 0 x.2) : ∀ x ∈ L, LowN ds.length x.2 := by
  have e : (10 : Int) ^ 12 = 1000000000000 := by decide
  have e2 : (10 : Nat) ^ 12 = 1000000000000 := by decide
  induction r with
  | nil => exact h
  | pass r hp ih =>
    rename_i pre post a b ds
    intro x hx
    rw [List.length_append]
    show LowN (ds.length + 1) x.2
    have up : ∀ y, LowN ds.length y → LowN (ds.length + 1) y := fun y hy => by
      unfold LowN at hy ⊢
      rw [e2] at hy ⊢
      omega
    simp only [List.mem_append, List.mem_cons] at hx
    rcases hx with hx | hx | hx | hx
    · exact up _ (ih x (by simp [hx]))
    · subst hx
      have ha := ih a (by simp)
      have hb := ih b (by simp)
      unfold LowN at ha hb ⊢
      rw [e, e2] at ha hb ⊢
      dsimp only
      omega
    · exact up _ (ih x (by simp [hx]))
    · exact up _ (ih x (by simp [hx]))
  | fall r hp ih =>
    rename_i pre post a b ds
    intro x hx
    rw [List.length_append]
    show LowN (ds.length + 1) x.2
    have up : ∀ y, LowN ds.length y → LowN (ds.length + 1) y := fun y hy => by
      unfold LowN at hy ⊢
      rw [e2] at hy ⊢
      omega
    simp only [List.mem_append, List.mem_cons] at hx
    rcases hx with hx | hx | hx | hx
    · exact up _ (ih x (by simp [hx]))
    · exact up _ (ih x (by simp [hx]))
    · subst hx
      have ha := ih a (by simp)
      have hb := ih b (by simp)
      unfold LowN at ha hb ⊢
      rw [e, e2] at ha hb ⊢
      dsimp only
      omega
    · exact up _ (ih x (by simp [hx]))
theorem LowN.low {n : Nat} {b : Int × Int} (h : LowN n b) (hn : n ≤ 1000) : Low b := by
  unfold LowN at h
  unfold Low
  have e : (10 : Int) ^ 12 = 1000000000000 := by decide
  have e2 : (10 : Nat) ^ 12 = 1000000000000 := by decide
  have e3 : (10 : Nat) ^ 18 = 1000000000000000000 := by decide
  rw [e, e2] at h
  rw [e3]
  omega
theorem any_pairs {ps : HH.Row} {b : Int × Int} : ((ps.map beastD).any fun z => PyData.eqv z (beastD b)) = decide (b ∈ ps) := by
  rw [Bool.eq_iff_iff, List.any_eq_true, decide_eq_true_iff]
  constructor
  · rintro ⟨z, hz, h⟩
    obtain ⟨c, hc, rfl⟩ := List.mem_map.mp hz
    rw [beast_eqv] at h
    rw [← of_decide_eq_true h]
    exact hc
  · intro h
    exact ⟨beastD b, List.mem_map_of_mem h, by rw [beast_eqv]; exact decide_eq_true rfl⟩
end HH
set_option maxHeartbeats 4000000
namespace HH
open PySem PySem.Spec PyProof.Rows L2 Evl RZ
section
variable {K : PySem.W.Frag} {σ : L2.St} {H H' : Hp} {ta tb te : TE} {x y v : V}
theorem ev_callN3 {sp : Sp} {E : XK} {z x1 x2 x3 : V} {t1 t2 t3 : TE} {gV : List V → List V → List V} (h1 : Ev t1 σ H x1) (h2 : Ev t2 σ H x2) (h3 : Ev t3 σ H x3) (hs : SpV sp (gV [] [x1, x2, x3]) H z) : Ev (tCallN 0 3 sp gV E tNil (tCons t1 (tCons t2 (tCons t3 tNil)))) σ H z := fun H1 e Q q =>
  h1 H1 e _ fun H2 e2 => h2 H2 (e.trans e2) _ fun H3 e3 => h3 H3 ((e.trans e2).trans e3) _ fun H4 e4 => ⟨rfl, rfl, hs H4 (((e.trans e2).trans e3).trans e4) Q (fun H5 e5 => q H5 (((e2.trans e3).trans e4).trans e5)) E⟩
end
end HH
set_option maxHeartbeats 4000000
namespace HH
open PySem PySem.Spec PyProof.Rows L2 Evl RZ
section
variable {X : Cx}
end
def stopAt (l : List Nat) (j : Nat) : V := if j = 0 then .non else .int (ixN l (j - 1) : Int)
structure InsR (w : Cow) (N A B : List Cow) : Prop where
  e : N = A ++ B
  st : Steps (N ++ [w]) (A ++ (w.1, (w.2.1 - tsumC B, w.2.2)) :: B)
  pb : PB w.2.1 B
theorem InsR.start (w : Cow) (N : List Cow) : InsR w N N [] := by
  refine ⟨(List.append_nil N).symm, ?_, True.intro⟩
  have e : (w.1, (w.2.1 - tsumC [], w.2.2)) = w := by
    show (w.1, (w.2.1 - 0, w.2.2)) = w
    rw [Int.sub_zero]
  rw [e]
  exact .refl _
theorem InsR.next {w a : Cow} {N A B : List Cow} (h : InsR w N (A ++ [a]) B) (hp : w.2.1 - tsumC B - a.2.2 > a.2.1) : InsR w N A (a :: B) := by
  refine ⟨by rw [h.e, List.append_assoc]; rfl, h.st.snoc ⟨A, B, a, (w.1, (w.2.1 - tsumC B, w.2.2)), by rw [List.append_assoc]; rfl, hp, ?_⟩, ⟨by omega, h.pb⟩⟩
  have e2 : w.2.1 - tsumC (a :: B) = w.2.1 - tsumC B - a.2.2 := by
    show w.2.1 - (a.2.2 + tsumC B) = _
    omega
  rw [e2]
theorem InsR.stop {w : Cow} {N A B : List Cow} (h : InsR w N A B) (n : NfR N) (t : 0 ≤ w.2.2) (la : ∀ x, A.getLast? = some x → ¬ (w.2.1 - tsumC B - x.2.2 > x.2.1)) : NfR (A ++ (w.1, (w.2.1 - tsumC B, w.2.2)) :: B) := by
  have hn := n
  rw [h.e] at hn
  refine nfr_in hn la fun b r eb => ?_
  have hb := h.pb
  subst eb
  have := hb.1
  show ¬ (b.2.1 - w.2.2 > w.2.1 - (b.2.2 + tsumC r))
  omega
end HH
set_option maxHeartbeats 4000000
namespace HH
open PySem PySem.Spec PyProof.Rows L2 Evl RZ
def MixSt (z TI TO i1 i2 a b : Addr) (i : Nat) (h : Heap) : Prop := IsZip h z TI TO .none ∧ IsTupOf2 h TI (.ref i1) (.ref i2) ∧ (∃ x y, IsTupOf2 h TO x y) ∧ h.IsListIter i1 a i ∧ h.IsTupleIter i2 b i
theorem five {c z TI TO i1 i2 : Addr} (h : c ∈ [z, TI, TO, i1, i2]) : c = z ∨ c = TI ∨ c = TO ∨ c = i1 ∨ c = i2 := by simpa using h
theorem MixSt.objs {z TI TO i1 i2 a b : Addr} {i : Nat} {h : Heap} (m : MixSt z TI TO i1 i2 a b i h) : ∀ c ∈ [z, TI, TO, i1, i2], ∃ ob, h.get? c = some ob ∧ ∀ v, ob.data ≠ .cell v := fun c hc => by
  obtain ⟨m1, m2, ⟨_, _, m3⟩, ⟨p1, g1, _, d1⟩, ⟨p2, g2, _, d2⟩⟩ := m
  rcases five hc with rfl | rfl | rfl | rfl | rfl
  · exact ⟨_, m1, fun v q => by cases q⟩
  · exact ⟨_, m2, fun v q => by cases q⟩
  · exact ⟨_, m3, fun v q => by cases q⟩
  · exact ⟨p1, g1, fun v q => by rw [d1] at q; cases q⟩
  · exact ⟨p2, g2, fun v q => by rw [d2] at q; cases q⟩
end HH
set_option maxHeartbeats 4000000
namespace HH
open PySem PySem.Spec PyProof.Rows L2 Evl RZ
def tp (rs : HH.Row) (k : Nat) : Int := tsum (rs.take k)
section
variable {K : PySem.W.Frag} {σ : L2.St} {H H' : Hp} {ta tb te : TE} {x y v : V} {t : TT}
theorem el_lcR2 {ta : TA} {j : Nat} {vs : List Nat} {lo n : Int} {m : Nat} (f : Nat → Bool) (v : Nat → V) (h : EvA ta σ H [.int lo, .int n]) (hn : 0 ≤ lo ∧ lo ≤ 1000 ∧ 0 ≤ n ∧ n ≤ 1000) (hm : (n - lo).toNat = m) (hw : ∀ x, wipe ((wipe σ vs).set j (some x)) vs = wipe σ vs)
    (ht : ∀ (i : Nat) H1, Ex H H1 → i < m → EvT t ((wipe σ vs).set j (some (.int (lo + (i : Int))))) H1 (f i)) (he : ∀ (i : Nat) H1, Ex H H1 → i < m → f i = true → Ev te ((wipe σ vs).set j (some (.int (lo + (i : Int))))) H1 (v i)) :
    EvL (tLc (iRng2 ta) (gName j) t te vs) σ H (given m f v) := fun H0 e0 Q q => by
  refine h H0 e0 _ fun H1 e1 => ⟨lo, n, rfl, ⟨by omega, by omega, by omega, by omega⟩, fun Dl hD => ?_⟩
  rw [hm]
  refine in_it walk_range (fun i H2 => Ex H1 H2 ∧ H2 Dl = some (.lst (given i f v))) ⟨Ex.new hD, upd_same⟩ (fun _ _ _ _ => True.intro) (fun i x H2 H3 hi p y => ?_) (fun H2 p => q Dl H2 (fresh_back e1 hD) (e1.trans p.1) p.2)
  obtain ⟨rfl, hx⟩ := y
  have hx : x = V.int (lo + (i : Int)) := hx
  subst hx
  refine ⟨hw _, ?_⟩
  have e2 : Ex H H3 := (e0.trans e1).trans p.1
  refine t_ev (ht i H3 e2 hi) fun H4 e4 => ?_
  cases hf : f i with
  | true =>
    show te _ H4 _
    refine he i H3 e2 hi hf H4 e4 _ fun H5 e5 => ⟨_, e5 _ _ (e4 _ _ p.2), ?_, Ex.mut ((p.1.trans e4).trans e5) hD, ?_⟩
    · have := given_len i f v
      exact sz_lt (by omega)
    · rw [upd_same, given_yes hf]
  | false =>
    show Ex H1 H4 ∧ H4 Dl = some (.lst (given (i + 1) f v))
    rw [given_no hf]
    exact ⟨p.1.trans e4, e4 _ _ p.2⟩
theorem alike_two {d : Nat} {a b : Addr} {x1 x2 y1 y2 : V} (h : SqL K H a [x1, x2]) (g : SqL K H b [y1, y2]) (h1 : Alike K H d x1 y1) (h2 : Alike K H d x2 y2) : Alike K H (d + 1) (.ref a) (.ref b) := .inr ⟨a, b, _, _, rfl, rfl, .inl ⟨h, g⟩, rfl, by show 2 ≤ 40000; decide, fun i u w hu hw => by
  match i, hu, hw with
  | 0, hu, hw =>
    cases hu
    cases hw
    exact h1
  | 1, hu, hw =>
    cases hu
    cases hw
    exact h2
  | i + 2, hu, _ => cases hu⟩
end
section
variable {X : Cx}
end
end HH
set_option maxHeartbeats 4000000
namespace HH
open PySem PySem.Spec PyProof.Rows L2 Evl RZ
structure ListsF (H0 H : Hp) (us : List V) (ll : List (List Nat)) : Prop where
  len : us.length = ll.length
  at' : ∀ (i : Nat) (l : List Nat), ll[i]? = some l → ∃ p, us[i]? = some (.ref p) ∧ H0 p = none ∧ H p = some (.lst (natsV l))
theorem ListsF.nil {H0 H : Hp} : ListsF H0 H [] [] := ⟨rfl, fun i l h => by cases h⟩
theorem ListsF.ex {H0 H H' : Hp} {us : List V} {ll : List (List Nat)} (h : ListsF H0 H us ll) (e : Ex H H') : ListsF H0 H' us ll := ⟨h.len, fun i l hl => by
  obtain ⟨p, h1, h2, h3⟩ := h.at' i l hl
  exact ⟨p, h1, h2, e _ _ h3⟩⟩
theorem ListsF.low {H00 H0 H : Hp} {us : List V} {ll : List (List Nat)} (h : ListsF H0 H us ll) (e : Ex H00 H0) : ListsF H00 H us ll := ⟨h.len, fun i l hl => by
  obtain ⟨p, h1, h2, h3⟩ := h.at' i l hl
  exact ⟨p, h1, fresh_back e h2, h3⟩⟩
theorem ListsF.mut {H0 H : Hp} {us : List V} {ll : List (List Nat)} {D : Addr} {o o' : HO} (h : ListsF H0 H us ll) (hD : H0 D = some o) : ListsF H0 (upd H D o') us ll := ⟨h.len, fun i l hl => by
  obtain ⟨p, h1, h2, h3⟩ := h.at' i l hl
  refine ⟨p, h1, h2, ?_⟩
  rw [upd_ne (Ne.symm (ne_of_none hD h2))]
  exact h3⟩
theorem ListsF.app {H0 H : Hp} {us : List V} {ll : List (List Nat)} {p : Addr} {l : List Nat} (h : ListsF H0 H us ll) (hp : H0 p = none) (hl : H p = some (.lst (natsV l))) : ListsF H0 H (us ++ [.ref p]) (ll ++ [l]) := by
  refine ⟨by rw [List.length_append, List.length_append, h.len]; rfl, fun i m hm => ?_⟩
  by_cases hi : i < ll.length
  · rw [List.getElem?_append_left hi] at hm
    rw [List.getElem?_append_left (by rw [h.len]; exact hi)]
    exact h.at' i m hm
  · rw [List.getElem?_append_right (by omega)] at hm
    rw [List.getElem?_append_right (by rw [h.len]; omega), h.len]
    match e : i - ll.length, hm with
    | 0, hm =>
      cases hm
      exact ⟨p, rfl, hp, hl⟩
    | k + 1, hm => cases hm
def nevT (rs : HH.Row) : List (List Nat) := (List.range rs.length).map fun i => nevL rs i (rs.length - i - 1)
section
variable {X : Cx}
theorem op_notInDK {K : PySem.W.Frag} (hu : X.A.units + 65 < cLine) (hK : X.K = K := by rfl) : OpR X (compareOp .NotIn) (rNotInD K) := by
  subst hK
  exact op_notInD hu
end
section
variable {K : PySem.W.Frag} {σ : L2.St} {H : Hp} {v : V}
end
end HH
set_option maxHeartbeats 4000000
namespace HH
open PySem PySem.Spec PyProof.Rows L2 Evl RZ
def PlainT (o : Obj) : Prop := o.cls = .type "tuple" ∧ o.dict = none
section
variable {X : Cx}
end
structure LastAtF (K : PySem.W.Frag) (H : Hp) (q : Addr) (L : List Cow) : Prop where
  ex : ∃ (v : V) (ot : Addr) (o : Obj), H q = some (.tup [v, .ref ot]) ∧ RowAt K H v (rowsOf L) ∧ H ot = some (.frz o (.tup (ordL L))) ∧ PlainT o
end HH
set_option maxHeartbeats 4000000
namespace HH
open PySem PySem.Spec PyProof.Rows L2 Evl RZ
theorem pw_eq {α : Type} {r : α → α → Prop} (irr : ∀ a, ¬ r a a) (asy : ∀ a b, r a b → ¬ r b a) {l m : List α} (hl : l.Pairwise r) (hm : m.Pairwise r) (h : ∀ x, x ∈ l ↔ x ∈ m) : l = m := by
  have nl : l.Nodup := hl.imp fun {a b} z (e : a = b) => irr b (by rw [e] at z; exact z)
  have nm : m.Nodup := hm.imp fun {a b} z (e : a = b) => irr b (by rw [e] at z; exact z)
  exact ((List.perm_ext_iff_of_nodup nl nm).mpr h).eq_of_pairwise (fun a b _ _ g1 g2 => absurd g2 (asy a b g1)) hl hm
theorem lex_asy (p q : Int × Int) (h : lexL p q) : ¬ lexL q p := fun g => by
  unfold lexL at h g
  omega
inductive StepsN : Nat → List Cow → List Cow → Prop
  | refl (L : List Cow) : StepsN 0 L L
  | head {k : Nat} {L M N : List Cow} : Step L M → StepsN k M N → StepsN (k + 1) L N
theorem StepsN.trans {a b : Nat} {L M N : List Cow} (h : StepsN a L M) (g : StepsN b M N) : StepsN (a + b) L N := by
  induction h with
  | refl => rw [Nat.zero_add]; exact g
  | head s _ ih =>
    rename_i k L M N _
    rw [show k + 1 + b = k + b + 1 by omega]
    exact .head s (ih g)
theorem StepsN.steps {a : Nat} {L M : List Cow} (h : StepsN a L M) : Steps L M := by
  induction h with
  | refl => exact .refl _
  | head s _ ih => exact .head s ih
theorem StepsN.under {a : Nat} {L M : List Cow} (pre post : List Cow) (h : StepsN a L M) : StepsN a (pre ++ L ++ post) (pre ++ M ++ post) := by
  induction h with
  | refl => exact .refl _
  | head s _ ih => exact .head (s.under pre post) ih
theorem StepsN.map {a : Nat} {L M : List Cow} (f : Nat → Nat) (h : StepsN a L M) : StepsN a (rlL f L) (rlL f M) := by
  induction h with
  | refl => exact .refl _
  | head s _ ih => exact .head (s.map f) ih
theorem StepsN.run {a : Nat} {L0 L M : List Cow} (h : StepsN a L M) : ∀ {ps : List (Int × Int)}, PRun L0 L ps → ∃ qs, PRun L0 M qs ∧ qs.length = ps.length + a := by
  induction h with
  | refl => exact fun r => ⟨_, r, rfl⟩
  | head s _ ih =>
    intro ps r
    obtain ⟨pre, post, x, y, rfl, hp, rfl⟩ := s
    obtain ⟨qs, g1, g2⟩ := ih (r.step hp)
    refine ⟨qs, g1, ?_⟩
    rw [g2, List.length_append]
    show ps.length + 1 + _ = _
    omega
theorem StepsN.tab {a : Nat} {rs : HH.Row} {L : List Cow} (ht : ∀ b ∈ rs, 0 ≤ b.2) (h : StepsN a (tag 0 rs) L) : (tab (L.map (·.1)) rs.length rs.length).length = a := by
  obtain ⟨qs, r, e⟩ := h.run (PRun.nil)
  obtain ⟨td, _, _⟩ := r.told ht
  have ids := h.steps.ids
  rw [tag_ids] at ids
  rw [← (told_tab td fun x hx => List.mem_range.mp (ids.mem_iff.mp hx)).length_eq, e]
  show 0 + a = a
  omega
theorem tag_rl (k b : Nat) : ∀ rs : HH.Row, tag (b + k) rs = rlL (b + ·) (tag k rs) := by
  intro rs
  refine List.ext_getElem? fun i => ?_
  unfold rlL
  rw [List.getElem?_map, tag_at, tag_at]
  cases rs[i]? with
  | none => rfl
  | some x =>
    show some (b + k + i, x) = some (b + (k + i), x)
    rw [Nat.add_assoc]
end HH
set_option maxHeartbeats 4000000
namespace HH
open PySem PySem.Spec PyProof.Rows L2 Evl RZ
section
variable {X : Cx}
end
def EvP (K : PySem.W.Frag) (te : TE) (σ : L2.St) (H : Hp) (ps : HH.Row) : Prop := ∀ H1, Ex H H1 → ∀ Q : VK, (∀ (q : Addr) (us : List V) (H2 : Hp), H1 q = none → Ex H1 H2 → H2 q = some (.lst us) → Beasts K H2 us ps → Q (.ref q) H2) → te σ H1 Q
section
variable {K : PySem.W.Frag} {σ : L2.St} {H H' : Hp} {ta tb tc te : TE} {x y v : V} {Q : VK}
theorem fresh_backB {p q : Addr} {xs : List V} (x : ExB p H H') (hp : H' p = some (.lst xs)) (hq : H' q = none) : H q = none := by
  by_cases z : H q = none
  · exact z
  · exfalso
    obtain ⟨o, ho⟩ := Option.ne_none_iff_exists'.mp z
    by_cases e : q = p
    · subst e
      rw [hp] at hq
      cases hq
    · rw [x _ _ e ho] at hq
      cases hq
theorem g_at {i : Nat} {x : V} {k : L2.St → Hp → Prop} (σ' : L2.St) (e : σ.set i (some x) = σ') (h : k σ' H) : gName i x σ H k := by
  show k (σ.set i (some x)) H
  rw [e]
  exact h
end
end HH
set_option maxHeartbeats 4000000
namespace HH
open PySem PySem.Spec PyProof.Rows L2 Evl RZ
abbrev RowsA (K : PySem.W.Frag) (H : Hp) : List V → List HH.Row → Prop := All2 (RowAt K H)
theorem RowsA.ex' {K : PySem.W.Frag} {H H' : Hp} {us : List V} {rr : List HH.Row} (h : RowsA K H us rr) (e : Ex H H') : RowsA K H' us rr := All2.mono (fun _ _ r => r.ex e) h
theorem RowsA.exB' {K : PySem.W.Frag} {H H' : Hp} {us : List V} {rr : List HH.Row} {q : Addr} {ys : List V} (h : RowsA K H us rr) (e : ExB q H H') (hq : H q = some (.lst ys)) : RowsA K H' us rr := All2.mono (fun _ _ r => r.exL e hq) h
section
variable {K : PySem.W.Frag} {σ : L2.St} {H : Hp} {ta tb tc tx : TE} {Q : VK}
end
end HH
set_option maxHeartbeats 4000000
namespace HH
open PySem PySem.Spec PyProof.Rows L2 Evl RZ
section
variable {X : Cx}
end
end HH
set_option maxHeartbeats 4000000
namespace HH
open PySem PySem.Spec PyProof.Rows L2 Evl RZ
def turnC : Int → List Cow → List Cow
  | _, [] => []
  | c, x :: r => (x.1, (-(x.2.1 - c), x.2.2)) :: turnC (c + x.2.2) r
theorem turnC_app : ∀ (c : Int) (a b : List Cow), turnC c (a ++ b) = turnC c a ++ turnC (c + tsumC a) b
  | c, [], b => by
    show turnC c b = turnC (c + 0) b
    rw [Int.add_zero]
  | c, x :: a, b => by
    show (x.1, (-(x.2.1 - c), x.2.2)) :: turnC (c + x.2.2) (a ++ b) = (x.1, (-(x.2.1 - c), x.2.2)) :: (turnC (c + x.2.2) a ++ turnC (c + (x.2.2 + tsumC a)) b)
    rw [turnC_app, Int.add_assoc]
theorem turnC_ids : ∀ (c : Int) (L : List Cow), (turnC c L).map (·.1) = L.map (·.1)
  | _, [] => rfl
  | c, x :: r => by
    show x.1 :: (turnC (c + x.2.2) r).map (·.1) = x.1 :: r.map (·.1)
    rw [turnC_ids]
theorem turnC_two : ∀ (c : Int) (L : List Cow), turnC c (turnC c L) = L
  | _, [] => rfl
  | c, x :: r => by
    show (x.1, (-(-(x.2.1 - c) - c), x.2.2)) :: turnC (c + x.2.2) (turnC (c + x.2.2) r) = x :: r
    rw [turnC_two, show -(-(x.2.1 - c) - c) = x.2.1 by omega]
theorem step_turn {L M : List Cow} (c : Int) (h : Step L M) : FStep (turnC c L) (turnC c M) := by
  obtain ⟨pre, post, a, b, rfl, hp, rfl⟩ := h
  rw [turnC_app, turnC_app]
  refine ⟨turnC c pre, turnC (c + tsumC pre + a.2.2 + b.2.2) post, (a.1, (-(a.2.1 - (c + tsumC pre)), a.2.2)), (b.1, (-(b.2.1 - (c + tsumC pre + a.2.2)), b.2.2)), rfl, ?_, ?_⟩
  · show -(a.2.1 - (c + tsumC pre)) > -(b.2.1 - (c + tsumC pre + a.2.2))
    omega
  · show turnC c pre ++ (b.1, (-(b.2.1 - a.2.2 - (c + tsumC pre)), b.2.2)) :: (a.1, (-(a.2.1 - (c + tsumC pre + b.2.2)), a.2.2)) :: turnC (c + tsumC pre + b.2.2 + a.2.2) post = turnC c pre ++ (b.1, (-(b.2.1 - (c + tsumC pre + a.2.2)), b.2.2)) :: (a.1, (-(a.2.1 - (c + tsumC pre)) + b.2.2, a.2.2)) :: turnC (c + tsumC pre + a.2.2 + b.2.2) post
    have e1 : -(b.2.1 - a.2.2 - (c + tsumC pre)) = -(b.2.1 - (c + tsumC pre + a.2.2)) := by omega
    have e2 : -(a.2.1 - (c + tsumC pre + b.2.2)) = -(a.2.1 - (c + tsumC pre)) + b.2.2 := by omega
    have e3 : c + tsumC pre + b.2.2 + a.2.2 = c + tsumC pre + a.2.2 + b.2.2 := by omega
    rw [e1, e2, e3]
theorem fstep_turn {L M : List Cow} (c : Int) (h : FStep L M) : Step (turnC c L) (turnC c M) := fstep_back (step_turn c (fstep_back h))
theorem fsteps_turn {L M : List Cow} (c : Int) (h : FSteps L M) : Steps (turnC c L) (turnC c M) := by
  induction h with
  | refl => exact .refl _
  | head s _ ih => exact .head (fstep_turn c s) ih
theorem ff_turn {L : List Cow} (h : Ff L) : Nf (turnC 0 L) := fun M s => h (turnC 0 M) (by
  have := step_turn 0 s
  rw [turnC_two] at this
  exact this)
def doR (rs : HH.Row) (d : Deed) : HH.Row := if d.1 then passR rs d.2 else fallR rs d.2
def okD (rs : HH.Row) (d : Deed) : Prop := if d.1 then d.2 < rs.length ∧ letsN rs d.2 = true else d.2 + 1 < rs.length ∧ fallsN rs d.2 = true
theorem okD_pass {rs : HH.Row} {p : Nat} (h : okD rs (true, p)) : ∃ (pre post : HH.Row) (a b : Int × Int), rs = pre ++ a :: b :: post ∧ p = pre.length + 1 ∧ b.1 - a.2 > a.1 ∧ passR rs p = pre ++ (b.1 - a.2, b.2) :: a :: post := by
  obtain ⟨h1, h2⟩ : p < rs.length ∧ letsN rs p = true := h
  have e : rowsOf (tag 0 rs) = rs := tag_snd 0 rs
  obtain ⟨pre, post, a, b, g1, g2, g3, g4⟩ := cow_pass (L := tag 0 rs) (p := p) (by rw [e]; exact h1) (by rw [e]; exact h2)
  rw [e] at g4
  refine ⟨rowsOf pre, rowsOf post, a.2, b.2, ?_, by rw [cow_len]; exact g2, g3, ?_⟩
  · rw [← rows_mid, ← g1, e]
  · rw [g4, rows_mid]
theorem okD_fall {rs : HH.Row} {p : Nat} (h : okD rs (false, p)) : ∃ (pre post : HH.Row) (a b : Int × Int), rs = pre ++ a :: b :: post ∧ p = pre.length ∧ a.1 > b.1 ∧ fallR rs p = pre ++ b :: (a.1 + b.2, a.2) :: post := by
  obtain ⟨h1, h2⟩ : p + 1 < rs.length ∧ fallsN rs p = true := h
  have e : rowsOf (tag 0 rs) = rs := tag_snd 0 rs
  obtain ⟨pre, post, a, b, g1, g2, g3, g4⟩ := cow_fall (L := tag 0 rs) (p := p) (by rw [e]; exact h1) (by rw [e]; exact h2)
  rw [e] at g4
  refine ⟨rowsOf pre, rowsOf post, a.2, b.2, ?_, by rw [cow_len]; exact g2, g3, ?_⟩
  · rw [← rows_mid, ← g1, e]
  · rw [g4, rows_mid]
theorem MRun.rows {L0 L : List Cow} {ds : List Deed} (r : MRun L0 L ds) : rowsOf L = ds.foldl doR (rowsOf L0) ∧ ∀ k d, ds[k]? = some d → okD ((ds.take k).foldl doR (rowsOf L0)) d := by
  induction r with
  | nil => exact ⟨rfl, fun k d h => by cases h⟩
  | pass r hp ih =>
    rename_i pre post a b ds
    obtain ⟨i1, i2⟩ := ih
    have el : pre.length = (rowsOf pre).length := (cow_len pre).symm
    refine ⟨?_, fun k d hk => ?_⟩
    · rw [List.foldl_append, ← i1]
      show _ = passR (rowsOf (pre ++ a :: b :: post)) (pre.length + 1)
      rw [rows_mid, rows_mid, el, pass_split]
    · by_cases hlt : k < ds.length
      · rw [List.getElem?_append_left hlt] at hk
        rw [List.take_append_of_le_length (by omega)]
        exact i2 k d hk
      · rw [List.getElem?_append_right (by omega)] at hk
        have e0 : k = ds.length := by
          have := (List.getElem?_eq_some_iff.mp hk).1
          simp at this
          omega
        subst e0
        rw [Nat.sub_self] at hk
        cases hk
        rw [List.take_left, ← i1]
        refine ⟨by rw [cow_len, List.length_append, List.length_cons, List.length_cons]; omega, ?_⟩
        show letsN (rowsOf (pre ++ a :: b :: post)) (pre.length + 1) = true
        rw [rows_mid, el, lets_split]
        exact decide_eq_true hp
  | fall r hp ih =>
    rename_i pre post a b ds
    obtain ⟨i1, i2⟩ := ih
    have el : pre.length = (rowsOf pre).length := (cow_len pre).symm
    refine ⟨?_, fun k d hk => ?_⟩
    · rw [List.foldl_append, ← i1]
      show _ = fallR (rowsOf (pre ++ a :: b :: post)) pre.length
      rw [rows_mid, rows_mid, el, fall_split]
    · by_cases hlt : k < ds.length
      · rw [List.getElem?_append_left hlt] at hk
        rw [List.take_append_of_le_length (by omega)]
        exact i2 k d hk
      · rw [List.getElem?_append_right (by omega)] at hk
        have e0 : k = ds.length := by
          have := (List.getElem?_eq_some_iff.mp hk).1
          simp at this
          omega
        subst e0
        rw [Nat.sub_self] at hk
        cases hk
        rw [List.take_left, ← i1]
        refine ⟨by rw [cow_len, List.length_append, List.length_cons, List.length_cons]; omega, ?_⟩
        show fallsN (rowsOf (pre ++ a :: b :: post)) pre.length = true
        rw [rows_mid, el, falls_split]
        exact decide_eq_true hp
theorem doR_ok {rs : HH.Row} {d : Deed} (h : okD rs d) (ht : ∀ b ∈ rs, 0 ≤ b.2) : (doR rs d).length = rs.length ∧ ∀ b ∈ doR rs d, 0 ≤ b.2 := by
  obtain ⟨w, p⟩ := d
  cases w with
  | true =>
    obtain ⟨pre, post, a, b, rfl, rfl, _, e⟩ := okD_pass h
    show (passR _ _).length = _ ∧ ∀ b ∈ passR _ _, 0 ≤ b.2
    rw [e]
    refine ⟨by simp, fun x hx => ?_⟩
    simp only [List.mem_append, List.mem_cons] at hx
    rcases hx with hx | rfl | rfl | hx
    · exact ht x (by simp [hx])
    · exact ht b (by simp)
    · exact ht _ (by simp)
    · exact ht x (by simp [hx])
  | false =>
    obtain ⟨pre, post, a, b, rfl, rfl, _, e⟩ := okD_fall h
    show (fallR _ _).length = _ ∧ ∀ b ∈ fallR _ _, 0 ≤ b.2
    rw [e]
    refine ⟨by simp, fun x hx => ?_⟩
    simp only [List.mem_append, List.mem_cons] at hx
    rcases hx with hx | rfl | rfl | hx
    · exact ht x (by simp [hx])
    · exact ht _ (by simp)
    · exact ht a (by simp)
    · exact ht x (by simp [hx])
end HH
set_option maxHeartbeats 4000000
namespace HH
open PySem PySem.Spec PyProof.Rows L2 Evl RZ
theorem word_pass : decide (V.str (wordOf true) = V.str "pass") = true := decide_eq_true rfl
theorem word_ne : V.str (wordOf false) ≠ V.str (wordOf true) := fun z => by
  injection z with z
  revert z
  decide +kernel
theorem word_no : decide (V.str (wordOf false) = V.str "pass") = false := decide_eq_false word_ne
theorem word_fall : decide (V.str (wordOf false) = V.str "fall") = true := decide_eq_true rfl
section
variable {K : PySem.W.Frag} {σ : L2.St} {H H' : Hp} {ta tb tc te tl : TE} {x y v : V} {Q : VK} {D : Ends} {tz tu : TS} {g : TG}
def EvTp (K : PySem.W.Frag) (te : TE) (σ : L2.St) (H : Hp) (xs : List V) : Prop := ∀ H1, Ex H H1 → ∀ Q : VK, (∀ t H2, Ex H1 H2 → SqT K H2 t xs → Q (.ref t) H2) → te σ H1 Q
theorem ep_val {a : Addr} {xs : List V} (h : Ev te σ H (.ref a)) (hs : SqT K H a xs) : EvTp K te σ H xs := fun H1 e Q q => h H1 e Q fun H2 e2 => q a H2 e2 (ex_t (e.trans e2) hs)
theorem ep_cat {xs ys : List V} (ha : EvTp K ta σ H xs) (hb : EvTp K tb σ H ys) (hl : xs.length + ys.length ≤ 100000) : EvTp K (tOp (rCatA K) ta tb) σ H (xs ++ ys) := fun H1 e Q q =>
  ha H1 e _ fun a H2 e2 h1 => hb H2 (e.trans e2) _ fun b H3 e3 g1 => by
    refine ⟨a, b, xs, ys, rfl, rfl, ex_t e3 h1, g1, sz_of hl, fun z => ?_, fun _ z => ?_, fun _ _ p hp => ?_⟩
    · subst z
      exact q _ H3 (e2.trans e3) g1
    · subst z
      rw [List.append_nil] at q
      exact q _ H3 (e2.trans e3) (ex_t e3 h1)
    · exact q _ _ ((e2.trans e3).trans (Ex.new hp)) (st_of upd_same)
theorem ep_to {xs : List V} {ti : TE} {j : Nat} {i : Int} (h : EvTp K te σ H xs) (hi : Ev ti σ H (.int i)) (hj : i = (j : Int)) : EvTp K (tSl (rSlA K) te tNoPart (tPart ti)) σ H (xs.take j) := fun H1 e Q q =>
  h H1 e _ fun a H2 e2 hv => hi H2 (e.trans e2) _ fun H3 e3 => by
    subst hj
    refine ⟨(j : Int), rfl, a, xs, rfl, ex_t e3 hv, fun z => ?_, fun _ p hp => ?_⟩
    · have e0 := cut_all z
      rw [cut_to] at e0
      rw [e0] at q
      exact q _ H3 (e2.trans e3) (ex_t e3 hv)
    · rw [cut_to]
      exact q _ _ ((e2.trans e3).trans (Ex.new hp)) (st_of upd_same)
theorem ep_from {xs : List V} {ti : TE} {j : Nat} {i : Int} (h : EvTp K te σ H xs) (hi : Ev ti σ H (.int i)) (hj : i = (j : Int)) : EvTp K (tSl (rSlA K) te (tPart ti) tNoPart) σ H (xs.drop j) := fun H1 e Q q =>
  h H1 e _ fun a H2 e2 hv => hi H2 (e.trans e2) _ fun H3 e3 => by
    subst hj
    refine ⟨(j : Int), rfl, a, xs, rfl, ex_t e3 hv, fun z => ?_, fun _ p hp => ?_⟩
    · have e0 := cut_all z
      rw [cut_from] at e0
      rw [e0] at q
      exact q _ H3 (e2.trans e3) (ex_t e3 hv)
    · rw [cut_from]
      exact q _ _ ((e2.trans e3).trans (Ex.new hp)) (st_of upd_same)
theorem ep_two (h1 : Ev ta σ H x) (h2 : Ev tb σ H y) : EvTp K (tTup (tCons ta (tCons tb tNil))) σ H [x, y] := fun H1 e Q q =>
  h1 H1 e _ fun H2 e2 => h2 H2 (e.trans e2) _ fun H3 e3 => ⟨by show 2 ≤ sizeLine; decide, fun p hp => q _ _ ((e2.trans e3).trans (Ex.new hp)) (st_of upd_same)⟩
end
theorem DeedAt.ex' {K : PySem.W.Frag} {H H' : Hp} {v : V} {d : Deed} (h : DeedAt K H v d) (e : Ex H H') : DeedAt K H' v d := by
  obtain ⟨p, h1, h2⟩ := h
  exact ⟨p, h1, ex_t e h2⟩
section
variable {K : PySem.W.Frag} {σ : L2.St} {H H' : Hp} {ta tb tc te tl : TE} {v : V} {D : Ends}
theorem el_catNN {xs ys : List V} (ha : EvL ta σ H xs) (hb : EvL tb σ H ys) (hz : xs.length + ys.length ≤ 100000) : EvL (tOp rCat ta tb) σ H (xs ++ ys) := fun H1 e Q q =>
  ha H1 e _ fun l H2 hl e2 h2 => hb H2 (e.trans e2) _ fun p H3 hp e3 h3 => ⟨l, p, xs, ys, rfl, rfl, e3 _ _ h2, h3, sz_of hz, fun c hc => q c _ (fresh_back (e2.trans e3) hc) ((e2.trans e3).trans (Ex.new hc)) upd_same⟩
end
section
variable {K : PySem.W.Frag} {σ : L2.St} {H H' : Hp} {ta tb tc te tl : TE} {v : V} {D : Ends}
end
end HH
set_option maxHeartbeats 4000000
namespace HH
open PySem PySem.Spec PyProof.Rows L2 Evl RZ
end HH
set_option maxHeartbeats 4000000
namespace HH
open PySem PySem.Spec PyProof.Rows L2 Evl RZ
def PairT (H : Hp) (v : V) (b : Int × Int) : Prop := ∃ p, v = .ref p ∧ H p = some (.tup [.int b.1, .int b.2])
abbrev BeastsT (H : Hp) : List V → HH.Row → Prop := All2 (PairT H)
theorem PairT.ex {H H' : Hp} {v : V} {b : Int × Int} (h : PairT H v b) (e : Ex H H') : PairT H' v b := by
  obtain ⟨p, rfl, hp⟩ := h
  exact ⟨p, rfl, e _ _ hp⟩
theorem PairT.exB {H H' : Hp} {v : V} {b : Int × Int} {q : Addr} {ys : List V} (h : PairT H v b) (e : ExB q H H') (hq : H q = some (.lst ys)) : PairT H' v b := by
  obtain ⟨p, rfl, hp⟩ := h
  exact ⟨p, rfl, e _ _ (ne_of hp hq fun z => nomatch z) hp⟩
theorem BeastsT.ex' {H H' : Hp} {us : List V} {ps : HH.Row} (h : BeastsT H us ps) (e : Ex H H') : BeastsT H' us ps := All2.mono (fun _ _ r => r.ex e) h
theorem BeastsT.exB' {H H' : Hp} {us : List V} {ps : HH.Row} {q : Addr} {ys : List V} (h : BeastsT H us ps) (e : ExB q H H') (hq : H q = some (.lst ys)) : BeastsT H' us ps := All2.mono (fun _ _ r => r.exB e hq) h
theorem BeastsT.be {K : PySem.W.Frag} {H : Hp} : ∀ {us : List V} {ps : HH.Row}, BeastsT H us ps → Beasts K H us ps
  | _, _, .nil => Beasts.nil
  | _, _, .cons a b => by
    obtain ⟨p, rfl, hp⟩ := a
    exact Beasts.app (vs := [_]) (rs := [_]) (Beasts.one ⟨p, rfl, st_of hp⟩) (BeastsT.be b)
theorem BeastsT.at' {H : Hp} {us : List V} {ps : HH.Row} (h : BeastsT H us ps) {k : Nat} {x : V} (hx : us[k]? = some x) : ∃ b, ps[k]? = some b ∧ PairT H x b := h.get hx
def keyP (b : Int × Int) : List Key := [.inl b.1, .inl b.2]
theorem keyP_inj {a b : Int × Int} : keyP a = keyP b ↔ a = b := by
  unfold keyP
  constructor
  · intro h
    simp only [List.cons.injEq, Sum.inl.injEq, and_true] at h
    exact Prod.ext h.1 h.2
  · rintro rfl
    rfl
structure PairsD (kvs : List (List Key × V)) (ps : HH.Row) : Prop where
  has : ∀ b : Int × Int, (valV kvs (keyP b)).isSome = decide (b ∈ ps)
  few : kvs.length ≤ ps.length
theorem PairsD.nil : PairsD [] [] := ⟨fun b => by rw [valV_nil]; simp, Nat.le_refl _⟩
theorem PairsD.put {kvs : List (List Key × V)} {ps : HH.Row} (h : PairsD kvs ps) (b : Int × Int) (v : V) : PairsD (putK kvs (keyP b) v) (ps ++ [b]) := by
  refine ⟨fun c => ?_, ?_⟩
  · rw [valV_put]
    by_cases e : keyP c = keyP b
    · rw [if_pos e]
      have := keyP_inj.mp e
      subst this
      simp
    · rw [if_neg e, h.has c]
      have ne : c ≠ b := fun z => e (by rw [z])
      rw [decide_eq_decide, List.mem_append, List.mem_singleton]
      exact ⟨.inl, fun z => z.elim id fun z => absurd z ne⟩
  · have := length_putK kvs (keyP b) v
    rw [List.length_append]
    show _ ≤ ps.length + 1
    have := h.few
    omega
section
variable {K : PySem.W.Frag} {σ : L2.St} {H : Hp} {ta tb te : TE} {Q : VK}
def EvPT (te : TE) (σ : L2.St) (H : Hp) (ps : HH.Row) : Prop := ∀ H1, Ex H H1 → ∀ Q : VK, (∀ (q : Addr) (us : List V) (H2 : Hp), H1 q = none → Ex H1 H2 → H2 q = some (.lst us) → BeastsT H2 us ps → Q (.ref q) H2) → te σ H1 Q
theorem EvPT.ep {ps : HH.Row} (h : EvPT te σ H ps) : EvP K te σ H ps := fun H1 e1 Q q => h H1 e1 Q fun a us H2 ha e2 g2 bs => q a us H2 ha e2 g2 bs.be
end
def spTurnedT (K : PySem.W.Frag) : Sp := fun vs H Q _ => ∃ (o : Addr) (l : List Nat), vs = [.ref o] ∧ SqT K H o (natsV l) ∧ l.Nodup ∧ (∀ x, x < l.length → x ∈ l) ∧ l.length ≤ 30 ∧
  ∀ (q : Addr) (us : List V) (H' : Hp), H q = none → Ex H H' → H' q = some (.lst us) → BeastsT H' us (tab l l.length l.length) → Q (.ref q) H'
section
variable {K : PySem.W.Frag} {σ : L2.St} {H : Hp} {ta : TE} {v : V} {E : XK}
end
theorem q_run {te : TE} {i : Nat} {tz : TS} {D : Ends} {σ : L2.St} {H : Hp} (h : te σ H fun x H1 => tz D (σ.set i (some x)) H1) : tSeq (tAsg te (gName i)) tz D σ H := h
theorem tab_small (l : List Nat) {n : Nat} (h : n ≤ 30) : (tab l n n).length ≤ 900 := by
  have h1 := tab_len l n n
  have h3 := Nat.mul_le_mul h h
  omega
end HH
set_option maxHeartbeats 4000000
namespace HH
open PySem PySem.Spec PyProof.Rows L2 Evl RZ
def tabPR (p : Nat → Nat → Bool) (i m : Nat) : HH.Row := ((List.range m).filter (p i)).map fun k => ((i : Int), ((i + 1 + k : Nat) : Int))
def tabP (p : Nat → Nat → Bool) (n m : Nat) : HH.Row := (List.range m).flatMap fun i => tabPR p i (n - (i + 1))
theorem tabPR_succ (p : Nat → Nat → Bool) (i m : Nat) : tabPR p i (m + 1) = tabPR p i m ++ (if p i m = true then [((i : Int), ((i + 1 + m : Nat) : Int))] else []) := by
  unfold tabPR
  rw [List.range_succ, List.filter_append, List.map_append]
  by_cases h : p i m = true
  · rw [if_pos h, List.filter_cons_of_pos h]
    rfl
  · rw [if_neg h, List.filter_cons_of_neg h]
    rfl
theorem tabP_succ (p : Nat → Nat → Bool) (n m : Nat) : tabP p n (m + 1) = tabP p n m ++ tabPR p m (n - (m + 1)) := by
  unfold tabP
  rw [List.range_succ, List.flatMap_append]
  simp
theorem tabPR_len (p : Nat → Nat → Bool) (i m : Nat) : (tabPR p i m).length ≤ m := by
  unfold tabPR
  rw [List.length_map]
  have := List.length_filter_le (p i) (List.range m)
  rw [List.length_range] at this
  exact this
theorem tabP_len (p : Nat → Nat → Bool) (n : Nat) : ∀ m, (tabP p n m).length ≤ m * n
  | 0 => by simp [tabP]
  | m + 1 => by
    rw [tabP_succ, List.length_append, Nat.succ_mul]
    have h1 := tabP_len p n m
    have h2 := tabPR_len p m (n - (m + 1))
    omega
theorem tabP_small (p : Nat → Nat → Bool) {n : Nat} (h : n ≤ 30) : (tabP p n n).length ≤ 900 := by
  have h1 := tabP_len p n n
  have h3 := Nat.mul_le_mul h h
  omega
theorem mem_tabP {p : Nat → Nat → Bool} {n : Nat} {x : Int × Int} : x ∈ tabP p n n ↔ ∃ i j : Nat, i < j ∧ j < n ∧ x = ((i : Int), (j : Int)) ∧ p i (j - i - 1) = true := by
  unfold tabP
  rw [List.mem_flatMap]
  constructor
  · rintro ⟨i, hi, h⟩
    obtain ⟨k, hk, rfl⟩ := List.mem_map.mp h
    obtain ⟨h1, h2⟩ := List.mem_filter.mp hk
    have h1 := List.mem_range.mp h1
    refine ⟨i, i + 1 + k, by omega, by omega, rfl, ?_⟩
    rw [show i + 1 + k - i - 1 = k by omega]
    exact h2
  · rintro ⟨i, j, h1, h2, rfl, h3⟩
    refine ⟨i, List.mem_range.mpr (by omega), List.mem_map.mpr ⟨j - i - 1, List.mem_filter.mpr ⟨List.mem_range.mpr (by omega), h3⟩, ?_⟩⟩
    rw [show i + 1 + (j - i - 1) = j by omega]
theorem pw_tabPR (p : Nat → Nat → Bool) (i m : Nat) : (tabPR p i m).Pairwise lexL := by
  unfold tabPR
  refine List.pairwise_map.mpr (List.Pairwise.imp ?_ (List.Pairwise.filter (p i) List.pairwise_lt_range))
  intro a b hab
  exact .inr ⟨rfl, by show ((i + 1 + a : Nat) : Int) < ((i + 1 + b : Nat) : Int); omega⟩
theorem pw_tabP (p : Nat → Nat → Bool) (n : Nat) : ∀ m, (tabP p n m).Pairwise lexL
  | 0 => .nil
  | m + 1 => by
    rw [tabP_succ]
    refine List.pairwise_append.mpr ⟨pw_tabP p n m, pw_tabPR p m _, fun x hx y hy => ?_⟩
    unfold tabP at hx
    obtain ⟨i, hi, h⟩ := List.mem_flatMap.mp hx
    have hi := List.mem_range.mp hi
    obtain ⟨k, _, rfl⟩ := List.mem_map.mp h
    obtain ⟨k2, _, rfl⟩ := List.mem_map.mp hy
    exact .inl (by show (i : Int) < (m : Int); omega)
theorem pw_same {ps qs : HH.Row} (h1 : ps.Pairwise lexL) (h2 : qs.Pairwise lexL) (h : ∀ x, x ∈ ps ↔ x ∈ qs) : ps = qs := pw_eq lex_irr lex_asy h1 h2 h
def keepP (e b : List Nat) (i k : Nat) : Bool := !inP e i k && !inP b i k
theorem keep_iff {e b : List Nat} {i j : Nat} (h : i < j) : keepP e b i (j - i - 1) = true ↔ bef e j i = false ∧ bef b j i = false := by
  unfold keepP inP
  rw [show i + 1 + (j - i - 1) = j by omega]
  simp
theorem mid_keeps {B L E : List Cow} (t : ∀ x ∈ B, 0 ≤ x.2.2) (nd : (B.map (·.1)).Nodup) (s1 : Steps B L) (s2 : Steps L E) {a b : Nat} (hB : bef (B.map (·.1)) a b = true) (hE : bef (E.map (·.1)) a b = true) : bef (L.map (·.1)) a b = true := by
  obtain ⟨L0, t1, e1⟩ := s1.unmap (rl_tag B).symm
  obtain ⟨E0, t2, e2⟩ := s2.unmap e1
  have g0 : Good (tag 0 (rowsOf B)) := good_tag (tolls_rows t)
  have g1 := g0.steps t1
  obtain ⟨p, q, hpq, hp, hq⟩ := bef_get hB
  have ep : ixN (B.map (·.1)) p = a := by
    unfold ixN
    rw [hp]
    rfl
  have eq : ixN (B.map (·.1)) q = b := by
    unfold ixN
    rw [hq]
    rfl
  have hp' := (List.getElem?_eq_some_iff.mp hp).1
  have hq' := (List.getElem?_eq_some_iff.mp hq).1
  have len : (rowsOf B).length = (B.map (·.1)).length := by rw [cow_len, List.length_map]
  have iL := t1.idsT
  have iE := (t1.trans t2).idsT
  have inj : ∀ (l : List Nat), l.Perm (List.range (rowsOf B).length) → ∀ r, r < (B.map (·.1)).length → ∀ x ∈ l, ixN (B.map (·.1)) x = ixN (B.map (·.1)) r → x = r := fun l pm r hr x hx h => by
    have := List.mem_range.mp (pm.mem_iff.mp hx)
    exact ixN_inj nd (by rw [← len]; exact this) hr h
  have nE : (E.map (·.1)).Nodup := (s1.trans s2).ids.nodup_iff.mpr nd
  cases hc : bef (L.map (·.1)) a b with
  | true => rfl
  | false =>
    have ne : a ≠ b := fun z => by
      rw [z] at hp
      have := nd_at nd hp hq
      omega
    have ma := s1.ids.mem_iff.mpr (bef_mem hB).1
    have mb := s1.ids.mem_iff.mpr (bef_mem hB).2
    have h1 := bef_tot ma mb ne hc
    rw [e1, rl_ids, ← ep, ← eq] at h1
    have h2 := (bef_map (inj _ iL q hq') (inj _ iL p hp')).mp h1
    have h3 := bef_stays g1 t2 hpq h2
    have h4 := (bef_map (f := ixN (B.map (·.1))) (inj _ iE q hq') (inj _ iE p hp')).mpr h3
    rw [ep, eq, ← rl_ids, ← e2] at h4
    rw [bef_asym nE hE] at h4
    cases h4
def spAllPairs (K : PySem.W.Frag) : Sp := fun vs H Q _ => ∃ n : Nat, vs = [.int (n : Int)] ∧ n ≤ 30 ∧ ∀ (q : Addr) (us : List V) (H' : Hp), H q = none → Ex H H' → H' q = some (.lst us) → BeastsT H' us (tabP (fun _ _ => true) n n) → Q (.ref q) H'
end HH
set_option maxHeartbeats 4000000
namespace HH
open PySem PySem.Spec PyProof.Rows L2 Evl RZ
abbrev PrT := Hp → V → Int × Int → Prop
structure Stb (R : PrT) : Prop where
  ex : ∀ {H H' : Hp} {x : V} {b : Int × Int}, Ex H H' → R H x b → R H' x b
  ls : ∀ {H : Hp} {D : Addr} {xs ys : List V} {x : V} {b : Int × Int}, H D = some (.lst xs) → R H x b → R (upd H D (.lst ys)) x b
theorem stb_T : Stb PairT := ⟨fun e h => h.ex e, fun hD h => h.exB (ExB.refl _ _).upd hD⟩
theorem stb_B (K : PySem.W.Frag) : Stb (BeastAt K) := ⟨fun e h => h.ex e, fun hD h => h.exB (ExB.refl _ _).upd hD⟩
theorem Stb.all {R : PrT} (s : Stb R) {H H' : Hp} (e : Ex H H') {us : List V} {ps : HH.Row} (h : All2 (R H) us ps) : All2 (R H') us ps := All2.mono (fun _ _ r => s.ex e r) h
theorem Stb.allL {R : PrT} (s : Stb R) {H : Hp} {D : Addr} {xs ys : List V} (hD : H D = some (.lst xs)) {us : List V} {ps : HH.Row} (h : All2 (R H) us ps) : All2 (R (upd H D (.lst ys))) us ps := All2.mono (fun _ _ r => s.ls hD r) h
theorem beasts_2 {K : PySem.W.Frag} {H : Hp} : ∀ {us : List V} {ps : HH.Row}, Beasts K H us ps → All2 (BeastAt K H) us ps
  | [], [], _ => .nil
  | [], _ :: _, h => by cases h.1
  | _ :: _, [], h => by cases h.1
  | v :: vs, b :: rs, h => .cons h.uncons.1 (beasts_2 h.uncons.2)
theorem all2_b {K : PySem.W.Frag} {H : Hp} : ∀ {us : List V} {ps : HH.Row}, All2 (BeastAt K H) us ps → Beasts K H us ps
  | _, _, .nil => Beasts.nil
  | _, _, .cons a b => Beasts.app (vs := [_]) (rs := [_]) (Beasts.one a) (all2_b b)
section
variable {K : PySem.W.Frag} {σ : L2.St} {H : Hp} {ta tb te : TE} {t : TT} {R : PrT}
def EvPr (R : PrT) (te : TE) (σ : L2.St) (H : Hp) (ps : HH.Row) : Prop := ∀ H1, Ex H H1 → ∀ Q : VK, (∀ (q : Addr) (us : List V) (H2 : Hp), H1 q = none → Ex H1 H2 → H2 q = some (.lst us) → All2 (R H2) us ps → Q (.ref q) H2) → te σ H1 Q
def Src (K : PySem.W.Frag) (R : PrT) (te : TE) (σ : L2.St) (H : Hp) (ps : HH.Row) : Prop := ∀ H1, Ex H H1 → ∀ Q : VK, (∀ (a : Addr) (us : List V) (H2 : Hp), Ex H1 H2 → (∀ H3, Ex H2 H3 → SqL K H3 a us) → All2 (R H2) us ps → Q (.ref a) H2) → te σ H1 Q
theorem src_new {ps : HH.Row} (h : EvPr R te σ H ps) : Src K R te σ H ps := fun H1 e1 Q q => h H1 e1 Q fun a us H2 _ e2 g2 bs => q a us H2 e2 (fun H3 e3 => sq_of (e3 _ _ g2)) bs
theorem src_T {ps : HH.Row} (h : Src K PairT te σ H ps) : Src K (BeastAt K) te σ H ps := fun H1 e1 Q q => h H1 e1 Q fun a us H2 e2 sq bs => q a us H2 e2 sq (beasts_2 (BeastsT.be bs))
theorem ep_filt {j : Nat} {vs : List Nat} {ps : HH.Row} (f : Int × Int → Bool) (s : Stb R) (h : Src K R te σ H ps) (hl : ps.length ≤ 2000) (hw : ∀ x, wipe ((wipe σ vs).set j (some x)) vs = wipe σ vs) (hj : ∀ x : V, ((wipe σ vs).set j (some x))[j]? = some (some x))
    (ht : ∀ (b : Int × Int) (x : V) H1, Ex H H1 → R H1 x b → b ∈ ps → EvT t ((wipe σ vs).set j (some x)) H1 (f b)) : EvPr R (tLc (iList K te) (gName j) t (tVar j) vs) σ H (ps.filter f) := fun H0 e0 Q q => by
  refine h H0 e0 _ fun a us H1 e1 sq bs => ⟨a, rfl, ⟨us, sq H1 (Ex.refl H1)⟩, fun D hD => ?_⟩
  have ul : us.length = ps.length := bs.len
  have e01 := e0.trans e1
  refine in_it (walk_list (xs := us)) (fun k H2 => Ex H1 H2 ∧ ∃ ws, H2 D = some (.lst ws) ∧ All2 (R H2) ws ((ps.take k).filter f)) ⟨Ex.new hD, [], upd_same, .nil⟩ (fun k H2 _ p => sq H2 p.1) (fun k x H2 H3 hk p y => ?_) (fun H2 p => ?_)
  · obtain ⟨rfl, hx⟩ := y
    obtain ⟨p1, ws, p2, p3⟩ := p
    obtain ⟨b, hb, rb⟩ := bs.get hx
    have mb : b ∈ ps := List.mem_of_getElem? hb
    refine ⟨hw _, t_ev (ht b x _ (e01.trans p1) (s.ex p1 rb) mb) fun H4 e4 => ?_⟩
    have et : (ps.take (k + 1)).filter f = (ps.take k).filter f ++ (if f b = true then [b] else []) := by
      rw [List.take_add_one, hb, List.filter_append]
      congr 1
      by_cases c : f b = true
      · rw [if_pos c]
        exact List.filter_cons_of_pos c
      · rw [if_neg c]
        exact List.filter_cons_of_neg c
    cases c : f b with
    | true =>
      rw [c, if_pos rfl] at et
      refine ⟨x, hj _, ws, e4 _ _ p2, sz_lt ?_, Ex.mut (p1.trans e4) hD, ws ++ [x], upd_same, ?_⟩
      · have := List.length_filter_le f (ps.take k)
        rw [List.length_take] at this
        rw [All2.len p3]
        omega
      · rw [et]
        exact s.allL (e4 _ _ p2) (All2.app (s.all e4 p3) (.cons (s.ex (p1.trans e4) rb) .nil))
    | false =>
      rw [c, if_neg (by decide), List.append_nil] at et
      refine ⟨p1.trans e4, ws, e4 _ _ p2, ?_⟩
      rw [et]
      exact s.all e4 p3
  · obtain ⟨p1, ws, p2, p3⟩ := p
    rw [ul, List.take_length] at p3
    exact q D ws H2 (fresh_back e1 hD) (e1.trans p1) p2 p3
theorem beast_dp {x : V} {b : Int × Int} (h : BeastAt K H x b) : Dp K H x (beastD b) := by
  obtain ⟨p, rfl, hp⟩ := h
  exact .tup hp (.cons (.int _) (.cons (.int _) .nil))
theorem et_notinL {q : Addr} {ws : List V} {qs : HH.Row} {x : V} {b : Int × Int} (h1 : Ev ta σ H x) (hb : BeastAt K H x b) (h2 : Ev tb σ H (.ref q)) (hq : SqL K H q ws) (bs : All2 (BeastAt K H) ws qs) : EvT (tTest (tOp (rNotInD K) ta tb)) σ H (!decide (b ∈ qs)) := fun H1 e1 Q k => by
  refine h1 H1 e1 _ fun H2 e2 => h2 H2 (e1.trans e2) _ fun H3 e3 => ?_
  have e13 := (e1.trans e2).trans e3
  refine ⟨beastD b, qs.map beastD, beast_dp (hb.ex e13), dp_pairs (ex_l e13 hq) ((all2_b bs).ex e13), (nice_beast _).shaped (by decide), (nice_pairs qs).shaped (by decide), _, rfl, ?_⟩
  rw [any_pairs]
  exact k H3 (e2.trans e3)
end
def spKeptBy (K : PySem.W.Frag) : Sp := fun vs H Q _ => ∃ (p : Addr) (v : V) (rs : HH.Row) (n : Nat), vs = [.ref p, v] ∧ RowAt K H v rs ∧ 0 < rs.length ∧ rs.length ≤ 30 ∧ (∀ b ∈ rs, 0 ≤ b.2) ∧ Bx H p n ∧ n + 2000 < Lim ∧
  ∀ (q : Addr) (us : List V) (E B : List Cow) (H' : Hp), Steps (tag 0 rs) E → Nf E → FSteps (tag 0 rs) B → Ff B → H q = none → ExB p H H' → Bx H' p (n + 2000) → H' q = some (.lst us) → BeastsT H' us (tabP (keepP (E.map (·.1)) (B.map (·.1))) rs.length rs.length) → Q (.ref q) H'
theorem keep_filter {n : Nat} {e b : List Nat} {ps qs : HH.Row} (t1 : Told n e ps) (t2 : Told n b qs) : (tabP (fun _ _ => true) n n).filter (fun x => !decide (x ∈ ps ++ qs)) = tabP (keepP e b) n n := by
  refine pw_same (List.Pairwise.filter _ (pw_tabP _ _ _)) (pw_tabP _ _ _) fun x => ?_
  rw [List.mem_filter, mem_tabP, mem_tabP]
  constructor
  · rintro ⟨⟨i, j, h1, h2, rfl, _⟩, h3⟩
    refine ⟨i, j, h1, h2, rfl, (keep_iff h1).mpr ?_⟩
    have h4 : ¬ (((i : Int), (j : Int)) ∈ ps ++ qs) := by simpa using h3
    rw [List.mem_append, t1.mem, t2.mem] at h4
    constructor
    · cases c : bef e j i with
      | false => rfl
      | true => exact absurd (.inl ⟨i, j, h1, rfl, c⟩) h4
    · cases c : bef b j i with
      | false => rfl
      | true => exact absurd (.inr ⟨i, j, h1, rfl, c⟩) h4
  · rintro ⟨i, j, h1, h2, rfl, h3⟩
    obtain ⟨k1, k2⟩ := (keep_iff h1).mp h3
    refine ⟨⟨i, j, h1, h2, rfl, rfl⟩, ?_⟩
    have : ¬ (((i : Int), (j : Int)) ∈ ps ++ qs) := by
      rw [List.mem_append, t1.mem, t2.mem]
      rintro (⟨a, c, _, h5, h6⟩ | ⟨a, c, _, h5, h6⟩)
      · obtain ⟨e1, e2⟩ := pair_inj h5
        subst e1 e2
        rw [k1] at h6
        cases h6
      · obtain ⟨e1, e2⟩ := pair_inj h5
        subst e1 e2
        rw [k2] at h6
        cases h6
    simpa using this
theorem ept_row {σ : L2.St} {H : Hp} {ta : TA} {j ko i n : Nat} {vs : List Nat} (h : EvA ta σ H [.int ((i : Int) + 1), .int (n : Int)]) (hn : i < n ∧ n ≤ 1000) (hw : ∀ x, wipe ((wipe σ vs).set j (some x)) vs = wipe σ vs) (hj : ∀ x : V, ((wipe σ vs).set j (some x))[j]? = some (some x)) (hk : ∀ x : V, ((wipe σ vs).set j (some x))[ko]? = some (some (.int (i : Int)))) :
    EvPr PairT (tLc (iRng2 ta) (gName j) tYes (tTup (tCons (tVar ko) (tCons (tVar j) tNil))) vs) σ H (tabPR (fun _ _ => true) i (n - (i + 1))) := fun H0 e0 Q q => by
  refine h H0 e0 _ fun H1 e1 => ⟨(i : Int) + 1, (n : Int), rfl, ⟨by omega, by omega, by omega, by omega⟩, fun D hD => ?_⟩
  rw [show ((n : Int) - ((i : Int) + 1)).toNat = n - (i + 1) by omega]
  refine in_it walk_range (fun m H2 => Ex H1 H2 ∧ ∃ us, H2 D = some (.lst us) ∧ All2 (PairT H2) us (tabPR (fun _ _ => true) i m)) ⟨Ex.new hD, [], upd_same, .nil⟩ (fun _ _ _ _ => True.intro) (fun m x H2 H3 hm p y => ?_) (fun H2 p => ?_)
  · obtain ⟨rfl, hx⟩ := y
    have ej : (i : Int) + 1 + (m : Int) = ((i + 1 + m : Nat) : Int) := by omega
    have hx : x = V.int ((i : Int) + 1 + (m : Int)) := hx
    rw [ej] at hx
    subst hx
    obtain ⟨p1, us, p2, p3⟩ := p
    refine ⟨hw _, t_yes ⟨_, hk _, _, hj _, by show 2 ≤ sizeLine; decide, fun T hT => ?_⟩⟩
    have nT := Ex.new (o := .tup [V.int (i : Int), .int ((i + 1 + m : Nat) : Int)]) hT
    have es := tabPR_succ (fun _ _ => true) i m
    rw [if_pos rfl] at es
    refine ⟨us, nT _ _ p2, sz_lt ?_, Ex.mut (p1.trans nT) hD, us ++ [.ref T], upd_same, ?_⟩
    · have := tabPR_len (fun _ _ => true) i m
      rw [All2.len p3]
      omega
    · rw [es]
      exact stb_T.allL (nT _ _ p2) (All2.app (stb_T.all nT p3) (.cons ⟨T, rfl, upd_same⟩ .nil))
  · obtain ⟨p1, us, p2, p3⟩ := p
    exact q D us H2 (fresh_back e1 hD) (e1.trans p1) p2 p3
end HH
set_option maxHeartbeats 4000000
namespace HH
open PySem PySem.Spec PyProof.Rows L2 Evl RZ
def putR (rs : HH.Row) (w : Nat) (b : Int × Int) : HH.Row := rs.take w ++ [b] ++ rs.drop (w + 1)
def fedR (rs : HH.Row) (w : Nat) (d : Int) : HH.Row := putR rs w (sS rs w + d, tS rs w)
section
variable {K : PySem.W.Frag} {σ : L2.St} {H : Hp} {ta tb te te2 : TE} {t : TT} {R : PrT} {v : V}
theorem el_mapB {j : Nat} {vs : List Nat} {ps : HH.Row} (f : Int × Int → Bool) (s : Stb R) (h : Src K R te σ H ps) (hl : ps.length ≤ 2000) (hw : ∀ x, wipe ((wipe σ vs).set j (some x)) vs = wipe σ vs)
    (he : ∀ (b : Int × Int) (x : V) H1, Ex H H1 → R H1 x b → b ∈ ps → Ev te2 ((wipe σ vs).set j (some x)) H1 (.bl (f b))) : EvL (tLc (iList K te) (gName j) tYes te2 vs) σ H ((ps.map f).map V.bl) := fun H0 e0 Q q => by
  refine h H0 e0 _ fun a us H1 e1 sq bs => ⟨a, rfl, ⟨us, sq H1 (Ex.refl H1)⟩, fun D hD => ?_⟩
  have ul : us.length = ps.length := bs.len
  have e01 := e0.trans e1
  refine in_it (walk_list (xs := us)) (fun k H2 => Ex H1 H2 ∧ H2 D = some (.lst (((ps.take k).map f).map V.bl))) ⟨Ex.new hD, upd_same⟩ (fun k H2 _ p => sq H2 p.1) (fun k x H2 H3 hk p y => ?_) (fun H2 p => ?_)
  · obtain ⟨rfl, hx⟩ := y
    obtain ⟨p1, p2⟩ := p
    obtain ⟨b, hb, rb⟩ := bs.get hx
    refine ⟨hw _, t_yes ?_⟩
    refine (he b x _ (e01.trans p1) (s.ex p1 rb) (List.mem_of_getElem? hb)) _ (Ex.refl _) _ fun H4 e4 => ?_
    refine ⟨_, e4 _ _ p2, sz_lt (by rw [List.length_map, List.length_map, List.length_take]; omega), Ex.mut (p1.trans e4) hD, ?_⟩
    rw [upd_same, List.take_add_one, hb, List.map_append, List.map_append]
    rfl
  · obtain ⟨p1, p2⟩ := p
    rw [ul, List.take_length] at p2
    exact q D H2 (fresh_back e1 hD) (e1.trans p1) p2
end
end HH
set_option maxHeartbeats 4000000
namespace HH
open PySem PySem.Spec PyProof.Rows L2 Evl RZ
section
variable {K : PySem.W.Frag} {σ : L2.St} {H : Hp} {v : V}
theorem rg_nats (n : Nat) : rgV 0 (n : Int) = natsV (List.range n) := by
  have := ord_tag (List.replicate n ((0 : Int), (0 : Int)))
  rw [List.length_replicate] at this
  rw [this, ordL_nats, tag_ids, List.length_replicate]
end
end HH
set_option maxHeartbeats 4000000
namespace HH
open PySem PySem.Spec PyProof.Rows L2 Evl RZ
def aheadP (rs : HH.Row) (w j : Nat) : Bool := if j < w then !decide (barN rs j (w - j - 1) < sS rs w) else if w < j then decide (barN rs w (j - w - 1) < sS rs j) else false
def placeN (rs : HH.Row) (w : Nat) : Nat := (List.range rs.length).countP (aheadP rs w)
structure LeastF (rs : HH.Row) (w k : Nat) (F : Int) : Prop where
  nn : 0 ≤ F
  at' : placeN (fedR rs w F) w ≤ k
  no : ∀ f, 0 ≤ f → f < F → k < placeN (fedR rs w f) w
theorem LeastF.one {rs : HH.Row} {w k : Nat} {F G : Int} (a : LeastF rs w k F) (b : LeastF rs w k G) : F = G := by
  rcases Int.lt_trichotomy F G with h | h | h
  · have := b.no F a.nn h
    have := a.at'
    omega
  · exact h
  · have := a.no G b.nn h
    have := b.at'
    omega
end HH
set_option maxHeartbeats 4000000
namespace HH
open PySem PySem.Spec PyProof.Rows L2 Evl RZ
def CowAt (H : Hp) (v : V) (c : Cow) : Prop := ∃ p, v = .ref p ∧ H p = some (.tup [.int (c.1 : Int), .int c.2.1, .int c.2.2])
theorem CowAt.ex {H H' : Hp} {v : V} {c : Cow} (h : CowAt H v c) (e : Ex H H') : CowAt H' v c := by
  obtain ⟨p, rfl, hp⟩ := h
  exact ⟨p, rfl, e _ _ hp⟩
theorem CowAt.ls {H : Hp} {v : V} {c : Cow} {D : Addr} {xs ys : List V} (h : CowAt H v c) (hD : H D = some (.lst xs)) : CowAt (upd H D (.lst ys)) v c := by
  obtain ⟨p, rfl, hp⟩ := h
  refine ⟨p, rfl, ?_⟩
  rw [upd_ne (ne_of hp hD fun z => nomatch z)]
  exact hp
theorem All2.split {α : Type} {R : V → α → Prop} : ∀ {A B : List α} {us : List V}, All2 R us (A ++ B) → ∃ u1 u2, us = u1 ++ u2 ∧ All2 R u1 A ∧ All2 R u2 B
  | [], B, us, h => ⟨[], us, rfl, .nil, h⟩
  | a :: A, B, _, .cons r h => by
    obtain ⟨u1, u2, rfl, h1, h2⟩ := All2.split (A := A) h
    exact ⟨_ :: u1, u2, rfl, .cons r h1, h2⟩
section
variable {K : PySem.W.Frag} {σ : L2.St} {H : Hp} {tl : TE} {D : Ends} {tz tu : TS} {g : TG}
end
section
variable {K : PySem.W.Frag} {σ : L2.St} {H : Hp} {te te2 : TE} {t : TT} {v : V}
end
end HH
set_option maxHeartbeats 4000000
namespace HH
open PySem PySem.Spec PyProof.Rows L2 Evl RZ
theorem EndAt.ne {K : PySem.W.Frag} {H H' : Hp} {p q ot lp : Addr} {v' : V} {pvs : List V} {L : List Cow} {ps : HH.Row} {n : Nat} (E : EndAt K H H' p q v' ot lp pvs L ps n) : lp ≠ p := fun z => by
  have a := E.lst
  have c := E.prs
  obtain ⟨x, y, z', e, _⟩ := E.bx
  rw [z, e] at a
  cases a
  match ps, c with
  | [], c => exact absurd c.1 (by simp)
  | b0 :: _, c =>
    obtain ⟨u, hu, pp, rfl, _⟩ := c.2 0 b0 rfl
    cases hu
end HH
set_option maxHeartbeats 4000000
namespace HH
open PySem PySem.Spec PyProof.Rows L2 Evl RZ
section
variable {K : PySem.W.Frag} {σ : L2.St} {H : Hp} {ta : TE} {E : XK} {v : V}
end
end HH
set_option maxHeartbeats 4000000
namespace HH
open PySem PySem.Spec PyProof.Rows L2 Evl RZ
end HH
set_option maxHeartbeats 4000000
namespace HH
open PySem PySem.Spec PyProof.Rows L2 Evl RZ
def Lk (a e : HH.Row) : Prop := ∃ M, Steps (tag 0 a) M ∧ rowsOf M = e
theorem Lk.rfl' (a : HH.Row) : Lk a a := ⟨tag 0 a, .refl _, tag_snd 0 a⟩
theorem Lk.trans {a b c : HH.Row} (h : Lk a b) (g : Lk b c) : Lk a c := by
  obtain ⟨M, s, rfl⟩ := h
  obtain ⟨N, t, rfl⟩ := g
  have t' := t.map (HH.ixN (M.map (·.1)))
  rw [rl_tag] at t'
  exact ⟨_, s.trans t', rl_rows _ _⟩
theorem rowsOf_app (L M : List Cow) : rowsOf (L ++ M) = rowsOf L ++ rowsOf M := List.map_append
theorem Lk.under {a e : HH.Row} (p q : HH.Row) (h : Lk a e) : Lk (p ++ a ++ q) (p ++ e ++ q) := by
  obtain ⟨M, s, rfl⟩ := h
  have s1 := (s.map (p.length + ·)).under (tag 0 p) (tag (p.length + a.length) q)
  rw [← tag_rl 0 p.length, Nat.add_zero] at s1
  refine ⟨tag 0 p ++ rlL (p.length + ·) M ++ tag (p.length + a.length) q, ?_, ?_⟩
  · rw [tag_app, tag_app, Nat.zero_add, Nat.zero_add, List.length_append]
    exact s1
  · rw [rowsOf_app, rowsOf_app, rl_rows, show rowsOf (tag 0 p) = p from tag_snd 0 p, show rowsOf (tag (p.length + a.length) q) = q from tag_snd _ q]
theorem Lk.app {a e b f : HH.Row} (h : Lk a e) (g : Lk b f) : Lk (a ++ b) (e ++ f) := by
  have h1 := h.under [] b
  have g1 := g.under e []
  rw [List.nil_append, List.nil_append] at h1
  rw [List.append_nil, List.append_nil] at g1
  exact h1.trans g1
theorem Lk.tl {a e : HH.Row} (h : Lk a e) (ht : ∀ b ∈ a, 0 ≤ b.2) : ∀ b ∈ e, 0 ≤ b.2 := by
  obtain ⟨M, s, rfl⟩ := h
  exact tolls_rows (s.tl (good_tag ht).tl)
def EndR (a e : HH.Row) : Prop := ∃ L, Steps (tag 0 a) L ∧ Nf L ∧ rowsOf L = e
theorem EndR.lk {a e : HH.Row} (h : EndR a e) : Lk a e := by
  obtain ⟨L, s, _, r⟩ := h
  exact ⟨L, s, r⟩
theorem EndR.one {a e f : HH.Row} (ht : ∀ b ∈ a, 0 ≤ b.2) (h : EndR a e) (g : EndR a f) : e = f := by
  obtain ⟨L, s, n, rfl⟩ := h
  obtain ⟨M, t, m, rfl⟩ := g
  rw [nf_any (good_tag ht).tl s n t m]
theorem EndR.is {a : HH.Row} (ht : ∀ b ∈ a, 0 ≤ b.2) : ∃ e, EndR a e := by
  obtain ⟨N, s, n⟩ := nf_is (good_tag ht).tl
  exact ⟨_, N, s, n, rfl⟩
theorem EndR.back {a b e : HH.Row} (h : Lk a b) (g : EndR b e) : EndR a e := by
  obtain ⟨M, s, rfl⟩ := h
  obtain ⟨N, t, n, rfl⟩ := g
  have t' := t.map (HH.ixN (M.map (·.1)))
  rw [rl_tag] at t'
  exact ⟨_, s.trans t', nf_map n, rl_rows _ _⟩
def Jn (a b : HH.Row) : Prop := ∃ e, Lk a e ∧ Lk b e
theorem Jn.same (a : HH.Row) : Jn a a := ⟨a, Lk.rfl' a, Lk.rfl' a⟩
theorem Jn.to {a e : HH.Row} (h : Lk a e) : Jn a e := ⟨e, h, Lk.rfl' e⟩
theorem Jn.of {a e : HH.Row} (h : Lk e a) : Jn a e := ⟨a, Lk.rfl' a, h⟩
theorem Jn.app {a b c d : HH.Row} (h : Jn a b) (g : Jn c d) : Jn (a ++ c) (b ++ d) := by
  obtain ⟨e, h1, h2⟩ := h
  obtain ⟨f, g1, g2⟩ := g
  exact ⟨e ++ f, h1.app g1, h2.app g2⟩
inductive Jns : List HH.Row → List HH.Row → Prop
  | nil : Jns [] []
  | cons {a b : HH.Row} {rr ss : List HH.Row} : Jn a b → Jns rr ss → Jns (a :: rr) (b :: ss)
theorem Jns.len {rr ss : List HH.Row} (h : Jns rr ss) : rr.length = ss.length := by
  induction h with
  | nil => rfl
  | cons _ _ ih => rw [List.length_cons, List.length_cons, ih]
theorem Jns.of : ∀ {rr ss : List HH.Row}, rr.length = ss.length → (∀ (i : Nat) (a b : HH.Row), rr[i]? = some a → ss[i]? = some b → Jn a b) → Jns rr ss
  | [], [], _, _ => .nil
  | a :: rr, b :: ss, hl, h => .cons (h 0 a b rfl rfl) (Jns.of (by simpa using hl) fun i x y hx hy => h (i + 1) x y hx hy)
theorem Jn.flat : ∀ {rr ss : List HH.Row}, Jns rr ss → Jn rr.flatten ss.flatten
  | _, _, .nil => Jn.same []
  | _, _, .cons h t => by
    rw [List.flatten_cons, List.flatten_cons]
    exact h.app (Jn.flat t)
def JnC (L M : List Cow) : Prop := ∃ N, Steps L N ∧ Steps M N
end HH
set_option maxHeartbeats 4000000
namespace HH
open PySem PySem.Spec PyProof.Rows L2 Evl RZ
structure Moved (K : PySem.W.Frag) (H : Hp) (q : Addr) (rs : HH.Row) (L : List Cow) : Prop where
  at_ : LastAt K H q L
  jn : JnC (tag 0 rs) L
  ids : (L.map (·.1)).Perm (List.range rs.length)
  tl : ∀ x ∈ L, 0 ≤ x.2.2
theorem Moved.ex {K : PySem.W.Frag} {H H' : Hp} {q : Addr} {rs : HH.Row} {L : List Cow} (h : Moved K H q rs L) (e : Ex H H') : Moved K H' q rs L := ⟨h.at_.mono e, h.jn, h.ids, h.tl⟩
end HH
set_option maxHeartbeats 4000000
namespace HH
open PySem PySem.Spec PyProof.Rows L2 Evl RZ
end HH
set_option maxHeartbeats 4000000
namespace HH
open PySem PySem.Spec PyProof.Rows L2 Evl RZ
section
variable {K : PySem.W.Frag} {σ : L2.St} {H H' : Hp} {ta tb te : TE} {v : V}
end
structure TabAt (K : PySem.W.Frag) (H : Hp) (t : Addr) (ll : List (List Nat)) : Prop where
  ex : ∃ (us : List V), SqL K H t us ∧ us.length = ll.length ∧ ∀ (i : Nat) (l : List Nat), ll[i]? = some l → ∃ p, us[i]? = some (.ref p) ∧ SqL K H p (natsV l)
theorem TabAt.mono {K : PySem.W.Frag} {H H' : Hp} {t : Addr} {ll : List (List Nat)} (h : TabAt K H t ll) (e : Ex H H') : TabAt K H' t ll := by
  obtain ⟨us, h1, h2, h3⟩ := h.ex
  exact ⟨us, ex_l e h1, h2, fun i l hl => by
    obtain ⟨p, g1, g2⟩ := h3 i l hl
    exact ⟨p, g1, ex_l e g2⟩⟩
theorem TabAt.of {K : PySem.W.Frag} {H0 H : Hp} {t : Addr} {us : List V} {ll : List (List Nat)} (h : SqL K H t us) (f : ListsF H0 H us ll) : TabAt K H t ll := ⟨us, h, f.len, fun i l hl => by
  obtain ⟨p, g1, _, g3⟩ := f.at' i l hl
  exact ⟨p, g1, sq_of g3⟩⟩
section
variable {K : PySem.W.Frag} {σ : L2.St} {H H' : Hp} {ta tb te : TE} {v : V}
theorem TabAt.row {t : Addr} {ll : List (List Nat)} {i : Nat} {l : List Nat} (h : TabAt K H t ll) (hl : ll[i]? = some l) (h1 : Ev ta σ H (.ref t)) (h2 : Ev tb σ H (.int (i : Int))) : ∃ p, Ev (tOp (rIxL K) ta tb) σ H (.ref p) ∧ SqL K H p (natsV l) := by
  obtain ⟨us, g1, g2, g3⟩ := h.ex
  obtain ⟨p, q1, q2⟩ := g3 i l hl
  exact ⟨p, ev_op h1 h2 (rv_ixL (K := K) g1 (atI_nat q1)), q2⟩
end
end HH
set_option maxHeartbeats 4000000
namespace HH
open PySem PySem.Spec PyProof.Rows L2 Evl RZ
def clsB : Stmt → List Stmt
  | .ClassDef (body := l) .. => l
  | _ => []
structure HasX (P : Program) (w : World) (K : PySem.W.Frag) (mg : Str → Option Value) (base : Heap) (k : Nat) (x : Str) (ps : List Str) (sp : Sp) (f : Addr) (fd : FuncData) : Prop where
  G : FnOk P w K mg base (L2.CX P w) k f fd ps sp
  g : mg x = some (.ref f)
  kp : PySem.W.keepIn K (.ref f) = true
  b : Binds K fd ps []
structure HasE (P : Program) (w : World) (K : PySem.W.Frag) (mg : Str → Option Value) (base : Heap) (bk : Bk) (x f : Str) (C fI : Addr) (fd : FuncData) : Prop where
  T : ExcTy K bk f C fI
  F : FnOk P w K mg base CX0 1 fI fd ["self", f] (spIni C f)
  b : Binds K fd ["self", f] []
  g : mg x = some (.ref C)
theorem Has.imp {P : Program} {w : World} {K : PySem.W.Frag} {mg : Str → Option Value} {base : Heap} {k : Nat} {x : Str} {ps : List Str} {sp sp' : Sp} {f : Addr} {fd : FuncData} (h : Has P w K mg base k x ps sp f fd) (i : ∀ vs H Q E, sp' vs H Q E → sp vs H Q E) : Has P w K mg base k x ps sp' f fd := ⟨h.G.imp i, h.g, h.kp, h.b⟩
def letsZ (rs : Row) (p : Int) : Bool := decide (1 ≤ p ∧ p < (rs.length : Int)) && letsN rs p.toNat
def fallsZ (rs : Row) (p : Int) : Bool := decide (0 ≤ p ∧ p + 1 < (rs.length : Int)) && fallsN rs p.toNat
theorem letsZ_nat {rs : Row} {p : Nat} (h : p < rs.length) : letsZ rs (p : Int) = letsN rs p := by
  unfold letsZ
  rw [Int.toNat_natCast]
  by_cases h0 : 1 ≤ p
  · rw [decide_eq_true (by omega), Bool.true_and]
  · rw [decide_eq_false (by omega), Bool.false_and]
    unfold letsN
    rw [decide_eq_false (by omega), Bool.false_and]
theorem letsZ_at {rs : Row} {p : Int} (h : letsZ rs p = true) : ∃ j : Nat, p = (j : Int) ∧ 0 < j ∧ j < rs.length ∧ letsN rs j = true := by
  unfold letsZ at h
  obtain ⟨h1, h2⟩ := Bool.and_eq_true_iff.mp h
  have := of_decide_eq_true h1
  exact ⟨p.toNat, by omega, by omega, by omega, h2⟩
theorem fallsZ_nat {rs : Row} {p : Nat} : fallsZ rs (p : Int) = (decide (p + 1 < rs.length) && fallsN rs p) := by
  unfold fallsZ
  rw [Int.toNat_natCast]
  by_cases h0 : p + 1 < rs.length
  · rw [decide_eq_true (by omega), decide_eq_true h0]
  · rw [decide_eq_false (by omega), decide_eq_false h0]
theorem fallsZ_at {rs : Row} {p : Int} (h : fallsZ rs p = true) : ∃ j : Nat, p = (j : Int) ∧ j + 1 < rs.length ∧ fallsN rs j = true := by
  unfold fallsZ at h
  obtain ⟨h1, h2⟩ := Bool.and_eq_true_iff.mp h
  have := of_decide_eq_true h1
  exact ⟨p.toNat, by omega, by omega, h2⟩
def spCanPassZ (K : PySem.W.Frag) : Sp := fun vs H Q _ => ∃ (v : V) (rs : Row) (p : Int), vs = [v, .int p] ∧ RowAt K H v rs ∧ ∀ H', Ex H H' → Q (.bl (letsZ rs p)) H'
def spCanFallZ (K : PySem.W.Frag) : Sp := fun vs H Q _ => ∃ (v : V) (rs : Row) (p : Int), vs = [v, .int p] ∧ RowAt K H v rs ∧ ∀ H', Ex H H' → Q (.bl (fallsZ rs p)) H'
theorem sv_canZ {K : PySem.W.Frag} {v : V} {rs : Row} {p : Int} {H : Hp} (hv : RowAt K H v rs) : SpV (spCanPassZ K) [v, .int p] H (.bl (letsZ rs p)) := fun H1 e Q q E => ⟨v, rs, p, rfl, hv.ex e, q⟩
theorem sv_canFZ {K : PySem.W.Frag} {v : V} {rs : Row} {p : Int} {H : Hp} (hv : RowAt K H v rs) : SpV (spCanFallZ K) [v, .int p] H (.bl (fallsZ rs p)) := fun H1 e Q q E => ⟨v, rs, p, rfl, hv.ex e, q⟩
def spDoX (K : PySem.W.Frag) (may : Row → Int → Bool) (g : Row → Nat → Row) (C : Addr) : Sp := fun vs H Q E => ∃ (v : V) (rs : Row) (p : Int), vs = [v, .int p] ∧ RowAt K H v rs ∧ rs.length ≤ 1000 ∧ (may rs p = true → ∀ v' H', Ex H H' → RowAt K H' v' (g rs p.toNat) → Q v' H') ∧
  (may rs p = false → ∀ d H', Ex H H' → H' d = none → E (.ref C) (some d) (upd H' d (.xd [(("place" : Str), .int p)])))
section
variable {K : PySem.W.Frag} {σ : L2.St} {H : Hp} {ta : TA} {te : TE} {C a d : Addr} {fs : List (Str × V)}
end
theorem sS_of {rs : HH.Row} {i : Nat} {b : Int × Int} (h : rs[i]? = some b) : sS rs i = b.1 := by
  unfold sS
  rw [h]
  rfl
theorem tS_of {rs : HH.Row} {i : Nat} {b : Int × Int} (h : rs[i]? = some b) : tS rs i = b.2 := by
  unfold tS
  rw [h]
  rfl
end HH
set_option maxHeartbeats 4000000
namespace HH
open PySem PySem.Spec PyProof.Rows L2 Evl RZ
end HH
set_option maxHeartbeats 4000000
namespace HH
open PySem PySem.Spec PyProof.Rows L2 Evl RZ
end HH
set_option maxHeartbeats 4000000
namespace HH
open PySem PySem.Spec PyProof.Rows L2 Evl RZ
def Shw (n : Nat) (d : PyData) : Prop := d.showable = true ∧ d.shown.length ≤ n
theorem Shw.le {n m : Nat} {d : PyData} (h : Shw n d) (e : n ≤ m) : Shw m d := ⟨h.1, Nat.le_trans h.2 e⟩
end HH
set_option maxHeartbeats 4000000
namespace HH
open PySem PySem.Spec PyProof.Rows L2 Evl
def ZipA (H : Hp) (us : List V) (ps : List (V × V)) : Prop := All2 (fun u p => ∃ T, u = .ref T ∧ H T = some (.tup [p.1, p.2])) us ps
theorem ZipA.ex {H H' : Hp} {us : List V} {ps : List (V × V)} (h : ZipA H us ps) (e : Ex H H') : ZipA H' us ps := All2.mono (fun _ _ ⟨T, a, b⟩ => ⟨T, a, e _ _ b⟩) h
theorem ZipA.put {H : Hp} {q : Addr} {xs ys : List V} {us : List V} {ps : List (V × V)} (h : ZipA H us ps) (hq : H q = some (.lst xs)) : ZipA (upd H q (.lst ys)) us ps := All2.mono (fun _ _ ⟨T, a, b⟩ => ⟨T, a, by
  rw [upd_ne (fun z => by rw [z, hq] at b; cases b)]
  exact b⟩) h
def ZS (h : Heap) (H : Hp) (z TI TO i1 i2 a b : Addr) (i : Nat) : Prop := IsPair h TI (.ref i1) (.ref i2) ∧ h.IsListIter i1 a i ∧ h.IsListIter i2 b i ∧
  ((IsZip h z TI TO .none ∧ ∃ x y, IsPair h TO x y) ∨ ∃ (T : Addr) (f : Bool) (p q : V), IsZipHeld h z TI TO T f ∧ H T = some (.tup [p, q]) ∧ ∃ o, h.get? TO = some o)
section
variable {X : Cx} {pins : List (Addr × Obj)} {σ : L2.St} {H H0 : Hp} {s : Shared} {z TI TO i1 i2 a b q : Addr} {xs ys : List V} {A A1 : Around} {E : Value → Shared → Prop}
abbrev FpL (X : Cx) (pins : List (Addr × Obj)) (H : Hp) (l : List Addr) : Prop := ∀ c ∈ l, FpOk X pins H c
theorem FpL.up {l : List Addr} {T : Addr} {o : HO} (h : FpL X pins H l) (ne : ∀ c ∈ l, c ≠ T) : FpL X pins (upd H T o) l := fun c hc => by
  obtain ⟨f0, f1⟩ := h c hc
  exact ⟨by rw [upd_ne (ne c hc)]; exact f0, f1⟩
theorem ZS.type {i : Nat} (h : ZS s.heap H z TI TO i1 i2 a b i) : s.TypeIs (.ref z) "zip" := by
  obtain ⟨_, _, _, h | h⟩ := h
  · exact ⟨_, h.1, rfl⟩
  · obtain ⟨_, _, _, _, h, _⟩ := h
    exact ⟨_, h, rfl⟩
theorem ZS.keep {h h' : Heap} {H' : Hp} {i : Nat} (st : ZS h H z TI TO i1 i2 a b i) (k : ∀ c ∈ [z, TI, TO, i1, i2], ∀ o, h.get? c = some o → h'.get? c = some o) (kH : ∀ T p q, H T = some (.tup [p, q]) → H' T = some (.tup [p, q])) : ZS h' H' z TI TO i1 i2 a b i := by
  obtain ⟨t, a1, a2, g⟩ := st
  refine ⟨k TI (by simp) _ t, a1.at fun o e => k i1 (by simp) o e, a2.at fun o e => k i2 (by simp) o e, ?_⟩
  rcases g with ⟨g1, x, y, g2⟩ | ⟨T, f, p, q, g1, g2, o, g3⟩
  · exact .inl ⟨k z (by simp) _ g1, x, y, k TO (by simp) _ g2⟩
  · exact .inr ⟨T, f, p, q, k z (by simp) _ g1, kH _ _ _ g2, o, k TO (by simp) _ g3⟩
theorem ZS.put {its its' : List Value} {n i : Nat} {us vs : List V} {f : Array Value → Array Value} (hf : FpL X pins H [z, TI, TO, i1, i2]) (hq : H q = some (.lst us)) (st : ZS s.heap H z TI TO i1 i2 a b i) :
    ZS (s.heap.update q (Obj.mapSeq f)) (upd H q (.lst vs)) z TI TO i1 i2 a b i :=
  st.keep (fun c hc o e => (Heap.get?_update_other s.heap (Obj.mapSeq f) (fun w => by
    have := (hf c hc).1
    rw [← w, hq] at this
    cases this)).trans e) (fun T p r hT => by
      rw [upd_ne (fun w => by rw [w, hq] at hT; cases hT)]
      exact hT)
theorem FpL.put {us vs : List V} (hf : FpL X pins H [z, TI, TO, i1, i2]) (hq : H q = some (.lst us)) : FpL X pins (upd H q (.lst vs)) [z, TI, TO, i1, i2] := hf.up fun c hc w => by
  have := (hf c hc).1
  rw [w, hq] at this
  cases this
end
end HH
set_option maxHeartbeats 4000000
namespace HH
open PySem PySem.Spec PyProof.Rows L2 Evl
theorem tab_told {l : List Nat} {n : Nat} (hl : ∀ x ∈ l, x < n) : Told n l (tab l n n) := ⟨fun p => by
  rw [mem_tab]
  constructor
  · rintro ⟨i, j, h1, h2, h3, h4⟩
    exact ⟨i, j, h1, h3, h4⟩
  · rintro ⟨i, j, h1, h2, h3⟩
    exact ⟨i, j, h1, hl _ (bef_mem h3).1, h2, h3⟩, nd_tab _ _ _⟩
theorem tab_swap {n a b : Nat} {A B : List Nat} (hab : a < b) (nd : (A ++ a :: b :: B).Nodup) (hl : ∀ x ∈ A ++ a :: b :: B, x < n) : (tab (A ++ a :: b :: B) n n ++ [((a : Int), (b : Int))]).Perm (tab (A ++ b :: a :: B) n n) := by
  refine told_tab (told_swap (tab_told hl) hab nd) fun x hx => hl x ?_
  have : (A ++ b :: a :: B).Perm (A ++ a :: b :: B) := List.Perm.append_left A (List.Perm.swap ..)
  exact this.mem_iff.mp hx
theorem bef_adj {A B : List Nat} {a b : Nat} (nd : (A ++ a :: b :: B).Nodup) : bef (A ++ a :: b :: B) a b = true := by
  have g1 : (A ++ a :: b :: B)[A.length]? = some a := by simp
  have g2 : (A ++ a :: b :: B)[A.length + 1]? = some b := by
    rw [List.getElem?_append_right (by omega), show A.length + 1 - A.length = 1 by omega]
    rfl
  rw [bef_iff nd g1 g2]
  exact decide_eq_true (by omega)
structure Went (K : PySem.W.Frag) (H : Hp) (v : V) (o : Addr) (rs : HH.Row) (L : List Cow) : Prop where
  row : RowAt K H v rs
  len : rs.length ≤ 30
  tl : ∀ b ∈ rs, 0 ≤ b.2
  ord : SqT K H o (natsV (L.map (·.1)))
  run : ∃ ds, MRun (tag 0 rs) L ds
theorem Went.ex {K : PySem.W.Frag} {H H' : Hp} {v : V} {o : Addr} {rs : HH.Row} {L : List Cow} (h : Went K H v o rs L) (e : Ex H H') : Went K H' v o rs L := ⟨h.row.ex e, h.len, h.tl, ex_t e h.ord, h.run⟩
theorem run_ids {rs : HH.Row} {L : List Cow} {ds : List Deed} (tl : ∀ b ∈ rs, 0 ≤ b.2) (r : MRun (tag 0 rs) L ds) : (L.map (·.1)).Perm (List.range rs.length) := by
  obtain ⟨E, sE, nE⟩ := nf_is (good_tag tl).tl
  obtain ⟨B, sB, nB⟩ := ff_is (good_tag tl).tl
  exact ((r.both (good_tag tl).tl sE nE sB nB).2.1).ids.symm.trans sE.idsT
theorem Went.ids {K : PySem.W.Frag} {H : Hp} {v : V} {o : Addr} {rs : HH.Row} {L : List Cow} (h : Went K H v o rs L) : (L.map (·.1)).Perm (List.range rs.length) := by
  obtain ⟨ds, r⟩ := h.run
  exact run_ids h.tl r
theorem Went.nd {K : PySem.W.Frag} {H : Hp} {v : V} {o : Addr} {rs : HH.Row} {L : List Cow} (h : Went K H v o rs L) : (L.map (·.1)).Nodup := h.ids.nodup_iff.mpr List.nodup_range
theorem Went.lenL {K : PySem.W.Frag} {H : Hp} {v : V} {o : Addr} {rs : HH.Row} {L : List Cow} (h : Went K H v o rs L) : (L.map (·.1)).length = rs.length := by rw [h.ids.length_eq, List.length_range]
theorem Went.all {K : PySem.W.Frag} {H : Hp} {v : V} {o : Addr} {rs : HH.Row} {L : List Cow} (h : Went K H v o rs L) (x : Nat) (hx : x < (L.map (·.1)).length) : x ∈ L.map (·.1) := h.ids.mem_iff.mpr (List.mem_range.mpr (by rw [← h.lenL]; exact hx))
theorem kept_stays {rs : HH.Row} {L E B : List Cow} {ds : List Deed} (tl : ∀ b ∈ rs, 0 ≤ b.2) (r : MRun (tag 0 rs) L ds) (sE : Steps (tag 0 rs) E) (nE : Nf E) (sB : FSteps (tag 0 rs) B) (nB : Ff B) {i j : Nat} (h1 : i < j) (h2 : j < rs.length) (hE : bef (E.map (·.1)) j i = false) (hB : bef (B.map (·.1)) j i = false) : bef (L.map (·.1)) j i = false := by
  have t0 : ∀ x ∈ tag 0 rs, 0 ≤ x.2.2 := (good_tag tl).tl
  obtain ⟨tL, sLE, sLB⟩ := r.both t0 sE nE sB nB
  have tB := sB.tl t0
  have ndL : (L.map (·.1)).Nodup := (run_ids tl r).nodup_iff.mpr List.nodup_range
  have mem : ∀ {M : List Cow}, (M.map (·.1)).Perm (L.map (·.1)) → ∀ x, x < rs.length → x ∈ M.map (·.1) := fun p x hx => p.mem_iff.mpr ((run_ids tl r).mem_iff.mpr (List.mem_range.mpr hx))
  have pB := sLB.ids
  have pE := sLE.ids
  have b1 := bef_tot (mem pB j h2) (mem pB i (by omega)) (by omega) hB
  have e1 := bef_tot (mem pE j h2) (mem pE i (by omega)) (by omega) hE
  exact bef_asym ndL (mid_keeps tB (pB.nodup_iff.mpr ndL) sLB.back sLE b1 e1)
end HH
set_option maxHeartbeats 4000000
namespace HH
open PySem PySem.Spec PyProof.Rows L2 Evl
theorem steps_run {L0 M L : List Cow} (h : Steps M L) : ∀ {ds : List Deed}, MRun L0 M ds → ∃ ds', MRun L0 L ds' := by
  induction h with
  | refl => exact fun r => ⟨_, r⟩
  | head s _ ih =>
    intro ds r
    obtain ⟨pre, post, a, b, rfl, hp, rfl⟩ := s
    exact ih (.pass r hp)
section
variable {e : List Nat} {rs ps : HH.Row} {i j n : Nat}
end
end HH
set_option maxHeartbeats 4000000
namespace HH
open PySem PySem.Spec PyProof.Rows L2 Evl
theorem ids_split (pre post : List Cow) (a b : Cow) : (pre ++ a :: b :: post).map (·.1) = pre.map (·.1) ++ a.1 :: b.1 :: post.map (·.1) := by rw [List.map_append]; rfl
theorem rows_split (pre post : List Cow) (a b : Cow) : rowsOf (pre ++ a :: b :: post) = rowsOf pre ++ a.2 :: b.2 :: rowsOf post := by unfold rowsOf; rw [List.map_append]; rfl
theorem ixN_split {A B : List Nat} {a b : Nat} : ixN (A ++ a :: b :: B) A.length = a ∧ ixN (A ++ a :: b :: B) (A.length + 1) = b := by
  unfold ixN
  constructor
  · rw [List.getElem?_append_right (Nat.le_refl _), Nat.sub_self]
    rfl
  · rw [List.getElem?_append_right (by omega), show A.length + 1 - A.length = 1 by omega]
    rfl
theorem adj_last {pre post E : List Cow} {a b : Cow} (t : ∀ x ∈ pre ++ a :: b :: post, 0 ≤ x.2.2) (nd : ((pre ++ a :: b :: post).map (·.1)).Nodup) (sE : Steps (pre ++ a :: b :: post) E) (nE : Nf E) : bef (E.map (·.1)) b.1 a.1 = true ↔ b.2.1 - a.2.2 > a.2.1 := by
  obtain ⟨Y, sY, rfl⟩ := sE.unmap (rl_tag (pre ++ a :: b :: post)).symm
  have nY := nf_un nE
  have tr := tolls_rows t
  have idY := sY.idsT
  have len : (rowsOf (pre ++ a :: b :: post)).length = pre.length + (post.length + 2) := by
    unfold rowsOf
    rw [List.length_map, List.length_append]
    rfl
  have key := never_iff tr sY nY (i := pre.length) (j := pre.length + 1) (by omega) (by omega)
  rw [show pre.length + 1 - pre.length - 1 = 0 by omega] at key
  have e1 : ixN ((pre ++ a :: b :: post).map (·.1)) pre.length = a.1 ∧ ixN ((pre ++ a :: b :: post).map (·.1)) (pre.length + 1) = b.1 := by
    have := ixN_split (A := pre.map (·.1)) (B := post.map (·.1)) (a := a.1) (b := b.1)
    rw [List.length_map] at this
    rw [ids_split]
    exact this
  have lenI : ((pre ++ a :: b :: post).map (·.1)).length = pre.length + (post.length + 2) := by
    rw [List.length_map, List.length_append]
    rfl
  have inj : ∀ k, k < pre.length + (post.length + 2) → ∀ x ∈ Y.map (·.1), ixN ((pre ++ a :: b :: post).map (·.1)) x = ixN ((pre ++ a :: b :: post).map (·.1)) k → x = k := fun k hk x hx e => by
    have := List.mem_range.mp (idY.mem_iff.mp hx)
    exact ixN_inj nd (by omega) (by omega) e
  have bm := bef_map (f := ixN ((pre ++ a :: b :: post).map (·.1))) (j := pre.length + 1) (i := pre.length) (l := Y.map (·.1)) (inj _ (by omega)) (inj _ (by omega))
  rw [e1.1, e1.2, ← rl_ids] at bm
  rw [bm, key]
  have bar : barN (rowsOf (pre ++ a :: b :: post)) pre.length 0 = sS (rowsOf (pre ++ a :: b :: post)) pre.length + tS (rowsOf (pre ++ a :: b :: post)) pre.length := rfl
  have at' := sS_at (pre := rowsOf pre) (post := rowsOf post) (x := a.2) (y := b.2)
  have lp : (rowsOf pre).length = pre.length := List.length_map ..
  rw [lp, ← rows_split] at at'
  rw [bar, at'.1, at'.2.1, at'.2.2.1]
  omega
theorem turnC_split (pre post : List Cow) (a b : Cow) : turnC 0 (pre ++ a :: b :: post) = turnC 0 pre ++ (a.1, (-(a.2.1 - tsumC pre), a.2.2)) :: (b.1, (-(b.2.1 - (tsumC pre + a.2.2)), b.2.2)) :: turnC (tsumC pre + a.2.2 + b.2.2) post := by
  rw [turnC_app, Int.zero_add]
  rfl
theorem turnC_tl {c : Int} : ∀ {L : List Cow}, (∀ x ∈ L, 0 ≤ x.2.2) → ∀ x ∈ turnC c L, 0 ≤ x.2.2
  | [], _, x, hx => by cases hx
  | y :: L, h, x, hx => by
    have hx : x ∈ (y.1, (-(y.2.1 - c), y.2.2)) :: turnC (c + y.2.2) L := hx
    rcases List.mem_cons.mp hx with rfl | hx
    · exact h y (List.mem_cons_self ..)
    · exact turnC_tl (fun z hz => h z (List.mem_cons_of_mem _ hz)) x hx
theorem adj_first {pre post B : List Cow} {a b : Cow} (t : ∀ x ∈ pre ++ a :: b :: post, 0 ≤ x.2.2) (nd : ((pre ++ a :: b :: post).map (·.1)).Nodup) (sB : FSteps (pre ++ a :: b :: post) B) (nB : Ff B) : bef (B.map (·.1)) b.1 a.1 = true ↔ a.2.1 > b.2.1 := by
  have s := fsteps_turn 0 sB
  have n := ff_turn nB
  have t2 := turnC_tl (c := 0) t
  have nd2 : ((turnC 0 (pre ++ a :: b :: post)).map (·.1)).Nodup := by rw [turnC_ids]; exact nd
  rw [turnC_split] at s t2 nd2
  have key := adj_last t2 nd2 s n
  rw [turnC_ids] at key
  rw [key]
  dsimp only
  omega
theorem fsteps_run {L0 M L : List Cow} (h : FSteps M L) : ∀ {ds : List Deed}, MRun L0 M ds → ∃ ds', MRun L0 L ds' := by
  induction h with
  | refl => exact fun r => ⟨_, r⟩
  | head s _ ih =>
    intro ds r
    obtain ⟨pre, post, a, b, rfl, hp, rfl⟩ := s
    exact ih (.fall r hp)
theorem move_of {rs : HH.Row} {pre post M : List Cow} {a b : Cow} {ds ds' : List Deed} (tl : ∀ x ∈ rs, 0 ≤ x.2) (r : MRun (tag 0 rs) (pre ++ a :: b :: post) ds) (r' : MRun (tag 0 rs) M ds') (h : bef (M.map (·.1)) b.1 a.1 = true) : b.2.1 - a.2.2 > a.2.1 ∨ a.2.1 > b.2.1 := by
  have t0 : ∀ x ∈ tag 0 rs, 0 ≤ x.2.2 := (good_tag tl).tl
  obtain ⟨E, sE, nE⟩ := nf_is t0
  obtain ⟨B, sB, nB⟩ := ff_is t0
  obtain ⟨tL, sLE, sLB⟩ := r.both t0 sE nE sB nB
  obtain ⟨tM, sME, sMB⟩ := r'.both t0 sE nE sB nB
  have idL := run_ids tl r
  have idM := run_ids tl r'
  have ndL : ((pre ++ a :: b :: post).map (·.1)).Nodup := idL.nodup_iff.mpr List.nodup_range
  have ndM : (M.map (·.1)).Nodup := idM.nodup_iff.mpr List.nodup_range
  have tB := sB.tl t0
  have idB : (B.map (·.1)).Perm (M.map (·.1)) := sMB.ids
  have idE : (E.map (·.1)).Perm (M.map (·.1)) := sME.ids
  cases hE : bef (E.map (·.1)) b.1 a.1 with
  | true => exact .inl ((adj_last tL ndL sLE nE).mp hE)
  | false =>
    cases hB : bef (B.map (·.1)) b.1 a.1 with
    | true => exact .inr ((adj_first tL ndL sLB nB).mp hB)
    | false =>
      exfalso
      obtain ⟨mb, ma⟩ := bef_mem h
      have ne : b.1 ≠ a.1 := fun z => by
        rw [z] at h
        have := bef_asym ndM h
        rw [h] at this
        cases this
      have e1 := bef_tot (idE.mem_iff.mpr mb) (idE.mem_iff.mpr ma) ne hE
      have b1 := bef_tot (idB.mem_iff.mpr mb) (idB.mem_iff.mpr ma) ne hB
      have z := mid_keeps tB (idB.nodup_iff.mpr ndM) sMB.back sME b1 e1
      rw [bef_asym ndM h] at z
      cases z
structure Keeps (rs : HH.Row) (o : List Nat) : Prop where
  ids : o.Perm (List.range rs.length)
  kp : ∀ E B, Steps (tag 0 rs) E → Nf E → FSteps (tag 0 rs) B → Ff B → ∀ i j, i < j → j < rs.length → bef (E.map (·.1)) j i = false → bef (B.map (·.1)) j i = false → bef o j i = false
theorem Keeps.nd {rs : HH.Row} {o : List Nat} (k : Keeps rs o) : o.Nodup := k.ids.nodup_iff.mpr List.nodup_range
theorem Keeps.len {rs : HH.Row} {o : List Nat} (k : Keeps rs o) : o.length = rs.length := by rw [k.ids.length_eq, List.length_range]
theorem run_keeps {rs : HH.Row} {L : List Cow} {ds : List Deed} (tl : ∀ x ∈ rs, 0 ≤ x.2) (r : MRun (tag 0 rs) L ds) : Keeps rs (L.map (·.1)) := ⟨run_ids tl r, fun E B sE nE sB nB i j h1 h2 h3 h4 => kept_stays tl r sE nE sB nB h1 h2 h3 h4⟩
theorem seen {rs : HH.Row} {o : List Nat} {L : List Cow} {ds : List Deed} {x y : Nat} (tl : ∀ x ∈ rs, 0 ≤ x.2) (k : Keeps rs o) (r : MRun (tag 0 rs) L ds) (h1 : bef (L.map (·.1)) y x = true) (h2 : bef o x y = true) : ∃ M ds', MRun (tag 0 rs) M ds' ∧ bef (M.map (·.1)) x y = true := by
  have t0 : ∀ x ∈ tag 0 rs, 0 ≤ x.2.2 := (good_tag tl).tl
  obtain ⟨E, sE, nE⟩ := nf_is t0
  obtain ⟨B, sB, nB⟩ := ff_is t0
  obtain ⟨dE, rE⟩ := steps_run sE (.nil (L0 := tag 0 rs))
  obtain ⟨dB, rB⟩ := fsteps_run sB (.nil (L0 := tag 0 rs))
  obtain ⟨mx, my⟩ := bef_mem h2
  have hx := List.mem_range.mp (k.ids.mem_iff.mp mx)
  have hy := List.mem_range.mp (k.ids.mem_iff.mp my)
  have ne : x ≠ y := fun z => by
    rw [z] at h2
    have := bef_asym k.nd h2
    rw [h2] at this
    cases this
  rcases Nat.lt_or_gt_of_ne ne with h | h
  · refine ⟨tag 0 rs, [], .nil, ?_⟩
    rw [tag_ids]
    exact bef_range h hy
  · cases cE : bef (E.map (·.1)) x y with
    | true => exact ⟨E, dE, rE, cE⟩
    | false =>
      cases cB : bef (B.map (·.1)) x y with
      | true => exact ⟨B, dB, rB, cB⟩
      | false =>
        have := k.kp E B sE nE sB nB y x h hx cE cB
        rw [h2] at this
        cases this
theorem bef_front {A : List Nat} {x y : Nat} {B : List Nat} (nd : (A ++ x :: B).Nodup) (hy : y ∈ B) : bef (A ++ x :: B) x y = true := by
  obtain ⟨q, hq⟩ := List.getElem?_of_mem hy
  have g1 : (A ++ x :: B)[A.length]? = some x := by simp
  have g2 : (A ++ x :: B)[A.length + 1 + q]? = some y := by
    rw [List.getElem?_append_right (by omega), show A.length + 1 + q - A.length = q + 1 by omega]
    exact hq
  rw [bef_iff nd g1 g2]
  exact decide_eq_true (by omega)
theorem bring {rs : HH.Row} {o : List Nat} (tl : ∀ x ∈ rs, 0 ≤ x.2) (k : Keeps rs o) : ∀ (n : Nat) (A u v : List Cow) (c : Cow) (ds : List Deed), u.length = n → MRun (tag 0 rs) (A ++ u ++ c :: v) ds → (∀ y ∈ u, bef o c.1 y.1 = true) → ∃ (u' : List Cow) (c' : Cow) (ds' : List Deed), MRun (tag 0 rs) (A ++ c' :: u' ++ v) ds' ∧ c'.1 = c.1 ∧ u'.map (·.1) = u.map (·.1)
  | 0, A, u, v, c, ds, hn, r, _ => by
    have : u = [] := List.length_eq_zero_iff.mp hn
    subst this
    exact ⟨[], c, ds, by simpa using r, rfl, rfl⟩
  | n + 1, A, u, v, c, ds, hn, r, hb => by
    obtain ⟨u1, y, rfl⟩ : ∃ u1 y, u = u1 ++ [y] := by
      rcases List.eq_nil_or_concat u with rfl | ⟨u1, y, rfl⟩
      · cases hn
      · exact ⟨u1, y, by rw [List.concat_eq_append]⟩
    have hn1 : u1.length = n := by
      rw [List.length_append] at hn
      have : u1.length + 1 = n + 1 := hn
      omega
    have e0 : A ++ (u1 ++ [y]) ++ c :: v = (A ++ u1) ++ y :: c :: v := by simp
    rw [e0] at r
    have nd := (run_ids tl r).nodup_iff.mpr List.nodup_range
    have b1 : bef (((A ++ u1) ++ y :: c :: v).map (·.1)) y.1 c.1 = true := by
      rw [ids_split] at nd ⊢
      exact bef_adj nd
    obtain ⟨M, dM, rM, hM⟩ := seen tl k r b1 (hb y (by simp))
    rcases move_of tl r rM hM with mv | mv
    · obtain ⟨u', c', ds', r', e1, e2⟩ := bring tl k n A u1 (y :: v) (c.1, (c.2.1 - y.2.2, c.2.2)) _ hn1 (.pass r mv) (fun z hz => hb z (by simp [hz]))
      exact ⟨u' ++ [y], c', ds', by simpa using r', e1, by rw [List.map_append, List.map_append, e2]⟩
    · obtain ⟨u', c', ds', r', e1, e2⟩ := bring tl k n A u1 ((y.1, (y.2.1 + c.2.2, y.2.2)) :: v) c _ hn1 (.fall r mv) (fun z hz => hb z (by simp [hz]))
      exact ⟨u' ++ [(y.1, (y.2.1 + c.2.2, y.2.2))], c', ds', by simpa using r', e1, by rw [List.map_append, List.map_append, e2]; rfl⟩
theorem reach_from {rs : HH.Row} {o : List Nat} (tl : ∀ x ∈ rs, 0 ≤ x.2) (k : Keeps rs o) : ∀ (todo done : List Nat) (A R : List Cow) (ds : List Deed), o = done ++ todo → MRun (tag 0 rs) (A ++ R) ds → A.map (·.1) = done → (R.map (·.1)).Perm todo → ∃ L ds', MRun (tag 0 rs) L ds' ∧ L.map (·.1) = o
  | [], done, A, R, ds, ho, r, hA, hR => by
    have : R = [] := by
      have := hR.length_eq
      rw [List.length_map] at this
      exact List.length_eq_zero_iff.mp this
    subst this
    exact ⟨A, ds, by simpa using r, by rw [hA, ho, List.append_nil]⟩
  | x :: todo, done, A, R, ds, ho, r, hA, hR => by
    have mx : x ∈ R.map (·.1) := hR.mem_iff.mpr (List.mem_cons_self ..)
    obtain ⟨c, hc, rfl⟩ := List.mem_map.mp mx
    obtain ⟨u, v, rfl⟩ := List.append_of_mem hc
    have nd := k.nd
    rw [ho] at nd
    have ndR : ((u ++ c :: v).map (·.1)).Nodup := hR.nodup_iff.mpr (List.nodup_append.mp nd).2.1
    have hb : ∀ y ∈ u, bef o c.1 y.1 = true := fun y hy => by
      rw [ho]
      refine bef_front nd ?_
      have my : y.1 ∈ c.1 :: todo := hR.mem_iff.mp (List.mem_map_of_mem (List.mem_append_left _ hy))
      rcases List.mem_cons.mp my with z | z
      · exfalso
        rw [List.map_append, List.nodup_append] at ndR
        exact ndR.2.2 y.1 (List.mem_map_of_mem hy) c.1 (List.mem_map_of_mem (List.mem_cons_self ..)) z
      · exact z
    obtain ⟨u', c', ds', r', e1, e2⟩ := bring tl k u.length A u v c ds rfl (by rw [List.append_assoc]; exact r) hb
    refine reach_from tl k todo (done ++ [c.1]) (A ++ [c']) (u' ++ v) ds' (by rw [ho, List.append_assoc]; rfl) (by simpa using r') (by rw [List.map_append, hA]; show done ++ [c'.1] = _; rw [e1]) ?_
    have p : ((u ++ c :: v).map (·.1)).Perm (c.1 :: (u ++ v).map (·.1)) := (List.perm_middle (l₁ := u) (l₂ := v) (a := c)).map _
    have p2 := p.symm.trans hR
    have p3 := List.Perm.cons_inv p2
    rw [List.map_append, e2, ← List.map_append]
    exact p3
theorem reach {rs : HH.Row} {o : List Nat} (tl : ∀ x ∈ rs, 0 ≤ x.2) (k : Keeps rs o) : ∃ L ds, MRun (tag 0 rs) L ds ∧ L.map (·.1) = o := reach_from tl k o [] [] (tag 0 rs) [] rfl .nil rfl (by rw [tag_ids]; exact k.ids.symm)
theorem tab_none {rs : HH.Row} : tab ((tag 0 rs).map (·.1)) rs.length rs.length = [] := by
  rw [tag_ids]
  exact List.perm_nil.mp (told_tab (told_nil rs.length) (fun x hx => List.mem_range.mp hx)).symm
end HH
set_option maxHeartbeats 4000000
namespace HH
open PySem PySem.Spec PyProof.Rows L2 Evl
structure CellP (H0 H : Hp) (as : List Addr) (t p : Nat → Int) : Prop where
  nd : as.Nodup
  old : ∀ a ∈ as, H0 a = none
  at' : ∀ (i : Nat) (a : Addr), as[i]? = some a → H a = some (.lst [.int (t i), .int (p i)])
theorem CellP.ex {H0 H H' : Hp} {as : List Addr} {t p : Nat → Int} (h : CellP H0 H as t p) (e : Ex H H') : CellP H0 H' as t p := ⟨h.nd, h.old, fun i a ha => e _ _ (h.at' i a ha)⟩
theorem CellP.off {H0 H : Hp} {as : List Addr} {t p : Nat → Int} {D : Addr} {o : HO} (h : CellP H0 H as t p) (n : D ∉ as) : CellP H0 (upd H D o) as t p := ⟨h.nd, h.old, fun i a ha => by
  rw [upd_ne (fun z => n (by rw [← z]; exact List.mem_of_getElem? ha))]
  exact h.at' i a ha⟩
theorem CellP.app {H0 H : Hp} {as : List Addr} {T : Addr} (h : CellP H0 H as (fun _ => 0) (fun _ => 0)) (h0 : H0 T = none) (hT : H T = none) : CellP H0 (upd H T (.lst [.int 0, .int 0])) (as ++ [T]) (fun _ => 0) (fun _ => 0) := by
  have nT : T ∉ as := fun m => by
    obtain ⟨i, hi⟩ := List.getElem?_of_mem m
    rw [h.at' i T hi] at hT
    cases hT
  refine ⟨List.nodup_append.mpr ⟨h.nd, by simp, fun x hx y hy e => nT (by rw [List.mem_singleton] at hy; rw [← hy, ← e]; exact hx)⟩, fun a ha => ?_, fun i a ha => ?_⟩
  · rcases List.mem_append.mp ha with m | m
    · exact h.old a m
    · rw [List.mem_singleton.mp m]
      exact h0
  · by_cases c : i < as.length
    · rw [List.getElem?_append_left c] at ha
      rw [upd_ne (fun z => nT (by rw [← z]; exact List.mem_of_getElem? ha))]
      exact h.at' i a ha
    · have hlt : i < (as ++ [T]).length := (List.getElem?_eq_some_iff.mp ha).1
      rw [List.length_append] at hlt
      have hlt : i < as.length + 1 := hlt
      have e : i = as.length := by omega
      rw [e, List.getElem?_append_right (Nat.le_refl _), Nat.sub_self] at ha
      cases ha
      exact upd_same
theorem CellP.ne {H0 H : Hp} {as : List Addr} {t p : Nat → Int} (h : CellP H0 H as t p) {i k : Nat} {a c : Addr} (ha : as[i]? = some a) (hc : as[k]? = some c) (n : k ≠ i) : c ≠ a := fun z => by
  subst z
  have h1 := (List.getElem?_eq_some_iff.mp ha).1
  exact n ((List.getElem?_inj h1 h.nd).mp (ha.trans hc.symm)).symm
section
variable {K : PySem.W.Frag} {σ : L2.St} {H : Hp} {te : TE} {v : V} {Q : VK} {j : Nat} {vs : List Nat}
end
theorem qs_run {t1 tz : TS} {D : Ends} {σ : L2.St} {H : Hp} (h : t1 { D with nx := tz D } σ H) : tSeq t1 tz D σ H := h
section
variable {K : PySem.W.Frag} {σ : L2.St} {H H0 : Hp} {tf tx tv : TE} {D : Ends} {fa a : Addr} {as : List Addr} {t p : Nat → Int} {i : Nat} {d : Int}
end
end HH
set_option maxHeartbeats 4000000
namespace HH
open PySem PySem.Spec PyProof.Rows L2 Evl
def spNear (K : PySem.W.Frag) : Sp := fun vs H Q _ => ∃ (p q kp : Addr) (l : List Nat) (ks : HH.Row) (us : List V) (m n : Nat) (G : List Nat → Prop), vs = [.ref p, .ref q, .ref kp, .int (m : Int)] ∧ (SqL K H q (natsV l) ∨ SqT K H q (natsV l)) ∧ H kp = some (.lst us) ∧ BeastsT H us ks ∧ kp ≠ p ∧ 0 < l.length ∧ l.length ≤ 30 ∧ m ≤ 1000 ∧ Bx H p n ∧ n + m < Lim ∧ G l ∧
  (∀ A a b B, G (A ++ a :: b :: B) → (¬ (((if a ≤ b then a else b : Nat) : Int), ((if a ≤ b then b else a : Nat) : Int)) ∈ ks) → G (A ++ b :: a :: B)) ∧
  ∀ (o : Addr) (l' : List Nat) (H' : Hp), ExB p H H' → Bx H' p (n + m) → H o = none → H' o = some (.tup (natsV l')) → l'.length = l.length → G l' → Q (.ref o) H'
theorem merge_places {l : List Nat} (nd : l.Nodup) : ∀ k, k ≤ l.length → PlacesD l k (mergeK [] (((List.range k).map fun i => ((.inl (ixN l i : Int), .int (i : Int)) : Key × V))))
  | 0, _ => ⟨fun i x h => absurd h (Nat.not_lt_zero _), Nat.le_refl _⟩
  | k + 1, h => by
    have ih := merge_places nd k (by omega)
    rw [List.range_succ, List.map_append]
    unfold mergeK at ih ⊢
    rw [List.foldl_append]
    exact ih.put nd (ixN_at (by omega))
section
variable {e : List Nat} {rs ps : HH.Row} {i j n : Nat}
end
section
variable {K : PySem.W.Frag} {σ : L2.St} {H : Hp} {te t1 t2 : TE} {o : Addr} {l : List Nat} {j : Nat} {vs : List Nat}
end
end HH
set_option maxHeartbeats 4000000
namespace HH
open PySem PySem.Spec PyProof.Rows L2
section
variable {w : World} {P : Program} {s : Shared} {A : Around} {E : Value → Shared → Prop}
end
section
variable {X : Cx}
end
end HH
set_option maxHeartbeats 4000000
namespace HH
open PySem PySem.Spec PyProof.Rows L2 Evl RZ
end HH
set_option maxHeartbeats 4000000
namespace HH
open PySem PySem.Spec PyProof.Rows L2 Evl RZ
structure Cells (H0 H : Hp) (as : List Addr) (ll : Nat → List Nat) : Prop where
  nd : as.Nodup
  old : ∀ a ∈ as, H0 a = none
  at' : ∀ (i : Nat) (a : Addr), as[i]? = some a → H a = some (.lst (natsV (ll i)))
theorem Cells.ex {H0 H H' : Hp} {as : List Addr} {ll : Nat → List Nat} (h : Cells H0 H as ll) (e : Ex H H') : Cells H0 H' as ll := ⟨h.nd, h.old, fun i a ha => e _ _ (h.at' i a ha)⟩
theorem Cells.congr {H0 H : Hp} {as : List Addr} {ll lm : Nat → List Nat} (h : Cells H0 H as ll) (e : ∀ i, i < as.length → lm i = ll i) : Cells H0 H as lm := ⟨h.nd, h.old, fun i a ha => by
  rw [e i (List.getElem?_eq_some_iff.mp ha).1]
  exact h.at' i a ha⟩
theorem Cells.put {H0 H : Hp} {as : List Addr} {ll lm : Nat → List Nat} {i : Nat} {a : Addr} {l : List Nat} (h : Cells H0 H as ll) (ha : as[i]? = some a) (h1 : lm i = l) (h2 : ∀ k, k ≠ i → lm k = ll k) : Cells H0 (upd H a (.lst (natsV l))) as lm := ⟨h.nd, h.old, fun k c hc => by
  by_cases z : k = i
  · subst z
    rw [ha] at hc
    cases hc
    rw [h1]
    exact upd_same
  · have ne : c ≠ a := fun e => by
      subst e
      obtain ⟨g1, g2⟩ := List.getElem?_eq_some_iff.mp hc
      exact z ((List.getElem?_inj g1 h.nd).mp (hc.trans ha.symm))
    rw [upd_ne ne, h2 k z]
    exact h.at' k c hc⟩
theorem Cells.app {H0 H : Hp} {as : List Addr} {p : Addr} (h : Cells H0 H as fun _ => []) (h0 : H0 p = none) (hp : H p = none) : Cells H0 (upd H p (.lst [])) (as ++ [p]) fun _ => [] := by
  have np : p ∉ as := fun z => by
    obtain ⟨i, hi⟩ := List.mem_iff_getElem?.mp z
    have := h.at' i p hi
    rw [hp] at this
    cases this
  refine ⟨?_, fun a ha => ?_, fun i a ha => ?_⟩
  · rw [List.nodup_append]
    exact ⟨h.nd, List.pairwise_singleton _ p, fun a ha b hb e => np (by rw [List.mem_singleton.mp hb] at e; rw [← e]; exact ha)⟩
  · rcases List.mem_append.mp ha with ha | ha
    · exact h.old a ha
    · rw [List.mem_singleton.mp ha]
      exact h0
  · by_cases hi : i < as.length
    · rw [List.getElem?_append_left hi] at ha
      have ne : a ≠ p := fun e => np (by rw [← e]; exact List.mem_of_getElem? ha)
      rw [upd_ne ne]
      exact h.at' i a ha
    · rw [List.getElem?_append_right (by omega)] at ha
      match e : i - as.length, ha with
      | 0, ha =>
        cases ha
        exact upd_same
      | k + 1, ha => cases ha
section
variable {K : PySem.W.Frag} {σ : L2.St} {H : Hp} {D : Ends} {tz tu : TS}
end
end HH
set_option maxHeartbeats 4000000
namespace HH
open PySem PySem.Spec PyProof.Rows L2 Evl RZ
structure WantsD (rs : HH.Row) (who m : Nat) (kvs : List (Key × V)) : Prop where
  val : ∀ j : Nat, who ≤ j + m → j < who → valV kvs (.inl (j : Int)) = some (.int (barN rs j (who - j - 1) + 1))
  key : ∀ kv ∈ kvs, ∃ j : Nat, kv.1 = .inl (j : Int) ∧ j < who ∧ who ≤ j + m
  len : kvs.length ≤ m
theorem WantsD.nil (rs : HH.Row) (who : Nat) : WantsD rs who 0 [] := ⟨fun j h1 h2 => by omega, (fun kv h => nomatch h), Nat.le_refl _⟩
theorem WantsD.put {rs : HH.Row} {who m : Nat} {kvs : List (Key × V)} (w : WantsD rs who m kvs) (hm : m < who) : WantsD rs who (m + 1) (putK kvs (.inl ((who - 1 - m : Nat) : Int)) (.int (barN rs (who - 1 - m) m + 1))) := by
  have no : valV kvs (.inl ((who - 1 - m : Nat) : Int)) = none := by
    cases c : valV kvs (.inl ((who - 1 - m : Nat) : Int)) with
    | none => rfl
    | some x =>
      exfalso
      have z := valV_any (Sum.inl ((who - 1 - m : Nat) : Int)) kvs
      rw [c] at z
      obtain ⟨kv, hkv, e⟩ := List.any_eq_true.mp z
      obtain ⟨j, e2, h1, h2⟩ := w.key kv hkv
      have e3 : kv.1 = .inl ((who - 1 - m : Nat) : Int) := of_decide_eq_true e
      rw [e2] at e3
      injection e3 with e3
      omega
  refine ⟨fun j h1 h2 => ?_, fun kv hkv => ?_, ?_⟩
  · rw [valV_put]
    by_cases c : j = who - 1 - m
    · rw [if_pos (by rw [c]), c, show who - (who - 1 - m) - 1 = m by omega]
    · rw [if_neg (fun z => c (by injection z with z; omega))]
      exact w.val j (by omega) h2
  · rw [putK_new _ no] at hkv
    rcases List.mem_append.mp hkv with h | h
    · obtain ⟨j, a, b, c⟩ := w.key kv h
      exact ⟨j, a, b, by omega⟩
    · rw [List.mem_singleton.mp h]
      exact ⟨who - 1 - m, rfl, by omega, by omega⟩
  · rw [putK_new _ no, List.length_append]
    have := w.len
    show kvs.length + 1 ≤ _
    omega
end HH
set_option maxHeartbeats 4000000
namespace HH
open PySem PySem.Spec PyProof.Rows L2 Evl RZ
section
variable {K : PySem.W.Frag} {σ : L2.St} {H H' : Hp} {ta tb te : TE} {v : V} {Q : VK}
theorem el_sortedI {ns ms : List Int} (h : EvL ta σ H (ns.map V.int)) (pm : ns.Perm ms) (pw : ms.Pairwise (· ≤ ·)) : EvL (tCB (rSortedI K) (tCons ta tNil)) σ H (ms.map V.int) := fun H1 e1 Q q =>
  h H1 e1 _ fun a H2 ha e2 g2 => ⟨a, ns, rfl, sq_of g2, fun ns' p pm' srt hp => by
    rw [sorted_same (pm'.trans pm) srt pw]
    exact q p _ (fresh_back e2 hp) (e2.trans (Ex.new hp)) upd_same⟩
end
end HH
set_option maxHeartbeats 4000000
namespace HH
open PySem PySem.Spec PyProof.Rows L2 Evl RZ
section
variable {K : PySem.W.Frag} {σ : L2.St} {H : Hp} {te ta tb : TE} {t : TT}
theorem ept_sel {i j : Nat} {vs : List Nat} {ps : HH.Row} (f : Int × Int → Bool) (m : Int × Int → Int × Int) (h : Src K (BeastAt K) te σ H ps) (hl : ps.length ≤ 2000) (hw : ∀ x y, wipe (((wipe σ vs).set i (some x)).set j (some y)) vs = wipe σ vs)
    (ht : ∀ (b : Int × Int) H1, Ex H H1 → b ∈ ps → EvT t (((wipe σ vs).set i (some (.int b.1))).set j (some (.int b.2))) H1 (f b))
    (h1 : ∀ (b : Int × Int) H1, Ex H H1 → b ∈ ps → f b = true → Ev ta (((wipe σ vs).set i (some (.int b.1))).set j (some (.int b.2))) H1 (.int (m b).1)) (h2 : ∀ (b : Int × Int) H1, Ex H H1 → b ∈ ps → f b = true → Ev tb (((wipe σ vs).set i (some (.int b.1))).set j (some (.int b.2))) H1 (.int (m b).2)) :
    EvPr PairT (tLc (iList K te) (gTup K 2 (gCons (gName i) (gCons (gName j) gNil))) t (tTup (tCons ta (tCons tb tNil))) vs) σ H ((ps.filter f).map m) := fun H0 e0 Q q => by
  refine h H0 e0 _ fun a us H1 e1 sq bs => ⟨a, rfl, ⟨us, sq H1 (Ex.refl H1)⟩, fun D hD => ?_⟩
  have ul : us.length = ps.length := bs.len
  have e01 := e0.trans e1
  refine in_it (walk_list (xs := us)) (fun k H2 => Ex H1 H2 ∧ ∃ ws, H2 D = some (.lst ws) ∧ All2 (PairT H2) ws (((ps.take k).filter f).map m)) ⟨Ex.new hD, [], upd_same, .nil⟩ (fun k H2 _ z => sq H2 z.1) (fun k x H2 H3 hk z y => ?_) (fun H2 z => ?_)
  · obtain ⟨rfl, hx⟩ := y
    obtain ⟨z1, ws, z2, z3⟩ := z
    obtain ⟨b, hb, pp, rfl, hpp⟩ := bs.get hx
    have hm := List.mem_of_getElem? hb
    have et : ((ps.take (k + 1)).filter f).map m = ((ps.take k).filter f).map m ++ (if f b = true then [m b] else []) := by
      rw [List.take_add_one, hb, List.filter_append, List.map_append]
      congr 1
      by_cases c : f b = true
      · rw [if_pos c]
        show (List.filter f [b]).map m = _
        rw [List.filter_cons_of_pos c]
        rfl
      · rw [if_neg c]
        show (List.filter f [b]).map m = _
        rw [List.filter_cons_of_neg c]
        rfl
    refine ⟨pp, _, rfl, ex_t z1 hpp, rfl, _, _, rfl, _, _, rfl, rfl, hw _ _, ?_⟩
    refine t_ev (b := f b) (ht b _ (e01.trans z1) hm) fun H4 e4 => ?_
    cases hc : f b with
    | true =>
      rw [hc, if_pos rfl] at et
      refine (h1 b _ ((e01.trans z1).trans e4) hm hc) _ (Ex.refl _) _ fun H5 e5 => ?_
      refine (h2 b H5 (((e01.trans z1).trans e4).trans e5) hm hc) H5 (Ex.refl _) _ fun H6 e6 => ⟨by show 2 ≤ sizeLine; decide, fun T hT => ?_⟩
      have nT := Ex.new (o := .tup [V.int (m b).1, .int (m b).2]) hT
      have e46 := (e4.trans e5).trans e6
      have ln : ws.length ≤ k := by
        rw [All2.len z3, List.length_map]
        have := List.length_filter_le f (ps.take k)
        rw [List.length_take] at this
        omega
      refine ⟨ws, nT _ _ (e46 _ _ z2), sz_lt (by omega), Ex.mut ((z1.trans e46).trans nT) hD, ws ++ [.ref T], upd_same, ?_⟩
      rw [et]
      exact stb_T.allL (nT _ _ (e46 _ _ z2)) (All2.app (stb_T.all (e46.trans nT) z3) (.cons ⟨T, rfl, upd_same⟩ .nil))
    | false =>
      rw [hc, if_neg (by decide), List.append_nil] at et
      refine ⟨z1.trans e4, ws, e4 _ _ z2, ?_⟩
      rw [et]
      exact stb_T.all e4 z3
  · obtain ⟨z1, ws, z2, z3⟩ := z
    rw [ul, List.take_length] at z3
    exact q D ws H2 (fresh_back e1 hD) (e1.trans z1) z2 z3
end
def rDictP (K : PySem.W.Frag) : List V → Hp → VK → Prop := fun xs H Q => ∃ (a : Addr) (ps : List Addr) (kvs : List (Key × V)), xs = [.ref a] ∧ SqL K H a (ps.map V.ref) ∧ Paired (fun p kv => SqT K H p [kV kv.1, kv.2]) ps kvs ∧ ∀ p, H p = none → Q (.ref p) (upd H p (.dK (mergeK [] kvs)))
theorem call_dictPK {X : Cx} {K : PySem.W.Frag} (hc : X.calm = true) (hK : X.K = K := by rfl) : CallR X (.type "dict") (rDictP K) := by
  subst hK
  exact call_dictP hc
theorem paired_app {α β : Type} {R : α → β → Prop} {as : List α} {bs : List β} {a : α} {b : β} (h : Paired R as bs) (r : R a b) : Paired R (as ++ [a]) (bs ++ [b]) := by
  induction h with
  | nil => exact .cons r .nil
  | cons x _ ih => exact .cons x ih
theorem paired_imp {α β : Type} {R S : α → β → Prop} (i : ∀ a b, R a b → S a b) {as : List α} {bs : List β} (h : Paired R as bs) : Paired S as bs := by
  induction h with
  | nil => exact .nil
  | cons x _ ih => exact .cons (i _ _ x) ih
theorem dict_enum {K : PySem.W.Frag} {σ : L2.St} {H : Hp} {te : TE} {o : Addr} {l : List Nat} {i j : Nat} {vs : List Nat} (ho : Ev te σ H (.ref o)) (hs : SqT K H o (natsV l)) (nd : l.Nodup) (hl : l.length ≤ 1000) (hw : ∀ x y, wipe (((wipe σ vs).set i (some x)).set j (some y)) vs = wipe σ vs) (hi : ∀ x y : V, (((wipe σ vs).set i (some x)).set j (some y))[i]? = some (some x)) (hj : ∀ x y : V, (((wipe σ vs).set i (some x)).set j (some y))[j]? = some (some y)) {Q : VK}
    (q : ∀ (d : Addr) (kvs : List (Key × V)) (H2 : Hp), H d = none → Ex H H2 → H2 d = some (.dK kvs) → PlacesD l l.length kvs → Q (.ref d) H2) :
    tCB (rDictP K) (tCons (tLc (iEnumT K (tCons te tNil)) (gTup K 2 (gCons (gName i) (gCons (gName j) gNil))) tYes (tTup (tCons (tVar j) (tCons (tVar i) tNil))) vs) tNil) σ H Q := by
  refine ho H (Ex.refl H) _ fun H1 e1 => ⟨o, _, rfl, ex_t e1 hs, fun D hD => ?_⟩
  refine in_it (walk_enumT (xs := natsV l)) (fun k H2 => Ex H1 H2 ∧ ∃ as : List Addr, H2 D = some (.lst (as.map V.ref)) ∧ as.length = k ∧ Paired (fun p kv => SqT K H2 p [kV kv.1, kv.2]) as ((List.range k).map fun x => ((.inl (ixN l x : Int), .int (x : Int)) : Key × V))) ⟨Ex.new hD, [], upd_same, rfl, .nil⟩ (fun k H2 _ z => ex_t (e1.trans z.1) hs) (fun k x H2 H3 hk z y => ?_) (fun H2 z => ?_)
  · obtain ⟨z1, as, z2, z3, z4⟩ := z
    have hk' : k < l.length := by
      rw [natsV_len] at hk
      exact hk
    obtain ⟨T0, x1, x2, ex, hT0, eH, hx1, hx2⟩ := y
    subst ex eH
    have hx1 : V.int (k : Int) = x1 := Option.some.inj hx1
    have hx2' : x2 = .int (ixN l k : Int) := by
      have hx2 : (natsV l)[k]? = some x2 := hx2
      unfold natsV at hx2
      rw [List.getElem?_map, ixN_at hk'] at hx2
      exact (Option.some.inj hx2).symm
    subst hx2' hx1
    have nT0 := Ex.new (o := .tup [V.int (k : Int), .int (ixN l k : Int)]) hT0
    refine ⟨T0, _, rfl, st_of upd_same, rfl, _, _, rfl, _, _, rfl, rfl, hw _ _, t_yes ?_⟩
    refine ⟨_, hj _ _, _, hi _ _, by show 2 ≤ sizeLine; decide, fun T hT => ?_⟩
    have nT := Ex.new (o := .tup [V.int (ixN l k : Int), .int (k : Int)]) hT
    have e2 := nT0.trans nT
    have gD := e2 _ _ z2
    refine ⟨_, gD, sz_lt (by rw [List.length_map]; omega), Ex.mut (z1.trans e2) hD, as ++ [T], by rw [upd_same, List.map_append]; rfl, by rw [List.length_append, z3]; rfl, ?_⟩
    rw [List.range_succ, List.map_append]
    have tupD : ∀ {p : Addr} {xs : List V}, SqT K H2 p xs → SqT K (upd (upd (upd H2 T0 (.tup [V.int (k : Int), .int (ixN l k : Int)])) T (.tup [V.int (ixN l k : Int), .int (k : Int)])) D (.lst (as.map V.ref ++ [V.ref T]))) p xs := fun h => (ExB.refl D _).upd.t gD (ex_t e2 h)
    refine paired_app (paired_imp (fun p kv h => tupD h) z4) ?_
    refine (ExB.refl D _).upd.t gD (st_of upd_same)
  · obtain ⟨z1, as, z2, z3, z4⟩ := z
    rw [natsV_len] at z3 z4
    refine ⟨D, as, _, rfl, sq_of z2, z4, fun d hd => ?_⟩
    have nd' := Ex.new (o := .dK (mergeK [] ((List.range l.length).map fun x => ((.inl (ixN l x : Int), .int (x : Int)) : Key × V)))) hd
    exact q d _ _ (fresh_back (e1.trans z1) hd) ((e1.trans z1).trans nd') upd_same (merge_places nd l.length (Nat.le_refl _))
end HH
namespace HH
open PySem PySem.Spec PyProof.Rows L2 Evl RZ
section
variable {K : PySem.W.Frag} {σ : L2.St} {H : Hp} {te : TE}
theorem eu_tupL {xs : List V} (h : EvL te σ H xs) : EvU (tThen te (kTup K)) σ H xs := fun H1 e Q q => h H1 e _ fun l H2 hl e2 g2 => .inl ⟨l, xs, rfl, sq_of g2, fun p hp => q p _ (fresh_back e2 hp) (e2.trans (Ex.new hp)) upd_same⟩
theorem eu_tupV {l : Addr} {xs : List V} (h : Ev te σ H (.ref l)) (hl : SqL K H l xs) : EvU (tThen te (kTup K)) σ H xs := fun H1 e Q q => h H1 e _ fun H2 e2 => .inl ⟨l, xs, rfl, ex_l (e.trans e2) hl, fun p hp => q p _ (fresh_back e2 hp) (e2.trans (Ex.new hp)) upd_same⟩
theorem el_revL {xs : List V} (h : EvL te σ H xs) : EvL (tRevL K te) σ H xs.reverse := fun H1 e Q q => h H1 e _ fun l H2 hl e2 g2 => ⟨l, xs, rfl, sq_of g2, fun p hp => q p _ (fresh_back e2 hp) (e2.trans (Ex.new hp)) upd_same⟩
end
theorem cut_midN {A B : List Nat} {a b : Nat} : cutV (natsV (A ++ a :: b :: B)) (some (A.length : Int)) (some ((A.length : Int) + 2)) = natsV [a, b] := by
  unfold cutV
  rw [show (A.length : Int) + 2 = ((A.length + 2 : Nat) : Int) by omega, HT.sIx_nat, HT.sIx_nat]
  have ln : (natsV (A ++ a :: b :: B)).length = A.length + (B.length + 2) := by rw [natsV_len, List.length_append]; rfl
  rw [Nat.min_eq_left (by omega), Nat.min_eq_left (by omega), show A.length + 2 - A.length = 2 by omega]
  unfold natsV
  rw [List.map_append, List.drop_append_of_le_length (by rw [List.length_map]; omega), List.drop_of_length_le (by rw [List.length_map]; omega)]
  rfl
theorem split_at {l : List Nat} {k : Nat} (h : k + 1 < l.length) : ∃ A a b B, l = A ++ a :: b :: B ∧ A.length = k := by
  refine ⟨l.take k, l[k], l[k + 1], l.drop (k + 2), ?_, by rw [List.length_take]; omega⟩
  rw [← List.drop_eq_getElem_cons h, ← List.drop_eq_getElem_cons (by omega), List.take_append_drop]
theorem sort2N {a b : Nat} : ([(a : Int), (b : Int)]).Perm [((if a ≤ b then a else b : Nat) : Int), ((if a ≤ b then b else a : Nat) : Int)] ∧ List.Pairwise (· ≤ ·) [((if a ≤ b then a else b : Nat) : Int), ((if a ≤ b then b else a : Nat) : Int)] := by
  by_cases h : a ≤ b
  · rw [if_pos h, if_pos h]
    exact ⟨.refl _, List.Pairwise.cons (fun x hx => by cases List.mem_singleton.mp hx; omega) (List.Pairwise.cons (fun x hx => by cases hx) .nil)⟩
  · rw [if_neg h, if_neg h]
    exact ⟨List.Perm.swap .., List.Pairwise.cons (fun x hx => by cases List.mem_singleton.mp hx; omega) (List.Pairwise.cons (fun x hx => by cases hx) .nil)⟩
theorem s_sl2 {te to ta tc : TE} {D : Ends} {σ : L2.St} {H : Hp} {l : Addr} {xs ys : List V} {i j : Nat} {a c : Int} (h : EvL te σ H ys) (ho : Ev to σ H (.ref l)) (ha : Ev ta σ H (.int a)) (hc : Ev tc σ H (.int c)) (ea : a = (i : Int)) (ec : c = (j : Int)) (hl : H l = some (.lst xs)) (hij : i ≤ j) (hj : j ≤ xs.length) (hz : xs.length + ys.length ≤ 100000)
    (k : ∀ H1, Ex H H1 → D.nx σ (upd H1 l (.lst (xs.take i ++ ys ++ xs.drop j)))) : tAsg te (gSl to ta tc) D σ H := q_sl (tz := tNext) h ho ha hc ea ec hl hij hj hz k
theorem natsV_app (A B : List Nat) : natsV (A ++ B) = natsV A ++ natsV B := List.map_append ..
theorem take_pair {A B : List Nat} {a b : Nat} {ys : List V} : (natsV (A ++ a :: b :: B)).take A.length ++ ys ++ (natsV (A ++ a :: b :: B)).drop (A.length + 2) = natsV A ++ ys ++ natsV B := by
  have e1 : (natsV A ++ natsV (a :: b :: B)).take A.length = natsV A := by
    rw [← natsV_len A]
    exact List.take_left' rfl
  have e2 : (natsV A ++ natsV (a :: b :: B)).drop (A.length + 2) = natsV B := by
    rw [← natsV_len A, ← List.drop_drop, List.drop_left' rfl]
    rfl
  rw [natsV_app, e1, e2]
end HH
namespace HH
open PySem PySem.Spec PyProof.Rows L2 Evl RZ
end HH
namespace HH
open PySem PySem.Spec PyProof.Rows L2 Evl RZ
end HH
set_option maxHeartbeats 4000000
namespace HH
open PySem PySem.Spec PyProof.Rows L2 Evl
theorem keeps_self {rs : HH.Row} (tl : ∀ x ∈ rs, 0 ≤ x.2) : Keeps rs (List.range rs.length) := by
  have := run_keeps tl (MRun.nil (L0 := tag 0 rs))
  rw [tag_ids] at this
  exact this
theorem keeps_swap {rs : HH.Row} {E B : List Cow} (tl : ∀ x ∈ rs, 0 ≤ x.2) (sE : Steps (tag 0 rs) E) (nE : Nf E) (sB : FSteps (tag 0 rs) B) (nB : Ff B) {A C : List Nat} {a b : Nat} (k : Keeps rs (A ++ a :: b :: C)) (h : ¬ (((if a ≤ b then a else b : Nat) : Int), ((if a ≤ b then b else a : Nat) : Int)) ∈ tabP (keepP (E.map (·.1)) (B.map (·.1))) rs.length rs.length) : Keeps rs (A ++ b :: a :: C) := by
  have p : (A ++ b :: a :: C).Perm (A ++ a :: b :: C) := List.Perm.append_left A (List.Perm.swap a b C)
  refine ⟨p.trans k.ids, fun E' B' sE' nE' sB' nB' i j h1 h2 h3 h4 => ?_⟩
  have o := k.kp E' B' sE' nE' sB' nB' i j h1 h2 h3 h4
  have t0 : ∀ x ∈ tag 0 rs, 0 ≤ x.2.2 := (good_tag tl).tl
  rw [nf_any t0 sE' nE' sE nE] at h3
  rw [ff_any t0 sB' nB' sB nB] at h4
  have ne : a ≠ b := fun z => by
    have n := k.nd
    rw [z] at n
    have q := bef_adj n
    rw [bef_asym n q] at q
    cases q
  cases c : bef (A ++ b :: a :: C) j i with
  | false => rfl
  | true =>
    exfalso
    rcases Nat.lt_or_gt_of_ne ne with l | l
    · rcases (bef_swap l h1 A).mp c with z | ⟨rfl, rfl⟩
      · rw [o] at z
        cases z
      · rw [if_pos (Nat.le_of_lt l), if_pos (Nat.le_of_lt l)] at h
        exact h (mem_tabP.mpr ⟨i, j, h1, h2, rfl, (keep_iff h1).mpr ⟨h3, h4⟩⟩)
    · have := (bef_swap (B := C) l h1 A).mpr (.inl c)
      rw [o] at this
      cases this
end HH
set_option maxHeartbeats 4000000
namespace HH
open PySem PySem.Spec PyProof.Rows Srt SrtO
def IsDeed (h : Heap) (v : Value) (b : Bool) (y : Int) : Prop := ∃ a o t u n, v = .ref a ∧ h.get? a = some o ∧ o.cls = .type "tuple" ∧ o.data = .seq #[.str (wordOf b) t, .int y u] n
theorem IsDeed.keeps {h h' : Heap} {v : Value} {b : Bool} {y : Int} (p : IsDeed h v b y) (k : ∀ b o, h.get? b = some o → o.cls = .type "tuple" → h'.get? b = some o) : IsDeed h' v b y := by
  obtain ⟨a, o, t, u, n, e, ho, hc, hd⟩ := p
  exact ⟨a, o, t, u, n, e, k _ _ ho hc, hc, hd⟩
section
variable {prog : Program} {w : World} {A : Around} {E : Value → Shared → Prop} {s : Shared}
end
open L2 Evl
open Classical in
section
variable {X : Cx}
end
end HH
set_option maxHeartbeats 4000000
namespace HH
open PySem PySem.Spec PyProof.Rows L2 Evl
def Again (l1 l2 s : List Nat) : Prop := l2 = s.map (ixN l1) ∧ ∀ x ∈ s, x < l1.length
theorem keeps_again {rs : HH.Row} {L1 L2 : List Cow} {d1 d2 : List Deed} {s : List Nat} (tl : ∀ x ∈ rs, 0 ≤ x.2) (r1 : MRun (tag 0 rs) L1 d1) (r2 : MRun (tag 0 rs) L2 d2) (a : Again (L1.map (·.1)) (L2.map (·.1)) s) : Keeps (rowsOf L1) s := by
  have t0 : ∀ x ∈ tag 0 rs, 0 ≤ x.2.2 := (good_tag tl).tl
  obtain ⟨E, sE, nE⟩ := nf_is t0
  obtain ⟨B, sB, nB⟩ := ff_is t0
  obtain ⟨t1, s1E, s1B⟩ := r1.both t0 sE nE sB nB
  obtain ⟨t2, s2E, s2B⟩ := r2.both t0 sE nE sB nB
  have id1 := run_ids tl r1
  have id2 := run_ids tl r2
  have nd1 : (L1.map (·.1)).Nodup := id1.nodup_iff.mpr List.nodup_range
  have nd2 : (L2.map (·.1)).Nodup := id2.nodup_iff.mpr List.nodup_range
  have len1 : (L1.map (·.1)).length = rs.length := by rw [id1.length_eq, List.length_range]
  have lenR : (rowsOf L1).length = rs.length := by rw [cow_len, ← len1, List.length_map]
  have nds : s.Nodup := by
    have := nd2
    rw [a.1] at this
    exact List.Pairwise.of_map _ (fun x y h e => h (by rw [e])) this
  have ids : s.Perm (List.range (rowsOf L1).length) := by
    refine (List.perm_ext_iff_of_nodup nds List.nodup_range).mpr fun x => ?_
    rw [List.mem_range, lenR]
    constructor
    · intro h
      have := a.2 x h
      omega
    · intro h
      have g := ixN_at (l := L1.map (·.1)) (p := x) (by omega)
      have m1 : ixN (L1.map (·.1)) x ∈ L2.map (·.1) := id2.mem_iff.mpr (id1.mem_iff.mp (List.mem_of_getElem? g))
      rw [a.1] at m1
      obtain ⟨y, hy, e⟩ := List.mem_map.mp m1
      have := ixN_inj nd1 (a.2 y hy) (by omega) e
      rw [← this]
      exact hy
  refine ⟨ids, fun E' B' sE' nE' sB' nB' i j h1 h2 h3 h4 => ?_⟩
  obtain ⟨Y, sY, eY⟩ := s1E.unmap (rl_tag L1).symm
  obtain ⟨Z, sZ, eZ⟩ := s1B.unmap (rl_tag L1).symm
  have tR : ∀ x ∈ tag 0 (rowsOf L1), 0 ≤ x.2.2 := (good_tag (tolls_rows t1)).tl
  have nY : Nf Y := by
    rw [eY] at nE
    exact nf_un nE
  have nZ : Ff Z := by
    rw [eZ] at nB
    exact ff_un nB
  rw [nf_any tR sE' nE' sY nY] at h3
  rw [ff_any tR sB' nB' sZ nZ] at h4
  have idY := sY.ids
  have idZ := sZ.ids
  rw [tag_ids] at idY idZ
  have inj : ∀ (l : List Nat), (∀ x ∈ l, x < rs.length) → ∀ k, k < rs.length → ∀ x ∈ l, ixN (L1.map (·.1)) x = ixN (L1.map (·.1)) k → x = k := fun l hl k hk x hx e => ixN_inj nd1 (by have := hl x hx; omega) (by omega) e
  have inY : ∀ x ∈ Y.map (·.1), x < rs.length := fun x hx => by
    have := List.mem_range.mp (idY.mem_iff.mp hx)
    omega
  have inZ : ∀ x ∈ Z.map (·.1), x < rs.length := fun x hx => by
    have := List.mem_range.mp (idZ.mem_iff.mp hx)
    omega
  have inS : ∀ x ∈ s, x < rs.length := fun x hx => by
    have := a.2 x hx
    omega
  have hj : j < rs.length := by omega
  have hi : i < rs.length := by omega
  have bE : bef (E.map (·.1)) (ixN (L1.map (·.1)) i) (ixN (L1.map (·.1)) j) = true := by
    rw [eY, rl_ids, bef_map (inj _ inY i hi) (inj _ inY j hj)]
    exact bef_tot (idY.mem_iff.mpr (List.mem_range.mpr h2)) (idY.mem_iff.mpr (List.mem_range.mpr (by omega))) (by omega) h3
  have bB : bef (B.map (·.1)) (ixN (L1.map (·.1)) i) (ixN (L1.map (·.1)) j) = true := by
    rw [eZ, rl_ids, bef_map (inj _ inZ i hi) (inj _ inZ j hj)]
    exact bef_tot (idZ.mem_iff.mpr (List.mem_range.mpr h2)) (idZ.mem_iff.mpr (List.mem_range.mpr (by omega))) (by omega) h4
  have ndB : (B.map (·.1)).Nodup := by
    have := sB.ids
    rw [tag_ids] at this
    exact this.nodup_iff.mpr List.nodup_range
  have mid := mid_keeps (sB.tl t0) ndB s2B.back s2E bB bE
  rw [a.1, bef_map (inj _ inS i hi) (inj _ inS j hj)] at mid
  exact bef_asym nds mid
def adjL (l : List Nat) (n : Nat) : List Nat := (List.range n).filter fun p => bef l (p + 1) p
def fallB (rs : HH.Row) (p : Nat) : Bool := decide (p + 1 < rs.length) && fallsN rs p
def nearD (rs : HH.Row) (l : List Nat) : List Deed := ((adjL l (rs.length - 1)).filter (fallB rs)).map (fun p => (false, p)) ++ ((adjL l (rs.length - 1)).filter fun p => letsN rs (p + 1)).map (fun p => (true, p + 1))
def dueD (rs : HH.Row) (l : List Nat) (n : Nat) : List Deed := (adjL l n).map fun p => if letsN rs (p + 1) then (true, p + 1) else (false, p)
theorem one_move {rs : HH.Row} {M : List Cow} {ds : List Deed} {p : Nat} (tl : ∀ x ∈ rs, 0 ≤ x.2) (r : MRun (tag 0 rs) M ds) (hp : p + 1 < rs.length) (h : bef (M.map (·.1)) (p + 1) p = true) : fallB rs p = !letsN rs (p + 1) := by
  have g1 : (tag 0 rs)[p]? = some (p, (sS rs p, tS rs p)) := by
    rw [tag_at, row_get (by omega)]
    show some (0 + p, _) = _
    rw [Nat.zero_add]
  have g2 : (tag 0 rs)[p + 1]? = some (p + 1, (sS rs (p + 1), tS rs (p + 1))) := by
    rw [tag_at, row_get hp]
    show some (0 + (p + 1), _) = _
    rw [Nat.zero_add]
  have sp : tag 0 rs = (tag 0 rs).take p ++ (p, (sS rs p, tS rs p)) :: (p + 1, (sS rs (p + 1), tS rs (p + 1))) :: (tag 0 rs).drop (p + 2) := by
    obtain ⟨h1, e1⟩ := List.getElem?_eq_some_iff.mp g1
    obtain ⟨h2, e2⟩ := List.getElem?_eq_some_iff.mp g2
    have := List.drop_eq_getElem_cons h1
    rw [List.drop_eq_getElem_cons h2, e1, e2] at this
    exact (List.take_append_drop p (tag 0 rs)).symm.trans (by rw [this])
  have rN : MRun (tag 0 rs) ((tag 0 rs).take p ++ (p, (sS rs p, tS rs p)) :: (p + 1, (sS rs (p + 1), tS rs (p + 1))) :: (tag 0 rs).drop (p + 2)) [] := by
    rw [← sp]
    exact .nil
  have mv := move_of tl rN r h
  dsimp only at mv
  have t := tl _ (List.mem_of_getElem? (row_get (rs := rs) (show p < rs.length by omega)))
  dsimp only at t
  unfold fallB letsN fallsN
  rw [decide_eq_true hp, decide_eq_true (Nat.succ_pos p), Bool.true_and, Bool.true_and, Nat.add_sub_cancel]
  rcases mv with mv | mv
  · rw [decide_eq_true mv, decide_eq_false (by omega)]
    rfl
  · rw [decide_eq_true mv, decide_eq_false (by omega)]
    rfl
theorem part_perm {f g : Nat → Bool} {a b : Nat → Deed} : ∀ {l : List Nat}, (∀ p ∈ l, f p = !g p) → ((l.filter f).map a ++ (l.filter g).map b).Perm (l.map fun p => if g p then b p else a p)
  | [], _ => .nil
  | x :: l, h => by
    have ih := part_perm (a := a) (b := b) (l := l) fun p hp => h p (List.mem_cons_of_mem _ hp)
    have hx := h x (List.mem_cons_self ..)
    cases c : g x with
    | true =>
      rw [c] at hx
      rw [List.filter_cons_of_neg (by rw [hx]; decide), List.filter_cons_of_pos c, List.map_cons, List.map_cons, c]
      exact List.perm_middle.trans (.cons _ ih)
    | false =>
      rw [c] at hx
      rw [List.filter_cons_of_pos (by rw [hx]; rfl), List.filter_cons_of_neg (by rw [c]; decide), List.map_cons, List.map_cons, c]
      exact .cons _ ih
theorem mem_adj {l : List Nat} {n p : Nat} : p ∈ adjL l n ↔ p < n ∧ bef l (p + 1) p = true := by
  unfold adjL
  rw [List.mem_filter, List.mem_range]
theorem near_perm {rs : HH.Row} {M : List Cow} {ds : List Deed} (tl : ∀ x ∈ rs, 0 ≤ x.2) (r : MRun (tag 0 rs) M ds) : (nearD rs (M.map (·.1))).Perm (dueD rs (M.map (·.1)) (rs.length - 1)) := part_perm fun p hp => by
  obtain ⟨h1, h2⟩ := mem_adj.mp hp
  exact one_move tl r (by omega) h2
theorem bef_chain {l : List Nat} {n : Nat} (nd : l.Nodup) (all : ∀ x, x < n → x ∈ l) (h : ∀ p, p + 1 < n → bef l (p + 1) p = false) : ∀ d i : Nat, i + d + 1 < n → bef l i (i + d + 1) = true
  | 0, i, hi => bef_tot (all _ (by omega)) (all _ (by omega)) (by omega) (h i hi)
  | d + 1, i, hi => by
    have a := bef_chain nd all h d i (by omega)
    have b := bef_tot (all (i + d + 1 + 1) (by omega)) (all (i + d + 1) (by omega)) (by omega) (h (i + d + 1) (by omega))
    obtain ⟨p, hp⟩ := List.getElem?_of_mem (all i (by omega))
    obtain ⟨q, hq⟩ := List.getElem?_of_mem (all (i + d + 1) (by omega))
    obtain ⟨t, ht⟩ := List.getElem?_of_mem (all (i + d + 1 + 1) (by omega))
    rw [bef_iff nd hp hq] at a
    rw [bef_iff nd hq ht] at b
    show bef l i (i + d + 1 + 1) = true
    rw [bef_iff nd hp ht]
    have := of_decide_eq_true a
    have := of_decide_eq_true b
    exact decide_eq_true (by omega)
theorem far_none {l : List Nat} {n : Nat} (nd : l.Nodup) (all : ∀ x, x < n → x ∈ l) : tab l n n = [] ↔ adjL l (n - 1) = [] := by
  constructor
  · intro h
    refine List.eq_nil_iff_forall_not_mem.mpr fun p hp => ?_
    obtain ⟨h1, h2⟩ := mem_adj.mp hp
    have : ((p : Int), ((p + 1 : Nat) : Int)) ∈ tab l n n := mem_tab.mpr ⟨p, p + 1, by omega, by omega, rfl, h2⟩
    rw [h] at this
    cases this
  · intro h
    refine List.eq_nil_iff_forall_not_mem.mpr fun x hx => ?_
    obtain ⟨i, j, h1, h2, _, h3⟩ := mem_tab.mp hx
    have := bef_chain nd all (fun p hp => by
      cases c : bef l (p + 1) p with
      | false => rfl
      | true =>
        have : p ∈ adjL l (n - 1) := mem_adj.mpr ⟨by omega, c⟩
        rw [h] at this
        cases this) (j - i - 1) i (by omega)
    rw [show i + (j - i - 1) + 1 = j by omega] at this
    rw [bef_asym nd this] at h3
    cases h3
theorem near_none {rs : HH.Row} {M : List Cow} {ds : List Deed} (tl : ∀ x ∈ rs, 0 ≤ x.2) (r : MRun (tag 0 rs) M ds) : nearD rs (M.map (·.1)) = [] ↔ tab (M.map (·.1)) rs.length rs.length = [] := by
  have ids := run_ids tl r
  rw [far_none (ids.nodup_iff.mpr List.nodup_range) fun x hx => ids.mem_iff.mpr (List.mem_range.mpr hx)]
  have p := near_perm tl r
  constructor
  · intro h
    rw [h] at p
    have := p.symm.eq_nil
    exact List.map_eq_nil_iff.mp this
  · intro h
    unfold nearD
    rw [h]
    rfl
end HH
set_option maxHeartbeats 4000000
namespace HH
open PySem PySem.Spec PyProof.Rows L2 Evl
def FrzT (H : Hp) (a : Addr) (xs : List V) : Prop := ∃ o, PlainT o ∧ H a = some (.frz o (.tup xs))
theorem FrzT.ex {H H' : Hp} {a : Addr} {xs : List V} (h : FrzT H a xs) (e : Ex H H') : FrzT H' a xs := by
  obtain ⟨o, h1, h2⟩ := h
  exact ⟨o, h1, e _ _ h2⟩
theorem FrzT.exB {H H' : Hp} {p a : Addr} {xs : List V} {n : Nat} (h : FrzT H a xs) (e : ExB p H H') (hb : Bx H p n) : FrzT H' a xs := by
  obtain ⟨o, h1, h2⟩ := h
  obtain ⟨l, hl⟩ := hb.lst
  refine ⟨o, h1, e _ _ (fun z => ?_) h2⟩
  rw [z, hl] at h2
  cases h2
theorem FrzT.sq {K : PySem.W.Frag} {H : Hp} {a : Addr} {xs : List V} (h : FrzT H a xs) : SqT K H a xs := by
  obtain ⟨o, _, h2⟩ := h
  exact .inl (.inr ⟨o, h2⟩)
section
variable {K : PySem.W.Frag} {σ : L2.St} {H : Hp} {te t1 t2 : TE} {tt : TT} {o : Addr} {l : List Nat} {j : Nat} {vs : List Nat}
end
section
variable {K : PySem.W.Frag} {σ : L2.St} {H : Hp} {te t1 : TE} {o : Addr} {l : List Nat} {j : Nat} {vs : List Nat}
theorem el_mapT (g : Nat → V) (ho : Ev te σ H (.ref o)) (hs : SqT K H o (natsV l)) (hl : l.length ≤ 1000) (hw : ∀ x, wipe ((wipe σ vs).set j (some x)) vs = wipe σ vs)
    (h1 : ∀ x ∈ l, ∀ H1, Ex H H1 → Ev t1 ((wipe σ vs).set j (some (.int (x : Int)))) H1 (g x)) : EvL (tLc (iTup K te) (gName j) tYes t1 vs) σ H (l.map g) := fun H0 e Q q =>
  ho H0 e _ fun H1 e1 => ⟨o, rfl, ⟨_, ex_t (e.trans e1) hs⟩, fun Dl hD => by
    refine lc_it (walk_tup (xs := natsV l)) (fun k H2 => Ex H1 H2 ∧ H2 Dl = some (.lst ((l.take k).map g))) ⟨Ex.new hD, upd_same⟩ (fun k H2 _ p => ex_t ((e.trans e1).trans p.1) hs) (fun k x H2 H3 hk p y => ?_) (fun H2 p => ?_)
    · obtain ⟨rfl, hx⟩ := y
      obtain ⟨p1, p2⟩ := p
      have hk' : k < l.length := by
        rw [natsV_len] at hk
        exact hk
      have hx' : x = .int (l[k] : Int) := by
        unfold natsV at hx
        rw [List.getElem?_map, List.getElem?_eq_getElem hk'] at hx
        exact (Option.some.inj hx).symm
      subst hx'
      have e2 := (e.trans e1).trans p1
      refine ⟨hw _, t_yes ((h1 _ (List.getElem_mem hk') H3 e2) H3 (Ex.refl H3) _ fun H4 e4 => ⟨_, e4 _ _ p2, sz_lt (by rw [List.length_map, List.length_take]; omega), Ex.mut (p1.trans e4) hD, ?_⟩)⟩
      rw [upd_same, List.take_add_one, List.getElem?_eq_getElem hk', List.map_append]
      rfl
    · obtain ⟨p1, p2⟩ := p
      rw [natsV_len, List.take_length] at p2
      exact q Dl H2 (fresh_back e1 hD) (e1.trans p1) p2⟩
end
theorem natsV_int (l : List Nat) : natsV l = (l.map fun (x : Nat) => (x : Int)).map V.int := by
  rw [List.map_map]
  rfl
theorem ev_eqNil {K : PySem.W.Frag} {σ : L2.St} {H : Hp} {te : TE} {k : Nat} {a : Addr} {xs : List V} {ds : List PyData} (h : Ev te σ H (.ref a)) (ha : SqL K H a xs) (hd : DpAll K H xs ds) (hn : ∀ d ∈ ds, Nice k d) (hk : k < 64) : Ev (tOp (rEqD K) te (tLst tNil)) σ H (.bl xs.isEmpty) := fun H1 e Q q =>
  h H1 e _ fun H2 e2 => ⟨by show 0 ≤ sizeLine; decide, fun p hp => by
    have e3 := (e.trans e2).trans (Ex.new (o := .lst []) hp)
    refine ⟨.list ds, .list [], .lst (ex_l e3 ha) (dps_ex e3 hd), .lst (sq_of upd_same) .nil, (nice_list hn).shaped (by omega), (nice_list (k := 0) (fun d h => by cases h)).shaped (by omega), ?_⟩
    have e4 : PyData.eqv (.list ds) (.list []) = xs.isEmpty := by
      have hl := dps_len hd
      cases ds with
      | nil =>
        have : xs = [] := List.length_eq_zero_iff.mp hl
        subst this
        simp [PyData.eqv, PyData.eqvAll]
      | cons d ds =>
        cases xs with
        | nil => cases hl
        | cons x xs => simp [PyData.eqv, PyData.eqvAll]
    rw [e4]
    exact q _ (e2.trans (Ex.new hp))⟩
end HH
set_option maxHeartbeats 4000000
namespace HH
open PySem PySem.Spec PyProof.Rows L2 Evl
def iEnumA (K : PySem.W.Frag) (ta : TA) : TI := fun σ H R => ta σ H fun vs H1 => ∃ a xs, vs = [.ref a] ∧ ((SqL K H1 a xs ∧ R (Ite K a) H1) ∨ (SqT K H1 a xs ∧ R (IteT K a) H1))
theorem pi_enumA {X : Cx} {e : Expr} {ta : TA} {p pos tpos : Pos} {elts : List Expr} {kk : Nat} (hg : Gl X "enumerate") (hm : X.mg "enumerate" = none) (ha : PA X [e] ta) (hs : starEach [e] X.env = [(false, eval e X.env)] := by rfl) :
    PI X (.Tuple elts kk tpos) (.Call (.Name "enumerate" p) [e] [] pos) (iEnumA X.K ta) := by
  refine ⟨fun pins s σ H R I h => ?_⟩
  refine Call_ (ld_blt I hg hm boot_enumerate (PyProof.Rows.callWith_type1 (thn (ha.run pos pins s σ H _ I h) fun us s1 ⟨vs, H1, I1, r1, q1⟩ => ?_) hs rfl))
  obtain ⟨a, xs, ex, q1⟩ := q1
  subst ex
  cases r1 with
  | cons r rr =>
    cases rr
    cases r
    have fp : ∀ b, b ∈ [s1.heap.objs.size + 1, s1.heap.objs.size] → FpOk X pins H1 b := fun b hb => by
      have e' : b = s1.heap.objs.size + 1 ∨ b = s1.heap.objs.size := by simpa using hb
      have hle : s1.heap.objs.size ≤ b := by
        rcases e' with z | z
        · rw [z]; exact Nat.le_add_right _ _
        · rw [z]; exact Nat.le_refl _
      exact I1.fpOk hle (I1.hok.fresh hle)
    rcases q1 with ⟨hq, q⟩ | ⟨hq, q⟩
    · obtain ⟨its, rv, p', hz⟩ := I1.list hq
      refine call_enumerate_list p'.isList fun h' he hit hsz hk => wpAny_pyIter_enum he ?_
      have I2 : Inv X pins σ H1 { s1 with heap := h' } := I1.kept (t' := s1.toks) hk
      exact ⟨s1.heap.objs.size + 1, [s1.heap.objs.size + 1, s1.heap.objs.size], _, _, H1, rfl, I2, turn_enum a (s1.heap.objs.size + 1) s1.heap.objs.size, ⟨⟨.none, he⟩, hit, Nat.succ_ne_self _⟩, fp, q⟩
    · obtain ⟨its, rv, p', hz⟩ := I1.tuple hq
      refine call_enum_tuple (show s1.heap.IsTuple a its.toArray from p') fun h' he hit hsz hk => wpAny_pyIter_enum he ?_
      have I2 : Inv X pins σ H1 { s1 with heap := h' } := I1.kept (t' := s1.toks) hk
      exact ⟨s1.heap.objs.size + 1, [s1.heap.objs.size + 1, s1.heap.objs.size], _, _, H1, rfl, I2, turn_enumT a (s1.heap.objs.size + 1) s1.heap.objs.size, ⟨⟨.none, he⟩, hit, Nat.succ_ne_self _⟩, fp, q⟩
def SqA (K : PySem.W.Frag) (H : Hp) (a : Addr) (xs : List V) : Prop := SqL K H a xs ∨ SqT K H a xs
theorem SqA.ex {K : PySem.W.Frag} {H H' : Hp} {a : Addr} {xs : List V} (h : SqA K H a xs) (e : Ex H H') : SqA K H' a xs := h.imp (ex_l e) (ex_t e)
end HH
namespace L2
open PySem PySem.Spec PyProof.Rows
structure HeldX (P : Program) (w : World) (K : PySem.W.Frag) (mg : Str → Option Value) (base : Heap) (k : Nat) (f : Addr) (sp : Sp) : Prop where
  ex : ∃ (fd : FuncData) (ps : List Str), FnOk P w K mg base (L2.CX P w) k f fd ps sp ∧ PySem.W.keepIn K (.ref f) = true ∧ Binds K fd ps []
section
variable {X : Cx} {k i : Nat} {E : L2.St → XK} {x : Str} {p pos : Pos} {e : Expr} {es : List Expr} {t : TA}
end
end L2
namespace HH
open PySem PySem.Spec PyProof.Rows L2 Evl
abbrev ZD := Bool × Int
def DeedZ (K : PySem.W.Frag) (H : Hp) (v : V) (d : ZD) : Prop := ∃ p, v = .ref p ∧ SqT K H p [.str (wordOf d.1), .int d.2]
def zd (d : Deed) : ZD := (d.1, (d.2 : Int))
theorem DeedZ.ex {K : PySem.W.Frag} {H H' : Hp} {v : V} {d : ZD} (h : DeedZ K H v d) (e : Ex H H') : DeedZ K H' v d := by
  obtain ⟨p, h1, h2⟩ := h
  exact ⟨p, h1, ex_t e h2⟩
abbrev DeedsZ (K : PySem.W.Frag) (H : Hp) : List V → List ZD → Prop := All2 (DeedZ K H)
theorem DeedsZ.ex' {K : PySem.W.Frag} {H H' : Hp} {us : List V} {ds : List ZD} (h : DeedsZ K H us ds) (e : Ex H H') : DeedsZ K H' us ds := All2.mono (fun _ _ r => r.ex e) h
theorem DeedsZ.exB' {K : PySem.W.Frag} {H H' : Hp} {us : List V} {ds : List ZD} {q : Addr} {ys : List V} (e : ExB q H H') (hq : H q = some (.lst ys)) (h : DeedsZ K H us ds) : DeedsZ K H' us ds := All2.mono (fun v d g => by
  obtain ⟨p, h1, h2⟩ := g
  exact ⟨p, h1, e.t hq h2⟩) h
def canZ (rs : HH.Row) (d : ZD) : Bool := if d.1 then letsZ rs d.2 else fallsZ rs d.2
def movZ (rs : HH.Row) (d : ZD) : HH.Row := if d.1 then passR rs d.2.toNat else fallR rs d.2.toNat
def atZ (d : ZD) : Nat := if d.1 then d.2.toNat - 1 else d.2.toNat
def swapL (l : List Nat) (p : Nat) : List Nat := l.take p ++ [ixN l (p + 1), ixN l p] ++ l.drop (p + 2)
abbrev StZ := HH.Row × List Nat
def ledK : StZ → List ZD → Nat → Nat ⊕ StZ
  | s, [], _ => .inr s
  | s, d :: ds, k => if canZ s.1 d = true then ledK (movZ s.1 d, swapL s.2 (atZ d)) ds (k + 1) else .inl k
theorem swapL_len {l : List Nat} {p : Nat} (h : p + 1 < l.length) : (swapL l p).length = l.length := by
  unfold swapL
  rw [List.length_append, List.length_append, List.length_take, List.length_drop]
  show min p l.length + 2 + (l.length - (p + 2)) = l.length
  omega
theorem canZ_at {rs : HH.Row} {d : ZD} (h : canZ rs d = true) : (d.1 = true ∧ ∃ j : Nat, d.2 = (j : Int) ∧ 0 < j ∧ j < rs.length ∧ letsN rs j = true) ∨ (d.1 = false ∧ ∃ j : Nat, d.2 = (j : Int) ∧ j + 1 < rs.length ∧ fallsN rs j = true) := by
  obtain ⟨b, p⟩ := d
  cases b with
  | true => exact .inl ⟨rfl, letsZ_at h⟩
  | false => exact .inr ⟨rfl, fallsZ_at h⟩
theorem mov_len {rs : HH.Row} {d : ZD} (h : canZ rs d = true) : (movZ rs d).length = rs.length ∧ atZ d + 1 < rs.length := by
  rcases canZ_at h with ⟨h1, j, h2, h3, h4, _⟩ | ⟨h1, j, h2, h3, _⟩
  · unfold movZ atZ
    rw [h1, h2, if_pos rfl, if_pos rfl, Int.toNat_natCast, passR_len h3 h4]
    omega
  · unfold movZ atZ
    rw [h1, h2, if_neg (by decide), if_neg (by decide), Int.toNat_natCast, fallR_len h3]
    omega
theorem ledK_app : ∀ {a b : List ZD} {s : StZ} {k : Nat}, ledK s (a ++ b) k = match ledK s a k with
    | .inr s' => ledK s' b (k + a.length)
    | .inl j => .inl j
  | [], b, s, k => rfl
  | d :: a, b, s, k => by
    show (if canZ s.1 d = true then ledK (movZ s.1 d, swapL s.2 (atZ d)) (a ++ b) (k + 1) else .inl k) = match (if canZ s.1 d = true then ledK (movZ s.1 d, swapL s.2 (atZ d)) a (k + 1) else .inl k) with
      | .inr s' => ledK s' b (k + (a.length + 1))
      | .inl j => .inl j
    by_cases c : canZ s.1 d = true
    · rw [if_pos c, if_pos c, ledK_app, show k + 1 + a.length = k + (a.length + 1) by omega]
    · rw [if_neg c, if_neg c]
theorem swap_split {A B : List Nat} {a b : Nat} : swapL (A ++ a :: b :: B) A.length = A ++ b :: a :: B := by
  obtain ⟨h1, h2⟩ := ixN_split (A := A) (B := B) (a := a) (b := b)
  unfold swapL
  rw [h1, h2, List.take_left', List.append_assoc]
  · rw [show A ++ a :: b :: B = (A ++ [a, b]) ++ B by simp, List.drop_left']
    · rfl
    · rw [List.length_append]
      rfl
  · rfl
theorem run_led {rs : HH.Row} {L : List Cow} {ds : List Deed} (r : MRun (tag 0 rs) L ds) : ledK (rs, List.range rs.length) (ds.map zd) 0 = .inr (rowsOf L, L.map (·.1)) := by
  induction r with
  | nil =>
    rw [tag_ids, show rowsOf (tag 0 rs) = rs from tag_snd 0 rs]
    rfl
  | @pass pre post a b ds r hp ih =>
    rw [List.map_append, ledK_app, ih]
    have ln : (rowsOf pre).length = pre.length := cow_len _
    have sr : rowsOf (pre ++ a :: b :: post) = rowsOf pre ++ a.2 :: b.2 :: rowsOf post := rows_split ..
    have g0 : (rowsOf (pre ++ a :: b :: post))[pre.length]? = some a.2 := by rw [sr, List.getElem?_append_right (by omega), ln, Nat.sub_self]; rfl
    have g1 : (rowsOf (pre ++ a :: b :: post))[pre.length + 1]? = some b.2 := by rw [sr, List.getElem?_append_right (by omega), ln, Nat.add_sub_cancel_left]; rfl
    have lt : pre.length + 1 < (rowsOf (pre ++ a :: b :: post)).length := (List.getElem?_eq_some_iff.mp g1).1
    have c : canZ (rowsOf (pre ++ a :: b :: post)) (zd (true, pre.length + 1)) = true := by
      show letsZ _ ((pre.length + 1 : Nat) : Int) = true
      rw [letsZ_nat lt]
      unfold letsN
      rw [decide_eq_true (by omega), Bool.true_and, Nat.add_sub_cancel, sS_of g1, sS_of g0, tS_of g0]
      exact decide_eq_true hp
    show (if canZ (rowsOf (pre ++ a :: b :: post)) (zd (true, pre.length + 1)) = true then _ else _) = _
    rw [if_pos c]
    show Sum.inr (passR _ ((pre.length + 1 : Nat) : Int).toNat, swapL _ (((pre.length + 1 : Nat) : Int).toNat - 1)) = _
    rw [Int.toNat_natCast, Nat.add_sub_cancel, ids_split, show pre.length = (pre.map (·.1)).length by rw [List.length_map], swap_split]
    have e1 : passR (rowsOf (pre ++ a :: b :: post)) ((pre.map (·.1)).length + 1) = rowsOf (pre ++ (b.1, (b.2.1 - a.2.2, b.2.2)) :: a :: post) := by
      rw [List.length_map]
      unfold passR
      rw [Nat.add_sub_cancel, sS_of g1, tS_of g1, sS_of g0, tS_of g0, sr, rows_split, ← ln, List.take_left', show (rowsOf pre).length + 1 + 1 = (rowsOf pre ++ [a.2, b.2]).length by rw [List.length_append]; rfl, show rowsOf pre ++ a.2 :: b.2 :: rowsOf post = (rowsOf pre ++ [a.2, b.2]) ++ rowsOf post by simp, List.drop_left']
      · simp
      · rfl
      · rfl
    rw [e1]
    have e2 : (pre ++ (b.1, (b.2.1 - a.2.2, b.2.2)) :: a :: post).map (·.1) = pre.map (·.1) ++ b.1 :: a.1 :: post.map (·.1) := by rw [List.map_append]; rfl
    rw [e2]
  | @fall pre post a b ds r hp ih =>
    rw [List.map_append, ledK_app, ih]
    have ln : (rowsOf pre).length = pre.length := cow_len _
    have sr : rowsOf (pre ++ a :: b :: post) = rowsOf pre ++ a.2 :: b.2 :: rowsOf post := rows_split ..
    have g0 : (rowsOf (pre ++ a :: b :: post))[pre.length]? = some a.2 := by rw [sr, List.getElem?_append_right (by omega), ln, Nat.sub_self]; rfl
    have g1 : (rowsOf (pre ++ a :: b :: post))[pre.length + 1]? = some b.2 := by rw [sr, List.getElem?_append_right (by omega), ln, Nat.add_sub_cancel_left]; rfl
    have lt : pre.length + 1 < (rowsOf (pre ++ a :: b :: post)).length := (List.getElem?_eq_some_iff.mp g1).1
    have c : canZ (rowsOf (pre ++ a :: b :: post)) (zd (false, pre.length)) = true := by
      show fallsZ _ ((pre.length : Nat) : Int) = true
      rw [fallsZ_nat, decide_eq_true lt, Bool.true_and]
      unfold fallsN
      rw [sS_of g0, sS_of g1]
      exact decide_eq_true hp
    show (if canZ (rowsOf (pre ++ a :: b :: post)) (zd (false, pre.length)) = true then _ else _) = _
    rw [if_pos c]
    show Sum.inr (fallR _ ((pre.length : Nat) : Int).toNat, swapL _ ((pre.length : Nat) : Int).toNat) = _
    rw [Int.toNat_natCast, ids_split, show pre.length = (pre.map (·.1)).length by rw [List.length_map], swap_split]
    have e1 : fallR (rowsOf (pre ++ a :: b :: post)) (pre.map (·.1)).length = rowsOf (pre ++ b :: (a.1, (a.2.1 + b.2.2, a.2.2)) :: post) := by
      rw [List.length_map]
      unfold fallR
      rw [sS_of g1, tS_of g1, sS_of g0, tS_of g0, sr, rows_split, ← ln, List.take_left', show (rowsOf pre).length + 2 = (rowsOf pre ++ [a.2, b.2]).length by rw [List.length_append]; rfl, show rowsOf pre ++ a.2 :: b.2 :: rowsOf post = (rowsOf pre ++ [a.2, b.2]) ++ rowsOf post by simp, List.drop_left']
      · simp
      · rfl
      · rfl
    rw [e1]
    have e2 : (pre ++ b :: (a.1, (a.2.1 + b.2.2, a.2.2)) :: post).map (·.1) = pre.map (·.1) ++ b.1 :: a.1 :: post.map (·.1) := by rw [List.map_append]; rfl
    rw [e2]
def spSwapO (K : PySem.W.Frag) : Sp := fun vs H Q _ => ∃ (o : Addr) (l : List Nat) (p : Nat), vs = [.ref o, .int (p : Int)] ∧ SqT K H o (natsV l) ∧ p + 1 < l.length ∧ l.length ≤ 1000 ∧ ∀ (t : Addr) (H' : Hp), Ex H H' → SqT K H' t (natsV (swapL l p)) → Q (.ref t) H'
def spCanDoZ (K : PySem.W.Frag) : Sp := fun vs H Q _ => ∃ (v : V) (rs : HH.Row) (d : ZD), vs = [v, .str (wordOf d.1), .int d.2] ∧ RowAt K H v rs ∧ RetV (.bl (canZ rs d)) H Q
def spLedX (K : PySem.W.Frag) (C : Addr) : Sp := fun vs H Q X => ∃ (v : V) (rs : HH.Row) (c : Addr) (us : List V) (ds : List ZD), vs = [v, .ref c] ∧ RowAt K H v rs ∧ rs.length ≤ 1000 ∧ SqA K H c us ∧ DeedsZ K H us ds ∧ ds.length ≤ 1000 ∧
  (∀ s, ledK (rs, List.range rs.length) ds 0 = .inr s → ∀ (q : Addr) (v' : V) (t : Addr) (H' : Hp), Ex H H' → H' q = some (.tup [v', .ref t]) → RowAt K H' v' s.1 → SqT K H' t (natsV s.2) → Q (.ref q) H') ∧
  ∀ k, ledK (rs, List.range rs.length) ds 0 = .inl k → ∀ d H', Ex H H' → H' d = none → X (.ref C) (some d) (upd H' d (.xd [(("number" : Str), .int (k : Int))]))
def Picked (K : PySem.W.Frag) (H : Hp) (pick : Bool) (v : V) (s : StZ) : Prop := if pick then RowAt K H v s.1 else ∃ t, v = .ref t ∧ SqT K H t (natsV s.2)
theorem Picked.ex {K : PySem.W.Frag} {H H' : Hp} {pick : Bool} {v : V} {s : StZ} (h : Picked K H pick v s) (e : Ex H H') : Picked K H' pick v s := by
  unfold Picked at h ⊢
  cases pick with
  | true => exact RowAt.ex h e
  | false =>
    obtain ⟨t, h1, h2⟩ := h
    exact ⟨t, h1, ex_t e h2⟩
end HH
namespace HH
open PySem PySem.Spec PyProof.Rows L2 Evl
section
variable {K : PySem.W.Frag} {σ : L2.St} {H : Hp} {te ta tb tc : TE} {D : Ends}
theorem s_enumA {H0 : Hp} {a : Addr} {xs : List V} {g : TG} {tu : TS} (h : Ev te σ H (.ref a)) (e0 : Ex H0 H) (hs : SqA K H0 a xs) (Pv : Nat → L2.St → Hp → Prop) (h0 : ∀ H1, Ex H H1 → Pv 0 σ H1) (hl : ∀ i σ' H', i ≤ xs.length → Pv i σ' H' → Ex H0 H')
    (hb : ∀ i x σ' H' T, xs[i]? = some x → Pv i σ' H' → H' T = none → g (.ref T) σ' (upd H' T (.tup [.int (i : Nat), x])) fun σ2 H2 => tu { D with nx := Pv (i + 1), ct := Pv (i + 1), bk := D.nx } σ2 H2) (hd : ∀ σ' H', Pv xs.length σ' H' → D.nx σ' H') :
    tFor (iEnumA K (tCons te tNil)) g tu D σ H := h H (Ex.refl H) _ fun H1 e1 => by
  rcases hs with hs | hs
  · exact ⟨a, xs, rfl, .inl ⟨ex_l (e0.trans e1) hs, for_it walk_enum Pv (h0 H1 e1) (fun i σ' H' hi p => ex_l (hl i σ' H' hi p) hs) (fun i x σ' H' H2 hi p y => by
      obtain ⟨T, x1, x2, rfl, hT, rfl, e1, e2⟩ := y
      cases e1
      exact hb i x2 σ' H' T e2 p hT) hd⟩⟩
  · exact ⟨a, xs, rfl, .inr ⟨ex_t (e0.trans e1) hs, for_it walk_enumT Pv (h0 H1 e1) (fun i σ' H' hi p => ex_t (hl i σ' H' hi p) hs) (fun i x σ' H' H2 hi p y => by
      obtain ⟨T, x1, x2, rfl, hT, rfl, e1, e2⟩ := y
      cases e1
      exact hb i x2 σ' H' T e2 p hT) hd⟩⟩
theorem q_enumA {H0 : Hp} {a : Addr} {xs : List V} {g : TG} {tu tz : TS} (h : Ev te σ H (.ref a)) (e0 : Ex H0 H) (hs : SqA K H0 a xs) (Pv : Nat → L2.St → Hp → Prop) (h0 : ∀ H1, Ex H H1 → Pv 0 σ H1) (hl : ∀ i σ' H', i ≤ xs.length → Pv i σ' H' → Ex H0 H')
    (hb : ∀ i x σ' H' T, xs[i]? = some x → Pv i σ' H' → H' T = none → g (.ref T) σ' (upd H' T (.tup [.int (i : Nat), x])) fun σ2 H2 => tu { D with nx := Pv (i + 1), ct := Pv (i + 1), bk := tz D } σ2 H2) (hd : ∀ σ' H', Pv xs.length σ' H' → tz D σ' H') :
    tSeq (tFor (iEnumA K (tCons te tNil)) g tu) tz D σ H := s_enumA (D := { D with nx := tz D }) h e0 hs Pv h0 hl hb hd
theorem led_drop {s0 s : StZ} {ds : List ZD} {i : Nat} {d : ZD} (h : ledK s0 ds 0 = ledK s (ds.drop i) i) (hd : ds[i]? = some d) : ledK s0 ds 0 = if canZ s.1 d = true then ledK (movZ s.1 d, swapL s.2 (atZ d)) (ds.drop (i + 1)) (i + 1) else .inl i := by
  rw [h]
  have : ds.drop i = d :: ds.drop (i + 1) := by
    obtain ⟨hi, e⟩ := List.getElem?_eq_some_iff.mp hd
    rw [← e]
    exact (List.drop_eq_getElem_cons hi)
  rw [this]
  rfl
end
end HH
namespace HH
open PySem PySem.Spec PyProof.Rows L2 Evl
def tIfT (t u w : TT) : TT := fun σ H Q => t σ H fun c H1 => if c = true then u σ H1 Q else w σ H1 Q
theorem pt_ifT {X : Cx} {c a b : Expr} {pos : Pos} {tA tB' tC' : TT} (hc : PT X c tA) (ha : PT X a tB') (hb : PT X b tC') : PT X (.IfExp c a b pos) (tIfT tA tB' tC') := by
  refine ⟨fun pins s σ H Q I h => ?_⟩
  refine PyProof.Rows.isTrue_IfExp (thn (hc.run pins s σ H _ I h) fun d s1 ⟨H1, I1, q1⟩ => ?_)
  cases d with
  | true => exact ha.run pins s1 σ H1 Q I1 q1
  | false => exact hb.run pins s1 σ H1 Q I1 q1
theorem et_ifT {σ : L2.St} {H : Hp} {t u w : TT} {b r : Bool} (h : EvT t σ H b) (h1 : b = true → EvT u σ H r) (h2 : b = false → EvT w σ H r) : EvT (tIfT t u w) σ H r := fun H1 e1 Q q => h H1 e1 _ fun H2 e2 => by
  cases b with
  | true => exact h1 rfl H2 (e1.trans e2) Q fun H3 e3 => q H3 (e2.trans e3)
  | false => exact h2 rfl H2 (e1.trans e2) Q fun H3 e3 => q H3 (e2.trans e3)
end HH
namespace HH
open PySem PySem.Spec PyProof.Rows L2 Evl
section
variable {K : PySem.W.Frag} {σ : L2.St} {H : Hp} {te to ta tb tc : TE} {D : Ends}
end
end HH
set_option maxHeartbeats 4000000
namespace HH
open PySem PySem.Spec PyProof.Rows L2 Evl RZ
section
variable {K : PySem.W.Frag} {σ : L2.St} {H : Hp} {te ta tb tc td : TE} {D : Ends}
end
end HH
set_option maxHeartbeats 4000000
namespace HH
open PySem PySem.Spec PyProof.Rows L2 Evl RZ
def DueV (K : PySem.W.Frag) (H : Hp) (y : V) : Nat ⊕ StZ → Prop
  | .inr s => ∃ (q : Addr) (v' : V) (t : Addr), y = .ref q ∧ H q = some (.tup [v', .ref t]) ∧ RowAt K H v' s.1 ∧ SqT K H t (natsV s.2)
  | .inl k => y = .int (k : Int)
def ToldV (K : PySem.W.Frag) (H : Hp) (pick : Bool) (y : V) : Nat ⊕ StZ → Prop
  | .inr s => Picked K H pick y s
  | .inl k => y = .int (k : Int)
theorem ToldV.ex {K : PySem.W.Frag} {H H' : Hp} {pick : Bool} {y : V} {r : Nat ⊕ StZ} (h : ToldV K H pick y r) (e : Ex H H') : ToldV K H' pick y r := by
  cases r with
  | inl k => exact h
  | inr s => exact Picked.ex h e
theorem DueV.ex {K : PySem.W.Frag} {H H' : Hp} {y : V} {r : Nat ⊕ StZ} (h : DueV K H y r) (e : Ex H H') : DueV K H' y r := by
  cases r with
  | inl k => exact h
  | inr s =>
    obtain ⟨q, v', t, h1, h2, h3, h4⟩ := h
    exact ⟨q, v', t, h1, e _ _ h2, h3.ex e, ex_t e h4⟩
section
variable {K : PySem.W.Frag} {σ : L2.St} {H : Hp} {te ta tb tc td : TE} {D : Ends}
end
end HH
namespace HH
open PySem PySem.Spec PyProof.Rows L2 Evl RZ
section
variable {K : PySem.W.Frag} {σ : L2.St} {H : Hp} {te ta tb tc td : TE} {D : Ends}
end
end HH
namespace HH
open PySem PySem.Spec PyProof.Rows L2 Evl RZ
end HH
namespace HH
open PySem PySem.Spec PyProof.Rows L2 Evl RZ
theorem q_par2 {i j : Nat} {ta tb : TE} {tz : TS} {D : Ends} {σ : L2.St} {H : Hp} (h : ta σ H fun x H1 => tb σ H1 fun y H2 => ∃ v w, [x, y] = [v, w] ∧ tz D ((σ.set i (some v)).set j (some w)) H2) : tSeq (tPar i j (tCons ta (tCons tb tNil))) tz D σ H := h
end HH
set_option maxHeartbeats 4000000
namespace HH
open PySem PySem.Spec PyProof.Rows L2 Evl RZ
def StrFit (s : Str) : Prop := PyData.strOk s = true ∧ (reprText s).length ≤ 40
def atomOk (c : Nat) : V → PyData → Prop
  | .non, .none => True
  | .bl b, .bool b' => b = b'
  | .int i, .int i' => i = i' ∧ i.natAbs ≤ 10 ^ 30 + c
  | .str s, .str s' => s = s' ∧ StrFit s
  | _, _ => False
def DaS (R : V → PyData → Prop) (xs : List V) (ds : List PyData) : Prop := xs.length = ds.length ∧ ∀ (i : Nat) (x : V) (e : PyData), xs[i]? = some x → ds[i]? = some e → R x e
def Da (P : Addr → Prop) (K : PySem.W.Frag) (c : Nat) (H : Hp) : Nat → V → PyData → Prop
  | 0, v, d => atomOk c v d
  | k + 1, v, d => atomOk c v d ∨ ∃ (a : Addr) (xs : List V) (ds : List PyData), v = .ref a ∧ ((¬ P a ∧ H a = some (.lst xs) ∧ d = .list ds) ∨ (SqT K H a xs ∧ d = .tuple ds)) ∧ DaS (Da P K c H k) xs ds
section
variable {P : Addr → Prop} {K : PySem.W.Frag} {c : Nat} {H H' : Hp}
theorem Da.ex (e : Ex H H') : ∀ {k : Nat} {v : V} {d : PyData}, Da P K c H k v d → Da P K c H' k v d
  | 0, _, _, h => h
  | k + 1, _, _, .inl h => .inl h
  | k + 1, _, _, .inr ⟨a, xs, ds, h1, h2, h3, h4⟩ => .inr ⟨a, xs, ds, h1, h2.imp (fun ⟨q1, q2, q3⟩ => ⟨q1, e _ _ q2, q3⟩) (fun ⟨q1, q2⟩ => ⟨ex_t e q1, q2⟩), h3, fun i x y hx hy => Da.ex e (h4 i x y hx hy)⟩
theorem Da.exB {p : Addr} {ys : List V} (hP : P p) (e : ExB p H H') (hp : H p = some (.lst ys)) : ∀ {k : Nat} {v : V} {d : PyData}, Da P K c H k v d → Da P K c H' k v d
  | 0, _, _, h => h
  | k + 1, _, _, .inl h => .inl h
  | k + 1, _, _, .inr ⟨a, xs, ds, h1, h2, h3, h4⟩ => .inr ⟨a, xs, ds, h1, h2.imp (fun ⟨q1, q2, q3⟩ => ⟨q1, e _ _ (fun z => q1 (by rw [z]; exact hP)) q2, q3⟩) (fun ⟨q1, q2⟩ => ⟨e.t hp q1, q2⟩), h3, fun i x y hx hy => Da.exB hP e hp (h4 i x y hx hy)⟩
theorem Da.add {l : Addr} (hl : H l = none) : ∀ {k : Nat} {v : V} {d : PyData}, Da P K c H k v d → Da (fun a => P a ∨ a = l) K c H k v d
  | 0, _, _, h => h
  | k + 1, _, _, .inl h => .inl h
  | k + 1, _, _, .inr ⟨a, xs, ds, h1, h2, h3, h4⟩ => .inr ⟨a, xs, ds, h1, h2.imp (fun ⟨q1, q2, q3⟩ => ⟨fun z => z.elim q1 fun z => ne_of_none q2 hl z, q2, q3⟩) (fun q => q), h3, fun i x y hx hy => Da.add hl (h4 i x y hx hy)⟩
theorem Da.sub {P' : Addr → Prop} (hs : ∀ a, P' a → P a) : ∀ {k : Nat} {v : V} {d : PyData}, Da P K c H k v d → Da P' K c H k v d
  | 0, _, _, h => h
  | k + 1, _, _, .inl h => .inl h
  | k + 1, _, _, .inr ⟨a, xs, ds, h1, h2, h3, h4⟩ => .inr ⟨a, xs, ds, h1, h2.imp (fun ⟨q1, q2, q3⟩ => ⟨fun z => q1 (hs a z), q2, q3⟩) (fun q => q), h3, fun i x y hx hy => Da.sub hs (h4 i x y hx hy)⟩
theorem Da.up : ∀ {k : Nat} {v : V} {d : PyData}, Da P K c H k v d → Da P K c H (k + 1) v d
  | 0, _, _, h => .inl h
  | k + 1, _, _, .inl h => .inl h
  | k + 1, _, _, .inr ⟨a, xs, ds, h1, h2, h3, h4⟩ => .inr ⟨a, xs, ds, h1, h2, h3, fun i x y hx hy => Da.up (h4 i x y hx hy)⟩
theorem Da.ups {k : Nat} {v : V} {d : PyData} (h : Da P K c H k v d) : ∀ j, Da P K c H (k + j) v d
  | 0 => h
  | j + 1 => (Da.ups h j).up
theorem Da.to {k k' : Nat} {v : V} {d : PyData} (h : Da P K c H k v d) (e : k ≤ k') : Da P K c H k' v d := by
  have := h.ups (k' - k)
  rw [show k + (k' - k) = k' by omega] at this
  exact this
theorem atomOk.cc {c' : Nat} (e : c ≤ c') {v : V} {d : PyData} (h : atomOk c v d) : atomOk c' v d := by
  unfold atomOk at h
  split at h
  · exact True.intro
  · exact h
  · exact ⟨h.1, by have := h.2; omega⟩
  · exact h
  · exact h.elim
theorem Da.cc {c' : Nat} (e : c ≤ c') : ∀ {k : Nat} {v : V} {d : PyData}, Da P K c H k v d → Da P K c' H k v d
  | 0, _, _, h => atomOk.cc e h
  | k + 1, _, _, .inl h => .inl (atomOk.cc e h)
  | k + 1, _, _, .inr ⟨a, xs, ds, h1, h2, h3, h4⟩ => .inr ⟨a, xs, ds, h1, h2, h3, fun i x y hx hy => Da.cc e (h4 i x y hx hy)⟩
end
mutual
def wtD : PyData → Nat
  | .none => 50
  | .bool _ => 50
  | .int _ => 50
  | .str _ => 50
  | .list xs => 10 + wtDs xs
  | .tuple xs => 10 + wtDs xs
  | .dict _ => 50
def wtDs : List PyData → Nat
  | [] => 0
  | x :: xs => wtD x + 2 + wtDs xs
end
theorem wtDs_app : ∀ a b : List PyData, wtDs (a ++ b) = wtDs a + wtDs b
  | [], b => by simp [wtDs]
  | x :: a, b => by
    have := wtDs_app a b
    simp only [List.cons_append, wtDs]
    omega
theorem wtDs_get : ∀ {ds : List PyData} {i : Nat} {e : PyData}, ds[i]? = some e → wtD e + 2 ≤ wtDs ds
  | [], _, _, h => by simp at h
  | x :: xs, 0, e, h => by
    cases h
    simp only [wtDs]
    omega
  | x :: xs, i + 1, e, h => by
    have := wtDs_get (ds := xs) (i := i) h
    simp only [wtDs]
    omega
theorem wtDs_set : ∀ {ds : List PyData} {i : Nat} {e e' : PyData}, ds[i]? = some e → wtDs (ds.set i e') + wtD e = wtDs ds + wtD e'
  | [], _, _, _, h => by simp at h
  | x :: xs, 0, e, e', h => by
    cases h
    simp only [List.set, wtDs]
    omega
  | x :: xs, i + 1, e, e', h => by
    have := wtDs_set (ds := xs) (i := i) (e' := e') h
    simp only [List.set, wtDs]
    omega
theorem wtDs_erase : ∀ (ds : List PyData) (i : Nat), wtDs (ds.eraseIdx i) ≤ wtDs ds
  | [], _ => by simp
  | x :: xs, 0 => by
    simp only [List.eraseIdx, wtDs]
    omega
  | x :: xs, i + 1 => by
    have := wtDs_erase xs i
    simp only [List.eraseIdx, wtDs]
    omega
theorem wtDs_len : ∀ ds : List PyData, 2 * ds.length ≤ wtDs ds
  | [] => by simp [wtDs]
  | x :: xs => by
    have := wtDs_len xs
    simp only [wtDs, List.length_cons]
    omega
def tyD : PyData → String
  | .none => "NoneType"
  | .bool _ => "bool"
  | .int _ => "int"
  | .str _ => "str"
  | .list _ => "list"
  | .tuple _ => "tuple"
  | .dict _ => "dict"
section
variable {P : Addr → Prop} {K : PySem.W.Frag} {c : Nat} {H H' : Hp}
theorem atomOk.ty {v : V} {d : PyData} (h : atomOk c v d) : TyN K H v (tyD d) := by
  unfold atomOk at h
  split at h
  · exact .non
  · exact .bl _
  · exact .int _
  · exact .str _
  · exact h.elim
theorem Da.ty {k : Nat} {v : V} {d : PyData} (h : Da P K c H k v d) : TyN K H v (tyD d) := by
  cases k with
  | zero => exact atomOk.ty h
  | succ k =>
    rcases h with h | ⟨a, xs, ds, rfl, h2, _⟩
    · exact atomOk.ty h
    · rcases h2 with ⟨_, h2, rfl⟩ | ⟨h2, rfl⟩
      · exact .lst (K := K) (sq_of h2)
      · exact .tup h2
theorem daS_all {R : V → PyData → Prop} (hR : ∀ v d, R v d → Dp K H v d) : ∀ {xs : List V} {ds : List PyData}, DaS R xs ds → DpAll K H xs ds
  | [], [], _ => .nil
  | [], _ :: _, h => by cases h.1
  | _ :: _, [], h => by cases h.1
  | x :: xs, d :: ds, h => .cons (hR _ _ (h.2 0 x d rfl rfl)) (daS_all hR ⟨Nat.succ.inj h.1, fun i y e hy he => h.2 (i + 1) y e hy he⟩)
theorem atomOk.dp {v : V} {d : PyData} (h : atomOk c v d) : Dp K H v d ∧ Nice 0 d := by
  unfold atomOk at h
  split at h
  · exact ⟨.non, by simp [PyData.canLay0], by simp [PyData.depth]⟩
  · subst h
    exact ⟨.bl _, by simp [PyData.canLay0], by simp [PyData.depth]⟩
  · obtain ⟨rfl, _⟩ := h
    exact ⟨.int _, by simp [PyData.canLay0], by simp [PyData.depth]⟩
  · obtain ⟨rfl, h⟩ := h
    exact ⟨.str _, by simp only [PyData.canLay0]; exact h.1, by simp [PyData.depth]⟩
  · exact h.elim
theorem Da.dp : ∀ {k : Nat} {v : V} {d : PyData}, Da P K c H k v d → Dp K H v d
  | 0, _, _, h => (atomOk.dp h).1
  | k + 1, _, _, .inl h => (atomOk.dp h).1
  | k + 1, _, _, .inr ⟨a, xs, ds, h1, h2, h3⟩ => by
    subst h1
    have := daS_all (K := K) (H := H) (fun v d h => Da.dp h) h3
    rcases h2 with ⟨_, h2, rfl⟩ | ⟨h2, rfl⟩
    · exact .lst (sq_of h2) this
    · exact .tup h2 this
theorem daS_mem {R : V → PyData → Prop} {xs : List V} {ds : List PyData} (h : DaS R xs ds) {d : PyData} (hd : d ∈ ds) : ∃ v ∈ xs, R v d := by
  obtain ⟨i, hi⟩ := List.getElem?_of_mem hd
  have hl := (List.getElem?_eq_some_iff.mp hi).1
  have hx : i < xs.length := by rw [h.1]; exact hl
  exact ⟨xs[i], List.getElem_mem hx, h.2 i _ _ (List.getElem?_eq_getElem hx) hi⟩
theorem Da.nice : ∀ {k : Nat} {v : V} {d : PyData}, Da P K c H k v d → Nice k d
  | 0, _, _, h => (atomOk.dp (K := K) (H := H) h).2
  | k + 1, _, _, .inl h => nice_mono (atomOk.dp (K := K) (H := H) h).2 (Nat.zero_le _)
  | k + 1, _, _, .inr ⟨a, xs, ds, h1, h2, h3⟩ => by
    have : ∀ d ∈ ds, Nice k d := fun d hd => by
      obtain ⟨v, _, hv⟩ := daS_mem h3 hd
      exact Da.nice hv
    rcases h2 with ⟨_, h2, rfl⟩ | ⟨h2, rfl⟩
    · exact nice_list this
    · exact nice_tuple this
theorem shw_ds {ds : List PyData} (h : ∀ d ∈ ds, d.showable = true ∧ d.shown.length ≤ wtD d) : PyData.showableAll ds = true ∧ ((PyData.shownAll ds).map (·.length)).sum + 2 * (PyData.shownAll ds).length ≤ wtDs ds := by
  induction ds with
  | nil => exact ⟨by simp [PyData.showableAll], by simp [PyData.shownAll, wtDs]⟩
  | cons d r ih =>
    obtain ⟨a1, a2⟩ := h d (List.mem_cons_self ..)
    obtain ⟨b1, b2⟩ := ih fun c hc => h c (List.mem_cons_of_mem _ hc)
    refine ⟨by simp only [PyData.showableAll, a1, b1]; rfl, ?_⟩
    simp only [List.map_cons, PyData.shownAll, List.sum_cons, List.length_cons, wtDs]
    omega
theorem wide_log {i : Int} (h : i.natAbs ≤ 10 ^ 30 + 1000) : i.natAbs.log2 < 1920 := by
  by_cases z : i.natAbs = 0
  · rw [z]
    decide
  · rw [Nat.log2_lt z]
    have h1 : (10 : Nat) ^ 30 + 1000 < 2 ^ 120 := by decide
    have h2 : (2 : Nat) ^ 120 ≤ 2 ^ 1920 := Nat.pow_le_pow_right (by decide) (by decide)
    omega
theorem atomOk.shw {v : V} {d : PyData} (hc : c ≤ 1000) (h : atomOk c v d) : d.showable = true ∧ d.shown.length ≤ wtD d := by
  unfold atomOk at h
  split at h
  · exact ⟨by simp [PyData.showable], by simp only [PyData.shown, wtD]; decide⟩
  · rename_i b b'
    exact ⟨by simp [PyData.showable], by simp only [PyData.shown, wtD]; cases b' <;> decide⟩
  · rename_i i i'
    obtain ⟨rfl, h⟩ := h
    refine ⟨by simp only [PyData.showable]; exact decide_eq_true (wide_log (by omega)), ?_⟩
    have h1 : (10 : Nat) ^ 30 + 1000 < 10 ^ 31 := by decide
    have e := int_text_length_le10 (k := 31) (a := i) (by decide) (by omega)
    show (Str.ofString (toString i)).length ≤ wtD (.int i)
    rw [PySem.ofString_length]
    simp only [wtD]
    omega
  · obtain ⟨rfl, h⟩ := h
    refine ⟨by simp [PyData.showable], ?_⟩
    have := h.2
    simp only [PyData.shown, wtD]
    omega
  · exact h.elim
theorem Da.shw (hc : c ≤ 1000) : ∀ {k : Nat} {v : V} {d : PyData}, Da P K c H k v d → d.showable = true ∧ d.shown.length ≤ wtD d
  | 0, _, _, h => atomOk.shw hc h
  | k + 1, _, _, .inl h => atomOk.shw hc h
  | k + 1, _, _, .inr ⟨a, xs, ds, h1, h2, h3⟩ => by
    obtain ⟨q1, q2⟩ := shw_ds (ds := ds) fun d hd => by
      obtain ⟨v, _, hv⟩ := daS_mem h3 hd
      exact Da.shw hc hv
    rcases h2 with ⟨_, h2, rfl⟩ | ⟨h2, rfl⟩
    · refine ⟨by simp only [PyData.showable]; exact q1, ?_⟩
      have e : (PyData.list ds).shown = listText (PyData.shownAll ds) := by simp only [PyData.shown]
      rw [e]
      have := listText_len_le (PyData.shownAll ds)
      simp only [wtD]
      omega
    · refine ⟨by simp only [PyData.showable]; exact q1, ?_⟩
      have e : (PyData.tuple ds).shown = tupleText (PyData.shownAll ds) := by simp only [PyData.shown]
      rw [e]
      have := tupleText_len_le (PyData.shownAll ds)
      simp only [wtD]
      omega
end
theorem call_reprA {X : Cx} (gd : X.A.guards = some []) (hu : X.A.units + 70 < cLine) : CallR X (.builtin "repr") (fun xs H Q => ∃ (v : V) (d : PyData), xs = [v] ∧ Dp X.K H v d ∧ Nice 60 d ∧ d.showable = true ∧ d.shown.length ≤ sizeLine ∧ Q (.str d.shown) H) := by
  intro pins s σ H xs us Q I0 r h
  obtain ⟨v, d, rfl, hd, hn, hs, hz, q⟩ := h
  obtain ⟨u, rfl, ru⟩ := vals1 r
  cases hd with
  | non =>
    cases ru
    exact PySem.P.repr_of_none ⟨.str (PyData.shown .none), H, I0.kept (t' := s.toks + 1) (fun _ _ z => z), ⟨_, rfl⟩, q⟩
  | bl b =>
    cases ru
    exact PySem.P.repr_of_bool ⟨.str (PyData.shown (.bool b)), H, I0.kept (t' := s.toks + 1) (fun _ _ z => z), ⟨_, rfl⟩, q⟩
  | int i =>
    obtain ⟨t, rfl⟩ := ru
    have hs' : i.natAbs.log2 < 1920 := by
      simp only [PyData.showable] at hs
      exact of_decide_eq_true hs
    exact PySem.P.repr_of_int hs' ⟨.str (PyData.shown (.int i)), H, I0.kept (t' := s.toks + 1) (fun _ _ z => z), ⟨_, rfl⟩, q⟩
  | str x =>
    obtain ⟨t, rfl⟩ := ru
    exact PySem.P.repr_of_str ⟨.str (PyData.shown (.str x)), H, I0.kept (t' := s.toks + 1) (fun _ _ z => z), ⟨_, rfl⟩, q⟩ (by simp only [PyData.shown] at hz; exact hz)
  | lst h1 h2 => exact call_reprD gd hu pins s σ H _ _ Q I0 r ⟨_, _, rfl, .lst h1 h2, hn, hs, hz, q⟩
  | tup h1 h2 => exact call_reprD gd hu pins s σ H _ _ Q I0 r ⟨_, _, rfl, .tup h1 h2, hn, hs, hz, q⟩
end HH
set_option maxHeartbeats 4000000
namespace HH
open PySem PySem.Spec PyProof.Rows L2 Evl RZ
def isIntB : PyData → Bool
  | .int _ => true
  | .bool _ => true
  | _ => false
def isBoolB : PyData → Bool
  | .bool _ => true
  | _ => false
def isListB : PyData → Bool
  | .list _ => true
  | _ => false
def isTupB : PyData → Bool
  | .tuple _ => true
  | _ => false
def isNumD : PyData → Bool
  | .int _ => true
  | _ => false
theorem kitI (d : PyData) : kitB (tyD d) "int" = some (isIntB d) := by
  cases d with
  | none => exact (by decide +kernel : kitB "NoneType" "int" = some false)
  | bool _ => exact (by decide +kernel : kitB "bool" "int" = some true)
  | int _ => exact (by decide +kernel : kitB "int" "int" = some true)
  | str _ => exact (by decide +kernel : kitB "str" "int" = some false)
  | list _ => exact (by decide +kernel : kitB "list" "int" = some false)
  | tuple _ => exact (by decide +kernel : kitB "tuple" "int" = some false)
  | dict _ => exact (by decide +kernel : kitB "dict" "int" = some false)
theorem kitBo (d : PyData) : kitB (tyD d) "bool" = some (isBoolB d) := by
  cases d with
  | none => exact (by decide +kernel : kitB "NoneType" "bool" = some false)
  | bool _ => exact (by decide +kernel : kitB "bool" "bool" = some true)
  | int _ => exact (by decide +kernel : kitB "int" "bool" = some false)
  | str _ => exact (by decide +kernel : kitB "str" "bool" = some false)
  | list _ => exact (by decide +kernel : kitB "list" "bool" = some false)
  | tuple _ => exact (by decide +kernel : kitB "tuple" "bool" = some false)
  | dict _ => exact (by decide +kernel : kitB "dict" "bool" = some false)
theorem kitL (d : PyData) : kitB (tyD d) "list" = some (isListB d) := by
  cases d with
  | none => exact (by decide +kernel : kitB "NoneType" "list" = some false)
  | bool _ => exact (by decide +kernel : kitB "bool" "list" = some false)
  | int _ => exact (by decide +kernel : kitB "int" "list" = some false)
  | str _ => exact (by decide +kernel : kitB "str" "list" = some false)
  | list _ => exact (by decide +kernel : kitB "list" "list" = some true)
  | tuple _ => exact (by decide +kernel : kitB "tuple" "list" = some false)
  | dict _ => exact (by decide +kernel : kitB "dict" "list" = some false)
theorem kitT (d : PyData) : kitB (tyD d) "tuple" = some (isTupB d) := by
  cases d with
  | none => exact (by decide +kernel : kitB "NoneType" "tuple" = some false)
  | bool _ => exact (by decide +kernel : kitB "bool" "tuple" = some false)
  | int _ => exact (by decide +kernel : kitB "int" "tuple" = some false)
  | str _ => exact (by decide +kernel : kitB "str" "tuple" = some false)
  | list _ => exact (by decide +kernel : kitB "list" "tuple" = some false)
  | tuple _ => exact (by decide +kernel : kitB "tuple" "tuple" = some true)
  | dict _ => exact (by decide +kernel : kitB "dict" "tuple" = some false)
theorem kitLT {K : PySem.W.Frag} (d : PyData) : PySem.W.kitAny K (.type (tyD d)) [.type "list", .type "tuple"] = some (isListB d || isTupB d) := by
  refine kitAny_cons (b := isListB d) (kit_ty (kitL d)) (fun h => kitAny_cons (b := isTupB d) (kit_ty (kitT d)) (fun h2 => ?_) (fun h2 => ?_)) (fun h => ?_)
  · rw [h, h2]
    exact kitAny_nil
  · rw [h, h2]
    rfl
  · rw [h]
    rfl
section
variable {P : Addr → Prop} {K : PySem.W.Frag} {c k : Nat} {H H' : Hp} {σ : L2.St} {te ta tb : TE} {D : Ends} {v : V} {d : PyData}
theorem ev_isiD {C : String} {b : Bool} (h : Ev te σ H v) (hd : Da P K c H k v d) (kk : kitB (tyD d) C = some b) : Ev (tCB (rIsi K) (tCons te (tCons (tC (.ty C)) tNil))) σ H (.bl b) := ev_isi h hd.ty kk
theorem ev_isiLT (h : Ev te σ H v) (hd : Da P K c H k v d) : Ev (tCB (rIsiT K) (tCons te (tCons (tTup (tCons (tC (.ty "list")) (tCons (tC (.ty "tuple")) tNil))) tNil))) σ H (.bl (isListB d || isTupB d)) := ev_isiT h hd.ty (kitLT d)
theorem Da.cont (hd : Da P K c H (k + 1) v d) (h : (isListB d || isTupB d) = true) : ∃ (a : Addr) (xs : List V) (ds : List PyData), v = .ref a ∧ ((¬ P a ∧ H a = some (.lst xs) ∧ d = .list ds) ∨ (SqT K H a xs ∧ d = .tuple ds)) ∧ DaS (Da P K c H k) xs ds := by
  rcases hd with hd | hd
  · unfold atomOk at hd
    split at hd
    · cases h
    · cases h
    · cases h
    · cases h
    · exact hd.elim
  · exact hd
theorem Da.cont0 (hd : Da P K c H 0 v d) (h : (isListB d || isTupB d) = true) : False := by
  have hd : atomOk c v d := hd
  unfold atomOk at hd
  split at hd
  · cases h
  · cases h
  · cases h
  · cases h
  · exact hd.elim
theorem Da.tupAt {ds : List PyData} (hd : Da P K c H k v (.tuple ds)) : ∃ (k' : Nat) (a : Addr) (xs : List V), k = k' + 1 ∧ v = .ref a ∧ SqT K H a xs ∧ DaS (Da P K c H k') xs ds := by
  cases k with
  | zero => exact (Da.cont0 hd rfl).elim
  | succ k =>
    obtain ⟨a, xs, ds', h1, h2, h3⟩ := hd.cont rfl
    rcases h2 with ⟨_, _, e⟩ | ⟨h2, e⟩
    · cases e
    · cases e
      exact ⟨k, a, xs, rfl, h1, h2, h3⟩
theorem Da.intAt {i : Int} (hd : Da P K c H k v (.int i)) : v = .int i := by
  have at0 : atomOk c v (.int i) → v = .int i := fun h => by
    unfold atomOk at h
    split at h
    · rename_i h0
      cases h0
    · rename_i h0
      cases h0
    · rename_i h0
      cases h0
      rw [h.1]
    · rename_i h0
      cases h0
    · exact h.elim
  cases k with
  | zero => exact at0 hd
  | succ k =>
    rcases hd with h | ⟨a, xs, ds, _, h2, _⟩
    · exact at0 h
    · rcases h2 with ⟨_, _, e⟩ | ⟨_, e⟩ <;> cases e
end
def spAnyB (K : PySem.W.Frag) (f : PyData → Bool) : Sp := fun vs H Q _ => ∃ (P : Addr → Prop) (v : V) (d : PyData) (c k : Nat), vs = [v] ∧ Da P K c H k v d ∧ wtD d ≤ 40000 ∧ ∀ H', Ex H H' → Q (.bl (f d)) H'
theorem sv_any {K : PySem.W.Frag} {f : PyData → Bool} {P : Addr → Prop} {v : V} {d : PyData} {c k : Nat} {H : Hp} (hd : Da P K c H k v d) (hw : wtD d ≤ 40000) : SpV (spAnyB K f) [v] H (.bl (f d)) := fun H1 e Q q E => ⟨P, v, d, c, k, rfl, hd.ex e, hw, q⟩
def spBentA (K : PySem.W.Frag) : Nat → Sp
  | 0 => fun _ _ _ _ => False
  | j + 1 => fun vs H Q _ => ∃ (P : Addr → Prop) (p : Addr) (x : V) (d : PyData) (c n : Nat), vs = [.ref p, x] ∧ P p ∧ (∀ a, P a → ∃ o, H a = some o) ∧ Da P K c H j x d ∧ wtD d ≤ 20000 ∧ c ≤ 100 ∧ Bx H p n ∧ n + 5 * (j + 1) < Lim ∧
    ∀ (y : V) (d' : PyData) (H' : Hp), ExB p H H' → Bx H' p (n + 5 * (j + 1)) → Da P K (c + 1) H' (j + 2) y d' → wtD d' ≤ 2 * wtD d + 400 → Q y H'
def EvDa (P : Addr → Prop) (K : PySem.W.Frag) (c k : Nat) (te : TE) (σ : L2.St) (H : Hp) (d : PyData) : Prop := ∀ H1, Ex H H1 → ∀ Q : VK, (∀ v H2, Ex H1 H2 → Da P K c H2 k v d → Q v H2) → te σ H1 Q
def EvDs (P : Addr → Prop) (K : PySem.W.Frag) (c k : Nat) (ta : TA) (σ : L2.St) (H : Hp) (ds : List PyData) : Prop := ∀ H1, Ex H H1 → ∀ Q : List V → Hp → Prop, (∀ us H2, Ex H1 H2 → DaS (Da P K c H2 k) us ds → Q us H2) → ta σ H1 Q
section
variable {P : Addr → Prop} {K : PySem.W.Frag} {c k : Nat} {H H' : Hp} {σ : L2.St} {te ta tb : TE} {D : Ends} {v : V} {d : PyData}
theorem DaS.ex {xs : List V} {ds : List PyData} (h : DaS (Da P K c H k) xs ds) (e : Ex H H') : DaS (Da P K c H' k) xs ds := ⟨h.1, fun i x y hx hy => (h.2 i x y hx hy).ex e⟩
theorem DaS.exB {p : Addr} {xs ys : List V} {ds : List PyData} (h : DaS (Da P K c H k) xs ds) (hP : P p) (e : ExB p H H') (hp : H p = some (.lst ys)) : DaS (Da P K c H' k) xs ds := ⟨h.1, fun i x y hx hy => (h.2 i x y hx hy).exB hP e hp⟩
theorem DaS.add {l : Addr} {xs : List V} {ds : List PyData} (h : DaS (Da P K c H k) xs ds) (hl : H l = none) : DaS (Da (fun a => P a ∨ a = l) K c H k) xs ds := ⟨h.1, fun i x y hx hy => (h.2 i x y hx hy).add hl⟩
theorem DaS.sub {P' : Addr → Prop} {xs : List V} {ds : List PyData} (h : DaS (Da P K c H k) xs ds) (hs : ∀ a, P' a → P a) : DaS (Da P' K c H k) xs ds := ⟨h.1, fun i x y hx hy => (h.2 i x y hx hy).sub hs⟩
theorem DaS.to {c' k' : Nat} {xs : List V} {ds : List PyData} (h : DaS (Da P K c H k) xs ds) (e : k ≤ k') (e2 : c ≤ c') : DaS (Da P K c' H k') xs ds := ⟨h.1, fun i x y hx hy => ((h.2 i x y hx hy).to e).cc e2⟩
theorem DaS.nil {R : V → PyData → Prop} : DaS R [] [] := ⟨rfl, fun i x e h => by simp at h⟩
theorem DaS.cons {R : V → PyData → Prop} {x : V} {d : PyData} {xs : List V} {ds : List PyData} (h : R x d) (g : DaS R xs ds) : DaS R (x :: xs) (d :: ds) := ⟨by rw [List.length_cons, List.length_cons, g.1], fun i y e hy he => by
  cases i with
  | zero =>
    cases hy
    cases he
    exact h
  | succ i => exact g.2 i y e hy he⟩
theorem DaS.app {R : V → PyData → Prop} {xs ys : List V} {ds es : List PyData} (h : DaS R xs ds) (g : DaS R ys es) : DaS R (xs ++ ys) (ds ++ es) := ⟨by rw [List.length_append, List.length_append, h.1, g.1], fun i y e hy he => by
  by_cases hi : i < xs.length
  · rw [List.getElem?_append_left hi] at hy
    rw [List.getElem?_append_left (by rw [← h.1]; exact hi)] at he
    exact h.2 i y e hy he
  · rw [List.getElem?_append_right (by omega)] at hy
    rw [List.getElem?_append_right (by rw [← h.1]; omega)] at he
    rw [← h.1] at he
    exact g.2 _ y e hy he⟩
theorem DaS.set {R : V → PyData → Prop} {xs : List V} {ds : List PyData} {i : Nat} {x : V} {d : PyData} (h : DaS R xs ds) (g : R x d) : DaS R (xs.set i x) (ds.set i d) := ⟨by rw [List.length_set, List.length_set, h.1], fun j y e hy he => by
  rw [List.getElem?_set] at hy he
  by_cases c : i = j
  · rw [if_pos c] at hy he
    by_cases c2 : j < xs.length
    · rw [if_pos (by omega)] at hy
      rw [if_pos (by rw [← h.1]; omega)] at he
      cases hy
      cases he
      exact g
    · rw [if_neg (by omega)] at hy
      cases hy
  · rw [if_neg c] at hy he
    exact h.2 j y e hy he⟩
theorem DaS.erase {R : V → PyData → Prop} {xs : List V} {ds : List PyData} (i : Nat) (h : DaS R xs ds) : DaS R (xs.eraseIdx i) (ds.eraseIdx i) := ⟨by rw [List.length_eraseIdx, List.length_eraseIdx, h.1], fun j y e hy he => by
  rw [List.getElem?_eraseIdx] at hy he
  by_cases c : j < i
  · rw [if_pos c] at hy he
    exact h.2 j y e hy he
  · rw [if_neg c] at hy he
    exact h.2 _ y e hy he⟩
theorem DaS.take {R : V → PyData → Prop} {xs : List V} {ds : List PyData} (n : Nat) (h : DaS R xs ds) : DaS R (xs.take n) (ds.take n) := ⟨by rw [List.length_take, List.length_take, h.1], fun j y e hy he => by
  rw [List.getElem?_take] at hy he
  by_cases c : j < n
  · rw [if_pos c] at hy he
    exact h.2 j y e hy he
  · rw [if_neg c] at hy
    cases hy⟩
theorem DaS.drop {R : V → PyData → Prop} {xs : List V} {ds : List PyData} (n : Nat) (h : DaS R xs ds) : DaS R (xs.drop n) (ds.drop n) := ⟨by rw [List.length_drop, List.length_drop, h.1], fun j y e hy he => by
  rw [List.getElem?_drop] at hy he
  exact h.2 _ y e hy he⟩
theorem DaS.at' {R : V → PyData → Prop} {xs : List V} {ds : List PyData} {i : Nat} (h : DaS R xs ds) (hi : i < xs.length) : ∃ x d, xs[i]? = some x ∧ ds[i]? = some d ∧ R x d := by
  have h2 : i < ds.length := by rw [← h.1]; exact hi
  exact ⟨_, _, List.getElem?_eq_getElem hi, List.getElem?_eq_getElem h2, h.2 i _ _ (List.getElem?_eq_getElem hi) (List.getElem?_eq_getElem h2)⟩
theorem da_lst {a : Addr} {xs : List V} {ds : List PyData} (n : ¬ P a) (h : H a = some (.lst xs)) (g : DaS (Da P K c H k) xs ds) : Da P K c H (k + 1) (.ref a) (.list ds) := .inr ⟨a, xs, ds, rfl, .inl ⟨n, h, rfl⟩, g⟩
theorem da_tup {a : Addr} {xs : List V} {ds : List PyData} (h : SqT K H a xs) (g : DaS (Da P K c H k) xs ds) : Da P K c H (k + 1) (.ref a) (.tuple ds) := .inr ⟨a, xs, ds, rfl, .inr ⟨h, rfl⟩, g⟩
theorem da_atom (h : atomOk c v d) : Da P K c H k v d := by
  cases k with
  | zero => exact h
  | succ k => exact .inl h
theorem ed_at (h : Ev te σ H v) (g : atomOk c v d) : EvDa P K c k te σ H d := fun H1 e1 Q q => h H1 e1 _ fun H2 e2 => q v H2 e2 (da_atom g)
theorem as_nil : EvDs P K c k tNil σ H [] := fun H1 e1 Q q => q [] H1 (Ex.refl H1) DaS.nil
theorem as_cons {tr : TA} {ds : List PyData} (h : EvDa P K c k ta σ H d) (hr : EvDs P K c k tr σ H ds) : EvDs P K c k (tCons ta tr) σ H (d :: ds) := fun H1 e1 Q q => h H1 e1 _ fun v H2 e2 hv => hr H2 (e1.trans e2) _ fun us H3 e3 b => q (v :: us) H3 (e2.trans e3) (DaS.cons (hv.ex e3) b)
theorem ed_tup {tr : TA} {ds : List PyData} (h : EvDs P K c k tr σ H ds) (hl : ds.length ≤ 10000) : EvDa P K c (k + 1) (tTup tr) σ H (.tuple ds) := fun H1 e1 Q q => h H1 e1 _ fun us H2 e2 g => ⟨sz_of (by rw [g.1]; omega), fun t ht => q _ _ (e2.trans (Ex.new ht)) (da_tup (st_of upd_same) (g.ex (Ex.new ht)))⟩
theorem ed_lst {tr : TA} {ds : List PyData} (hp : ∀ a, P a → ∃ o, H a = some o) (h : EvDs P K c k tr σ H ds) (hl : ds.length ≤ 10000) : EvDa P K c (k + 1) (tLst tr) σ H (.list ds) := fun H1 e1 Q q => h H1 e1 _ fun us H2 e2 g => ⟨sz_of (by rw [g.1]; omega), fun t ht => q _ _ (e2.trans (Ex.new ht)) (da_lst (fun z => by
    obtain ⟨o, ho⟩ := hp _ z
    exact ne_of_none ((e1.trans e2) _ _ ho) ht rfl) upd_same (g.ex (Ex.new ht)))⟩
theorem q_asgDs {i : Nat} {tr : TA} {ds : List PyData} {tz : TS} (h : EvDs P K c k tr σ H ds) (hl : ds.length ≤ 10000) (kk : ∀ a us H1, H a = none → Ex H H1 → H1 a = some (.lst us) → DaS (Da P K c H1 k) us ds → tz D (σ.set i (some (.ref a))) H1) : tSeq (tAsg (tLst tr) (gName i)) tz D σ H :=
  h H (Ex.refl H) _ fun us H1 e1 g => ⟨sz_of (by rw [g.1]; omega), fun a ha => kk a us _ (fresh_back e1 ha) (e1.trans (Ex.new ha)) upd_same (g.ex (Ex.new ha))⟩
end
end HH
namespace HH
open PySem PySem.Spec PyProof.Rows L2 Evl RZ
section
variable {P : Addr → Prop} {K : PySem.W.Frag} {c k : Nat} {H H' : Hp} {σ : L2.St} {te te2 ta tb : TE} {D : Ends} {v : V} {d : PyData}
theorem ev_allB {bs : List Bool} (h : EvL te σ H (bs.map V.bl)) : Ev (tCB (rAll K) (tCons te tNil)) σ H (.bl (bs.all id)) := fun H1 e Q q => h H1 e _ fun p H2 hp e2 h2 => ⟨p, bs, rfl, sq_of h2, q H2 e2⟩
theorem wtD_at {ds : List PyData} {i : Nat} {e : PyData} (h : ds[i]? = some e) : wtD e ≤ wtD (.tuple ds) ∧ wtD e ≤ wtD (.list ds) := by
  have := wtDs_get h
  simp only [wtD]
  omega
theorem wtD_len (ds : List PyData) : 2 * ds.length ≤ wtD (.tuple ds) ∧ 2 * ds.length ≤ wtD (.list ds) := by
  have := wtDs_len ds
  simp only [wtD]
  omega
end
end HH
namespace HH
open PySem PySem.Spec PyProof.Rows L2 Evl RZ
theorem isCont {P : Addr → Prop} {K : PySem.W.Frag} {c : Nat} {H : Hp} {k : Nat} {v : V} {d : PyData} (hd : Da P K c H k v d) : (isListB d || isTupB d) = true ∨ ((isListB d || isTupB d) = false ∧ atomOk c v d) := by
  cases k with
  | zero =>
    refine .inr ⟨?_, hd⟩
    cases e : (isListB d || isTupB d) with
    | false => rfl
    | true => exact (Da.cont0 hd e).elim
  | succ k =>
    rcases hd with h | ⟨a, xs, ds, rfl, h2, _⟩
    · refine .inr ⟨?_, h⟩
      cases e : (isListB d || isTupB d) with
      | false => rfl
      | true => exact (Da.cont0 (P := P) (K := K) (H := H) h e).elim
    · rcases h2 with ⟨_, _, rfl⟩ | ⟨_, rfl⟩
      · exact .inl rfl
      · exact .inl rfl
def oddL : List PyData := [.none, .bool true, .bool false, .int 0, .int 1, .int (-1), .int (10 ^ 30), .str "", .str "a", .tuple [], .list [], .tuple [.int 0, .int 0], .list [.int 0], .tuple [.tuple [.int 0, .int 0]]]
theorem odd_wt {d : PyData} (h : d ∈ oddL) : wtD d ≤ 400 := by
  unfold oddL at h
  simp only [List.mem_cons, List.not_mem_nil, or_false] at h
  rcases h with rfl | rfl | rfl | rfl | rfl | rfl | rfl | rfl | rfl | rfl | rfl | rfl | rfl | rfl <;> simp [wtD, wtDs]
theorem fit0 : StrFit "" := ⟨by decide +kernel, by decide +kernel⟩
theorem fitA : StrFit "a" := ⟨by decide +kernel, by decide +kernel⟩
end HH
namespace HH
open PySem PySem.Spec PyProof.Rows L2 Evl RZ
theorem ret_if {t : TT} {ta tb : TE} {b : Bool} {D : Ends} {σ : L2.St} {H : Hp} (h : EvT t σ H b) (h1 : b = true → ∀ H1, Ex H H1 → ta σ H1 D.rt) (h2 : b = false → ∀ H1, Ex H H1 → tb σ H1 D.rt) : tRet (tIf t ta tb) D σ H := h H (Ex.refl H) _ fun H1 e1 => by
  cases b with
  | true => exact h1 rfl H1 e1
  | false => exact h2 rfl H1 e1
end HH
namespace HH
open PySem PySem.Spec PyProof.Rows L2 Evl RZ
section
variable {K : PySem.W.Frag} {σ : L2.St} {H : Hp} {t u : TT} {tu tw tz : TS} {D : Ends} {QB : Bool → Hp → Prop}
theorem and_run (h : EvT t σ H true) (k : ∀ H1, Ex H H1 → u σ H1 QB) : tAnd t u σ H QB := h H (Ex.refl H) _ fun H1 e1 => k H1 e1
theorem and_no (h : EvT t σ H false) (k : ∀ H1, Ex H H1 → QB false H1) : tAnd t u σ H QB := h H (Ex.refl H) _ fun H1 e1 => k H1 e1
theorem or_run (h : EvT t σ H false) (k : ∀ H1, Ex H H1 → u σ H1 QB) : tOr t u σ H QB := h H (Ex.refl H) _ fun H1 e1 => k H1 e1
theorem or_yes (h : EvT t σ H true) (k : ∀ H1, Ex H H1 → QB true H1) : tOr t u σ H QB := h H (Ex.refl H) _ fun H1 e1 => k H1 e1
theorem draw0 {p : Addr} {ib n : Nat} {m : Int} {X : XK} (hp : σ[ib]? = some (some (.ref p))) (h0 : 0 < m) (h1 : m < 1073741824) (hb : Bx H p n) (hn : n < Lim) (k : ∀ c H1, ExB p H H1 → Bx H1 p (n + 1) → QB c H1) : tTest (tOp rEq (tCall spTake [] X (tCons (tVar ib) (tCons (tC (.int m)) tNil))) (tC (.int 0))) σ H QB :=
  ⟨.ref p, hp, p, m, n, rfl, h0, h1, hb, hn, fun r H1 r0 r1 x1 b1 => ⟨rfl, _, rfl, k _ H1 x1 b1⟩⟩
end
end HH
namespace HH
open PySem PySem.Spec PyProof.Rows L2 Evl RZ
theorem Da.intB {P : Addr → Prop} {K : PySem.W.Frag} {c k : Nat} {H : Hp} {v : V} {i : Int} (hd : Da P K c H k v (.int i)) : i.natAbs ≤ 10 ^ 30 + c := by
  have at0 : atomOk c v (.int i) → i.natAbs ≤ 10 ^ 30 + c := fun h => by
    unfold atomOk at h
    split at h
    · rename_i h0
      cases h0
    · rename_i h0
      cases h0
    · rename_i h0
      cases h0
      rw [← h.1]
      exact h.2
    · rename_i h0
      cases h0
    · exact h.elim
  cases k with
  | zero => exact at0 hd
  | succ k =>
    rcases hd with h | ⟨a, xs, ds, _, h2, _⟩
    · exact at0 h
    · rcases h2 with ⟨_, _, e⟩ | ⟨_, e⟩ <;> cases e
end HH
set_option maxHeartbeats 4000000
namespace HH
open PySem PySem.Spec PyProof.Rows L2 Evl RZ
def ItA (P : Addr → Prop) (K : PySem.W.Frag) (H : Hp) (v : V) : Prop := ∃ d, Da P K 2 H 6 v d ∧ wtD d ≤ 20000
def EvI (P : Addr → Prop) (K : PySem.W.Frag) (te : TE) (σ : L2.St) (H : Hp) : Prop := ∀ H1, Ex H H1 → ∀ Q : VK, (∀ v H2, Ex H1 H2 → ItA P K H2 v → Q v H2) → te σ H1 Q
def EvIs (P : Addr → Prop) (K : PySem.W.Frag) (n : Nat) (ta : TA) (σ : L2.St) (H : Hp) : Prop := ∀ H1, Ex H H1 → ∀ Q : List V → Hp → Prop, (∀ us H2, Ex H1 H2 → us.length = n → (∀ v ∈ us, ItA P K H2 v) → Q us H2) → ta σ H1 Q
def spBentE (K : PySem.W.Frag) : Sp := fun vs H Q E => spBentA K 3 vs H Q E ∨ spBentA K 5 vs H Q E
section
variable {P : Addr → Prop} {K : PySem.W.Frag} {c k n : Nat} {H H' : Hp} {σ : L2.St} {te ta tb : TE} {D : Ends} {v : V} {d : PyData} {rs : HH.Row}
theorem ItA.ex (e : Ex H H') (h : ItA P K H v) : ItA P K H' v := by
  obtain ⟨d, h, w⟩ := h
  exact ⟨d, h.ex e, w⟩
theorem ItA.exB {p : Addr} {ys : List V} (hP : P p) (e : ExB p H H') (hp : H p = some (.lst ys)) (h : ItA P K H v) : ItA P K H' v := by
  obtain ⟨d, h, w⟩ := h
  exact ⟨d, h.exB hP e hp, w⟩
theorem ItA.add {l : Addr} (hl : H l = none) (h : ItA P K H v) : ItA (fun a => P a ∨ a = l) K H v := by
  obtain ⟨d, h, w⟩ := h
  exact ⟨d, h.add hl, w⟩
theorem ItA.sub {P' : Addr → Prop} (hs : ∀ a, P' a → P a) (h : ItA P K H v) : ItA P' K H v := by
  obtain ⟨d, h, w⟩ := h
  exact ⟨d, h.sub hs, w⟩
theorem ei_of (h : EvDa P K c k te σ H d) (hk : k ≤ 6) (hc : c ≤ 2) (hw : wtD d ≤ 8000) : EvI P K te σ H := fun H1 e1 Q q => h H1 e1 _ fun v H2 e2 g => q v H2 e2 ⟨d, (g.to hk).cc hc, by omega⟩
theorem is_nil : EvIs P K 0 tNil σ H := fun H1 e1 Q q => q [] H1 (Ex.refl H1) rfl fun v hv => by simp at hv
theorem is_cons {tr : TA} (h : EvI P K ta σ H) (hr : EvIs P K n tr σ H) : EvIs P K (n + 1) (tCons ta tr) σ H := fun H1 e1 Q q => h H1 e1 _ fun v H2 e2 hv => hr H2 (e1.trans e2) _ fun us H3 e3 hl b => q (v :: us) H3 (e2.trans e3) (by rw [List.length_cons, hl]) fun x hx => by
  rcases List.mem_cons.mp hx with rfl | hx
  · exact hv.ex e3
  · exact b x hx
theorem q_catIs {i : Nat} {tr : TA} {tz : TS} {T : Addr} {us : List V} (h0 : Ev te σ H (.ref T)) (gT : H T = some (.lst us)) (hu : ∀ v ∈ us, ItA P K H v) (h : EvIs P K n tr σ H) (hl : us.length + n ≤ 10000)
    (kk : ∀ a vs H1, H a = none → Ex H H1 → H1 a = some (.lst (us ++ vs)) → vs.length = n → (∀ v ∈ us ++ vs, ItA (fun z => P z ∨ z = a) K H1 v) → tz D (σ.set i (some (.ref a))) H1) : tSeq (tAsg (tOp rCat te (tLst tr)) (gName i)) tz D σ H :=
  h0 H (Ex.refl H) _ fun H1 e1 => h H1 e1 _ fun vs H2 e2 hn g => ⟨sz_of (by omega), fun b hb => by
    have eb := (e1.trans e2).trans (Ex.new (o := .lst vs) hb)
    refine ⟨T, b, us, vs, rfl, rfl, eb _ _ gT, upd_same, sz_of (by omega), fun a ha => kk a vs _ (fresh_back eb ha) (eb.trans (Ex.new ha)) upd_same hn fun v hv => ?_⟩
    rcases List.mem_append.mp hv with hv | hv
    · exact (((hu v hv).ex eb).add ha).ex (Ex.new ha)
    · exact (((g v hv).ex (Ex.new hb)).add ha).ex (Ex.new ha)⟩
theorem rc_reprI (hd : Da P K c H k v d) (hk : k ≤ 60) (hc : c ≤ 1000) (hw : wtD d ≤ 100000) : RC (fun xs H Q => ∃ (v : V) (d : PyData), xs = [v] ∧ Dp K H v d ∧ Nice 60 d ∧ d.showable = true ∧ d.shown.length ≤ sizeLine ∧ Q (.str d.shown) H) [v] H (.str d.shown) := fun H1 e1 Q q =>
  ⟨v, d, rfl, (hd.ex e1).dp, nice_mono hd.nice hk, (hd.shw hc).1, sz_of (Nat.le_trans (hd.shw hc).2 hw), q H1 (Ex.refl H1)⟩
end
end HH
namespace HH
theorem ite_t {p q : Prop} (h : p) : if true = true then p else q := h
theorem ite_f {p q : Prop} (h : q) : if false = true then p else q := h
end HH
set_option maxHeartbeats 4000000
namespace HH
open PySem PySem.Spec PyProof.Rows L2 Evl RZ
abbrev Lot := Int × Int × Int
def LotAt (K : PySem.W.Frag) (H : Hp) (v : V) (l : Lot) : Prop := ∃ p, v = .ref p ∧ SqT K H p [.int l.1, .int l.2.1, .int l.2.2]
abbrev LotsA (K : PySem.W.Frag) (H : Hp) : List V → List Lot → Prop := All2 (LotAt K H)
def HerdAt (K : PySem.W.Frag) (H : Hp) (v : V) (ls : List Lot) : Prop := ∃ a us, v = .ref a ∧ SqT K H a us ∧ LotsA K H us ls
section
variable {K : PySem.W.Frag} {H H' : Hp} {v : V} {l : Lot} {ls : List Lot} {us : List V}
theorem LotAt.ex (h : LotAt K H v l) (e : Ex H H') : LotAt K H' v l := by
  obtain ⟨p, h1, h2⟩ := h
  exact ⟨p, h1, ex_t e h2⟩
theorem LotAt.exB {q : Addr} {ys : List V} (h : LotAt K H v l) (e : ExB q H H') (hq : H q = some (.lst ys)) : LotAt K H' v l := by
  obtain ⟨p, h1, h2⟩ := h
  exact ⟨p, h1, e.t hq h2⟩
theorem LotsA.ex' (h : LotsA K H us ls) (e : Ex H H') : LotsA K H' us ls := All2.mono (fun _ _ r => r.ex e) h
theorem LotsA.exB' {q : Addr} {ys : List V} (h : LotsA K H us ls) (e : ExB q H H') (hq : H q = some (.lst ys)) : LotsA K H' us ls := All2.mono (fun _ _ r => r.exB e hq) h
theorem HerdAt.ex (h : HerdAt K H v ls) (e : Ex H H') : HerdAt K H' v ls := by
  obtain ⟨a, us, h1, h2, h3⟩ := h
  exact ⟨a, us, h1, ex_t e h2, LotsA.ex' h3 e⟩
theorem HerdAt.exB {q : Addr} {n : Nat} (h : HerdAt K H v ls) (e : ExB q H H') (hq : Bx H q n) : HerdAt K H' v ls := by
  obtain ⟨a, us, h1, h2, h3⟩ := h
  obtain ⟨xs, hx⟩ := hq.lst
  exact ⟨a, us, h1, e.t hx h2, LotsA.exB' h3 e hx⟩
end
def alikeB (acc : List Lot) (s t : Int) : Bool := match acc.getLast? with
  | some l => decide (l.1 = s ∧ l.2.1 = t)
  | none => false
def popL (acc : List Lot) (s t : Int) : List Lot := if alikeB acc s t = true then acc.dropLast else acc
def befL (acc : List Lot) (s t : Int) : Int := if alikeB acc s t = true then (acc.getLast?.getD (0, 0, 0)).2.2 else 0
def packStep (acc : List Lot) (l : Lot) : List Lot := popL acc l.1 l.2.1 ++ [(l.1, l.2.1, befL acc l.1 l.2.1 + l.2.2)]
def packL (ls : List Lot) : List Lot := ls.foldl packStep []
def ones (rs : HH.Row) : List Lot := rs.map fun b => (b.1, b.2, 1)
def sprR (ls : List Lot) : HH.Row := ls.flatMap fun l => List.replicate l.2.2.toNat (l.1, l.2.1)
theorem alike_snoc (acc : List Lot) (l : Lot) (s t : Int) : alikeB (acc ++ [l]) s t = decide (l.1 = s ∧ l.2.1 = t) := by
  unfold alikeB
  rw [List.getLast?_concat]
theorem spr_app (a b : List Lot) : sprR (a ++ b) = sprR a ++ sprR b := List.flatMap_append ..
theorem alike_ex {acc : List Lot} {s t : Int} (h : alikeB acc s t = true) : ∃ pre m, acc = pre ++ [(s, t, m)] := by
  unfold alikeB at h
  cases c : acc.getLast? with
  | none => rw [c] at h; cases h
  | some l =>
    rw [c] at h
    have h := of_decide_eq_true h
    have hne : acc ≠ [] := fun z => by rw [z] at c; cases c
    refine ⟨acc.dropLast, l.2.2, ?_⟩
    have e := List.dropLast_concat_getLast hne
    rw [List.getLast?_eq_some_getLast hne] at c
    have c := Option.some.inj c
    rw [c] at e
    rw [← h.1, ← h.2]
    exact e.symm
theorem step_alike (pre : List Lot) (s t m k : Int) : packStep (pre ++ [(s, t, m)]) (s, t, k) = pre ++ [(s, t, m + k)] := by
  unfold packStep popL befL
  have e : alikeB (pre ++ [(s, t, m)]) s t = true := by rw [alike_snoc]; exact decide_eq_true ⟨rfl, rfl⟩
  show (if alikeB (pre ++ [(s, t, m)]) s t = true then _ else _) ++ [(s, t, (if alikeB (pre ++ [(s, t, m)]) s t = true then _ else _) + k)] = _
  rw [if_pos e, if_pos e, List.dropLast_concat, List.getLast?_concat]
  rfl
theorem step_other {acc : List Lot} {s t k : Int} (h : alikeB acc s t = false) : packStep acc (s, t, k) = acc ++ [(s, t, k)] := by
  unfold packStep popL befL
  show (if alikeB acc s t = true then _ else _) ++ [(s, t, (if alikeB acc s t = true then _ else _) + k)] = _
  rw [if_neg (by rw [h]; exact Bool.false_ne_true), if_neg (by rw [h]; exact Bool.false_ne_true), Int.zero_add]
def PosL (ls : List Lot) : Prop := ∀ l ∈ ls, 1 ≤ l.2.2
theorem step_pos {acc : List Lot} {l : Lot} (h : PosL acc) (hl : 1 ≤ l.2.2) : PosL (packStep acc l) := by
  obtain ⟨s, t, k⟩ := l
  cases c : alikeB acc s t with
  | true =>
    obtain ⟨pre, m, rfl⟩ := alike_ex c
    rw [step_alike]
    intro x hx
    rcases List.mem_append.mp hx with g | g
    · exact h x (List.mem_append_left _ g)
    · rw [List.mem_singleton.mp g]
      have := h (s, t, m) (by simp)
      show 1 ≤ m + k
      have hl : 1 ≤ k := hl
      have this : 1 ≤ m := this
      omega
  | false =>
    rw [step_other c]
    intro x hx
    rcases List.mem_append.mp hx with g | g
    · exact h x g
    · rw [List.mem_singleton.mp g]
      exact hl
theorem fold_pos : ∀ (ls acc : List Lot), PosL acc → PosL ls → PosL (ls.foldl packStep acc)
  | [], acc, h, _ => h
  | l :: ls, acc, h, g => fold_pos ls (packStep acc l) (step_pos h (g l (List.mem_cons_self ..))) fun x hx => g x (List.mem_cons_of_mem _ hx)
theorem packL_pos {ls : List Lot} (h : PosL ls) : PosL (packL ls) := fold_pos ls [] (fun x hx => nomatch hx) h
theorem step_spr {acc : List Lot} {l : Lot} (h : PosL acc) (hl : 1 ≤ l.2.2) : sprR (packStep acc l) = sprR acc ++ List.replicate l.2.2.toNat (l.1, l.2.1) := by
  obtain ⟨s, t, k⟩ := l
  have one : ∀ m : Int, sprR [(s, t, m)] = List.replicate m.toNat (s, t) := fun m => by
    unfold sprR
    simp
  cases c : alikeB acc s t with
  | true =>
    obtain ⟨pre, m, rfl⟩ := alike_ex c
    have hm : 1 ≤ m := h (s, t, m) (by simp)
    have hk : 1 ≤ k := hl
    rw [step_alike, spr_app, spr_app, one, one, List.append_assoc, List.replicate_append_replicate, show m.toNat + k.toNat = (m + k).toNat by omega]
  | false =>
    rw [step_other c, spr_app, one]
theorem fold_spr : ∀ (ls acc : List Lot), PosL acc → PosL ls → sprR (ls.foldl packStep acc) = sprR acc ++ sprR ls
  | [], acc, _, _ => by
    show sprR acc = sprR acc ++ []
    rw [List.append_nil]
  | l :: ls, acc, h, g => by
    have hl := g l (List.mem_cons_self ..)
    rw [List.foldl_cons, fold_spr ls _ (step_pos h hl) (fun x hx => g x (List.mem_cons_of_mem _ hx)), step_spr h hl, List.append_assoc]
    congr 1
theorem packL_spr {ls : List Lot} (h : PosL ls) : sprR (packL ls) = sprR ls := by
  have := fold_spr ls [] (fun x hx => nomatch hx) h
  exact this
theorem ones_pos (rs : HH.Row) : PosL (ones rs) := fun l hl => by
  obtain ⟨b, _, rfl⟩ := List.mem_map.mp hl
  exact Int.le_refl 1
theorem ones_spr : ∀ rs : HH.Row, sprR (ones rs) = rs
  | [] => rfl
  | b :: rs => by
    have := ones_spr rs
    unfold ones sprR at this ⊢
    rw [List.map_cons, List.flatMap_cons, this]
    rfl
section
variable {K : PySem.W.Frag} {σ : L2.St} {H H' : Hp} {te : TE} {v : V} {Q : VK}
end
section
variable {X : Cx}
end
theorem ret_run {te : TE} {D : Ends} {σ : L2.St} {H : Hp} (h : te σ H D.rt) : tRet te D σ H := h
end HH
set_option maxHeartbeats 4000000
namespace HH
open PySem PySem.Spec PyProof.Rows L2 Evl RZ
section
variable {P : Addr → Prop} {K : PySem.W.Frag} {c k : Nat} {H H' : Hp} {σ : L2.St} {te ta tb : TE} {D : Ends} {v : V} {d : PyData}
end
def Fits (M : Int) (l : Lot) : Prop := -(10 ^ 12) < l.1 ∧ l.1 < 10 ^ 12 ∧ 0 ≤ l.2.1 ∧ l.2.1 < 10 ^ 12 ∧ 1 ≤ l.2.2 ∧ l.2.2 ≤ M
theorem Fits.le {M M' : Int} {l : Lot} (h : Fits M l) (e : M ≤ M') : Fits M' l := ⟨h.1, h.2.1, h.2.2.1, h.2.2.2.1, h.2.2.2.2.1, Int.le_trans h.2.2.2.2.2 e⟩
end HH
namespace HH
open PySem PySem.Spec PyProof.Rows L2 Evl RZ
end HH
namespace HH
open PySem PySem.Spec PyProof.Rows L2 Evl RZ
section
variable {P : Addr → Prop} {K : PySem.W.Frag} {n : Nat} {H : Hp} {σ : L2.St} {D : Ends}
end
end HH
set_option maxHeartbeats 4000000
namespace HH
open PySem PySem.Spec PyProof.Rows L2 Evl RZ
def nextB (ah : List Nat) (s : Nat) : List Nat := (List.range ah.length).filter fun w => !s.testBit w && decide (ah.getD w 0 &&& s = ah.getD w 0)
def putB (s w : Nat) : Nat := s ||| 2 ^ w
def leftB (n s : Nat) : Nat := ((List.range n).filter fun w => !s.testBit w).length
def cntB (ah : List Nat) : Nat → Nat → Nat
  | 0, s => if s = 2 ^ ah.length - 1 then 1 else 0
  | k + 1, s => (if s = 2 ^ ah.length - 1 then 1 else 0) + ((nextB ah s).map fun w => cntB ah k (putB s w)).sum
def cntF (ah : List Nat) (s : Nat) : Nat := cntB ah (leftB ah.length s) s
structure KnowsB (ah : List Nat) (kvs : List (Key × V)) : Prop where
  nd : (kvs.map (·.1)).Nodup
  ok : ∀ kv ∈ kvs, ∃ s : Nat, s < 2 ^ ah.length ∧ kv = (.inl (s : Int), .int (cntF ah s : Int))
theorem KnowsB.nil (ah : List Nat) : KnowsB ah [] := ⟨.nil, fun _ h => nomatch h⟩
theorem KnowsB.get {ah : List Nat} {kvs : List (Key × V)} (h : KnowsB ah kvs) {s : Nat} {x : V} (e : valV kvs (.inl (s : Int)) = some x) : x = .int (cntF ah s : Int) := by
  unfold valV at e
  cases f : kvs.find? fun kv => decide (kv.1 = (.inl (s : Int) : Key)) with
  | none => rw [f] at e; cases e
  | some kv =>
    rw [f] at e
    have e := Option.some.inj e
    obtain ⟨t, ht, hk⟩ := h.ok kv (List.mem_of_find?_eq_some f)
    have hs : kv.1 = (.inl (s : Int) : Key) := of_decide_eq_true (List.find?_some (p := fun kv : Key × V => decide (kv.1 = (.inl (s : Int) : Key))) f)
    subst hk
    have : (t : Int) = (s : Int) := by
      have z : (Sum.inl (t : Int) : Key) = Sum.inl (s : Int) := hs
      injection z
    have : t = s := by omega
    rw [← e, this]
theorem put_new {κ : Type} [DecidableEq κ] {kvs : List (κ × V)} {k : κ} {v : V} (h : valV kvs k = none) : putK kvs k v = kvs ++ [(k, v)] := by
  unfold putK
  rw [if_neg]
  rw [valV_any, h]
  decide
theorem KnowsB.put {ah : List Nat} {kvs : List (Key × V)} (h : KnowsB ah kvs) {s : Nat} (hs : s < 2 ^ ah.length) (e : valV kvs (.inl (s : Int)) = none) : KnowsB ah (putK kvs (.inl (s : Int)) (.int (cntF ah s : Int))) := by
  rw [put_new e]
  refine ⟨?_, fun kv hkv => ?_⟩
  · rw [List.map_append]
    refine List.nodup_append.mpr ⟨h.nd, by simp, fun a ha b hb z => ?_⟩
    have hb : b = .inl (s : Int) := by simpa using hb
    rw [z, hb] at ha
    obtain ⟨kv, hkv, hk⟩ := List.mem_map.mp ha
    have := valV_any (.inl (s : Int) : Key) kvs
    rw [e] at this
    have h2 := List.any_eq_false.mp this kv hkv
    exact h2 (decide_eq_true hk)
  · rcases List.mem_append.mp hkv with h1 | h1
    · exact h.ok kv h1
    · exact ⟨s, hs, List.mem_singleton.mp h1⟩
theorem nodup_few {α : Type} [DecidableEq α] : ∀ {l m : List α}, l.Nodup → (∀ x ∈ l, x ∈ m) → l.length ≤ m.length
  | [], _, _, _ => Nat.zero_le _
  | a :: l, m, nd, h => by
    have nd := List.nodup_cons.mp nd
    have ha := h a (List.mem_cons_self ..)
    have ih := nodup_few (l := l) (m := m.erase a) nd.2 fun x hx => (List.mem_erase_of_ne (fun z => nd.1 (by rw [← z]; exact hx))).mpr (h x (List.mem_cons_of_mem _ hx))
    rw [List.length_erase_of_mem ha] at ih
    have := List.length_pos_of_mem ha
    rw [List.length_cons]
    omega
theorem KnowsB.few {ah : List Nat} {kvs : List (Key × V)} (h : KnowsB ah kvs) : kvs.length ≤ 2 ^ ah.length := by
  have sub := nodup_few (m := (List.range (2 ^ ah.length)).map fun (s : Nat) => (.inl (s : Int) : Key)) h.nd fun k hk => by
    obtain ⟨kv, hkv, rfl⟩ := List.mem_map.mp hk
    obtain ⟨s, hs, rfl⟩ := h.ok kv hkv
    exact List.mem_map.mpr ⟨s, List.mem_range.mpr hs, rfl⟩
  rw [List.length_map, List.length_map, List.length_range] at sub
  exact sub
end HH
set_option maxHeartbeats 4000000
namespace HH
open PySem PySem.Spec PyProof.Rows L2 Evl
end HH
set_option maxHeartbeats 4000000
namespace HH
open PySem PySem.Spec PyProof.Rows L2 Evl
structure OrdAt (K : PySem.W.Frag) (H : Hp) (v : V) (o : Addr) (rs : HH.Row) (l : List Nat) : Prop where
  row : RowAt K H v rs
  len : rs.length ≤ 30
  tl : ∀ b ∈ rs, 0 ≤ b.2
  ord : SqT K H o (natsV l)
  ids : l.Perm (List.range rs.length)
section
variable {K : PySem.W.Frag} {H H' : Hp} {v : V} {o : Addr} {rs : HH.Row} {l : List Nat}
theorem OrdAt.ex (h : OrdAt K H v o rs l) (e : Ex H H') : OrdAt K H' v o rs l := ⟨h.row.ex e, h.len, h.tl, ex_t e h.ord, h.ids⟩
theorem OrdAt.nd (h : OrdAt K H v o rs l) : l.Nodup := h.ids.nodup_iff.mpr List.nodup_range
theorem OrdAt.lenL (h : OrdAt K H v o rs l) : l.length = rs.length := by rw [h.ids.length_eq, List.length_range]
theorem OrdAt.all (h : OrdAt K H v o rs l) (x : Nat) (hx : x < l.length) : x ∈ l := h.ids.mem_iff.mpr (List.mem_range.mpr (by rw [← h.lenL]; exact hx))
end
end HH
set_option maxHeartbeats 4000000
namespace HH
open PySem PySem.Spec PyProof.Rows L2 Evl
section
variable {K : PySem.W.Frag} {σ : L2.St} {H : Hp} {te t1 t2 : TE} {tt : TT} {l : List Nat} {j : Nat} {vs : List Nat}
end
end HH
set_option maxHeartbeats 4000000
namespace HH
open PySem PySem.Spec PyProof.Rows L2 Evl
section
variable {K : PySem.W.Frag} {σ : L2.St} {H H0 : Hp} {tf tx tv : TE} {D : Ends} {fa a : Addr} {as : List Addr} {t p : Nat → Int} {i : Nat} {d : Int}
end
end HH
set_option maxHeartbeats 4000000
namespace HH
open PySem PySem.Spec PyProof.Rows L2 Evl
section
variable {K : PySem.W.Frag} {σ : L2.St} {H : Hp} {te te2 : TE} {i j : Nat} {vs : List Nat} {a : Addr} {us : List V} {ps : HH.Row}
end
end HH
set_option maxHeartbeats 4000000
namespace HH
open PySem PySem.Spec PyProof.Rows L2 Evl
structure WanF (K : PySem.W.Frag) (H H' : Hp) (p : Addr) (q : Addr) (v' : V) (ot lp : Addr) (us : List V) (L : List Cow) (ds : List Deed) (n m : Nat) : Prop where
  ex : ExB p H H'
  bx : Bx H' p (n + m)
  q : H' q = some (.tup [v', .ref ot, .ref lp])
  row : RowAt K H' v' (rowsOf L)
  ord : FrzT H' ot (natsV (L.map (·.1)))
  lst : H' lp = some (.lst us)
  prs : All2 (DeedAt K H') us ds
end HH
set_option maxHeartbeats 4000000
namespace HH
open PySem PySem.Spec PyProof.Rows L2 Evl RZ
def Sm0 : PyData → Prop
  | .none => True
  | .bool _ => True
  | .int i => i.natAbs ≤ 10 ^ 30
  | _ => False
def SmK : Nat → PyData → Prop
  | 0, d => Sm0 d
  | k + 1, d => Sm0 d ∨ ∃ ds, (d = .list ds ∨ d = .tuple ds) ∧ ∀ e ∈ ds, SmK k e
theorem Sm0.at' {d : PyData} (h : Sm0 d) : ∃ v, atomOk 0 v d := by
  unfold Sm0 at h
  split at h
  · exact ⟨.non, True.intro⟩
  · exact ⟨.bl _, rfl⟩
  · exact ⟨.int _, rfl, h⟩
  · exact h.elim
theorem SmK.shw (K : PySem.W.Frag) : ∀ {k : Nat} {d : PyData}, SmK k d → (d.showable = true ∧ d.shown.length ≤ wtD d) ∧ Nice k d
  | 0, d, h => by
    obtain ⟨v, hv⟩ := Sm0.at' h
    exact ⟨atomOk.shw (by decide) hv, (atomOk.dp (K := K) (H := fun _ => none) hv).2⟩
  | k + 1, d, .inl h => by
    obtain ⟨v, hv⟩ := Sm0.at' h
    exact ⟨atomOk.shw (by decide) hv, nice_mono (atomOk.dp (K := K) (H := fun _ => none) hv).2 (Nat.zero_le _)⟩
  | k + 1, d, .inr ⟨ds, hd, h⟩ => by
    obtain ⟨q1, q2⟩ := shw_ds (ds := ds) fun e he => (SmK.shw K (h e he)).1
    have n : ∀ e ∈ ds, Nice k e := fun e he => (SmK.shw K (h e he)).2
    rcases hd with rfl | rfl
    · refine ⟨⟨by simp only [PyData.showable]; exact q1, ?_⟩, nice_list n⟩
      have e : (PyData.list ds).shown = listText (PyData.shownAll ds) := by simp only [PyData.shown]
      rw [e]
      have := listText_len_le (PyData.shownAll ds)
      simp only [wtD]
      omega
    · refine ⟨⟨by simp only [PyData.showable]; exact q1, ?_⟩, nice_tuple n⟩
      have e : (PyData.tuple ds).shown = tupleText (PyData.shownAll ds) := by simp only [PyData.shown]
      rw [e]
      have := tupleText_len_le (PyData.shownAll ds)
      simp only [wtD]
      omega
def NLst (K : PySem.W.Frag) (H : Hp) (v : V) : Prop := Flat v ∨ ∃ a xs, v = .ref a ∧ SqT K H a xs
def lenD : PyData → Nat
  | .list ds => ds.length
  | _ => 0
def AskIt (K : PySem.W.Frag) (H1 H2 : Hp) (v : V) (d : PyData) : Prop := Dp K H2 v d ∧ ((∃ a xs, v = .ref a ∧ H1 a = none ∧ H2 a = some (.lst xs) ∧ xs.length = lenD d) ∨ NLst K H2 v)
section
variable {K : PySem.W.Frag} {H H' H0 H1 H2 : Hp} {σ : L2.St} {te ta tb : TE} {D : Ends} {v : V} {d : PyData} {rs : HH.Row}
theorem NLst.ex (e : Ex H H') (h : NLst K H v) : NLst K H' v := h.imp id fun ⟨a, xs, h1, h2⟩ => ⟨a, xs, h1, ex_t e h2⟩
theorem AskIt.ex (e : Ex H2 H') (h : AskIt K H1 H2 v d) : AskIt K H1 H' v d := ⟨dp_ex e h.1, h.2.imp (fun ⟨a, xs, h1, h2, h3, h4⟩ => ⟨a, xs, h1, h2, e _ _ h3, h4⟩) (NLst.ex e)⟩
theorem AskIt.back (e : Ex H0 H1) (h : AskIt K H1 H2 v d) : AskIt K H0 H2 v d := ⟨h.1, h.2.imp (fun ⟨a, xs, h1, h2, h3, h4⟩ => ⟨a, xs, h1, fresh_back e h2, h3, h4⟩) id⟩
def flatD : V → PyData
  | .int i => .int i
  | .bl b => .bool b
  | _ => .none
end
def AskP (K : PySem.W.Frag) (H1 H3 : Hp) (q : Addr) (v : V) (d : PyData) : Prop := Dp K H3 v d ∧ ((∃ a xs, v = .ref a ∧ a ≠ q ∧ H1 a = none ∧ H3 a = some (.lst xs) ∧ xs.length = lenD d) ∨ NLst K H3 v)
def AskQ (K : PySem.W.Frag) (H1 : Hp) (q : Addr) (H2 : Hp) (v : V) (d : PyData) : Prop := ∀ H3, ExB q H2 H3 → AskP K H1 H3 q v d
section
variable {K : PySem.W.Frag} {H H' H0 H1 H2 : Hp} {σ : L2.St} {te ta tb : TE} {D : Ends} {v : V} {d : PyData} {rs : HH.Row} {q : Addr}
theorem AskIt.put {o : HO} (h : AskIt K H1 H2 v d) (hq : H2 q = none) : AskQ K H1 q (upd H2 q o) v d := fun H3 x => by
  have e : Ex H2 H3 := fun a u ha => x a u (ne_of_none ha hq) (by rw [upd_ne (ne_of_none ha hq)]; exact ha)
  refine ⟨dp_ex e h.1, h.2.imp (fun ⟨a, xs, h1, h2, h3, h4⟩ => ⟨a, xs, h1, ne_of_none h3 hq, h2, e _ _ h3, h4⟩) (NLst.ex e)⟩
theorem AskQ.x (h : AskQ K H1 q H2 v d) (x : ExB q H2 H') : AskQ K H1 q H' v d := fun H3 y => h H3 (x.trans y)
theorem AskQ.it (h : AskQ K H1 q H2 v d) : AskIt K H1 H2 v d := by
  obtain ⟨h1, h2⟩ := h H2 (ExB.refl _ _)
  exact ⟨h1, h2.imp (fun ⟨a, xs, g1, _, g2, g3, g4⟩ => ⟨a, xs, g1, g2, g3, g4⟩) id⟩
end
def tabD (L : List Cow) (n : Nat) : PyData := .list ((tab (L.map (·.1)) n n).map beastD)
structure Knows (rs : HH.Row) (L F : List Cow) (z : V) (i : Nat) : Prop where
  len : rs.length ≤ 30
  lt : i < rs.length
  tl : ∀ b ∈ rs, 0 ≤ b.2
  low : ∀ b ∈ rs, Low b
  last : ∀ M, Steps (tag 0 rs) M → NfR M → M = L
  first : ∀ M, FSteps (tag 0 rs) M → FfR M → M = F
  stop : ∀ (M : List Cow) (j : Nat), Steps (tag 0 (rs.take (i + 1))) M → Nf M → (M.map (·.1))[j]? = some i → stopAt (M.map (·.1)) j = z
  flat : Flat z
  dp : ∀ (K : PySem.W.Frag) H', Dp K H' z (flatD z)
section
variable {K : PySem.W.Frag} {H : Hp} {σ : L2.St} {te ta tb tc : TE} {v : V} {rs : HH.Row}
end
end HH
set_option maxHeartbeats 4000000
namespace HH
open PySem PySem.Spec PyProof.Rows L2 Evl RZ
section
variable {P : Addr → Prop} {K : PySem.W.Frag} {c k : Nat} {H : Hp}
end
end HH
namespace HH
open PySem PySem.Spec PyProof.Rows L2 Evl RZ
end HH
namespace HH
open PySem PySem.Spec PyProof.Rows L2 Evl RZ
end HH
set_option maxHeartbeats 4000000
namespace HH
open PySem PySem.Spec PyProof.Rows L2 Evl RZ
def LB (b : Int × Int) : Prop := -(10 ^ 13) ≤ b.1 ∧ b.1 ≤ 10 ^ 13 ∧ 0 ≤ b.2 ∧ b.2 ≤ 10 ^ 12
end HH
namespace HH
open PySem PySem.Spec PyProof.Rows L2 Evl RZ
end HH
set_option maxHeartbeats 4000000
namespace HH
open PySem PySem.Spec PyProof.Rows L2 Evl RZ
section
variable {K : PySem.W.Frag} {H H' H0 H1 H2 : Hp} {σ : L2.St} {te ta tb : TE} {D : Ends} {v : V} {d : PyData} {rs : HH.Row} {tz : TS}
def Spt (K : PySem.W.Frag) (H0 : Hp) (q : Addr) (n : Nat) (H : Hp) (v : V) : Prop := (∃ a xs, v = .ref a ∧ a ≠ q ∧ H0 a = none ∧ H a = some (.lst xs) ∧ xs.length ≤ n) ∨ NLst K H v
theorem NLst.mut {b : Addr} {xs ys : List V} (h : NLst K H v) (hb : H b = some (.lst xs)) : NLst K (upd H b (.lst ys)) v := h.imp id fun ⟨a, zs, h1, h2⟩ => ⟨a, zs, h1, ((ExB.refl b H).upd (o := .lst ys)).t hb h2⟩
theorem Spt.mut {b q : Addr} {n : Nat} {xs ys : List V} (h : Spt K H0 q n H v) (hb : H b = some (.lst xs)) (hy : ys.length ≤ n + 1) : Spt K H0 q (n + 1) (upd H b (.lst ys)) v := by
  rcases h with ⟨a, zs, rfl, h1, h2, h3, h4⟩ | h
  · by_cases e : a = b
    · subst e
      exact .inl ⟨a, ys, rfl, h1, h2, upd_same, hy⟩
    · exact .inl ⟨a, zs, rfl, h1, h2, by rw [upd_ne e]; exact h3, by omega⟩
  · exact .inr (h.mut hb)
theorem Spt.up {q : Addr} {n : Nat} (h : Spt K H0 q n H v) (e : Ex H H') : Spt K H0 q (n + 1) H' v := by
  rcases h with ⟨a, zs, rfl, h1, h2, h3, h4⟩ | h
  · exact .inl ⟨a, zs, rfl, h1, h2, e _ _ h3, by omega⟩
  · exact .inr (h.ex e)
theorem NLst.ty (h : NLst K H v) : ∃ T, TyN K H v T ∧ kitB T "list" = some false := by
  rcases h with h | ⟨a, xs, rfl, h⟩
  · unfold Flat at h
    split at h
    · exact ⟨"int", .int _, rfl⟩
    · exact ⟨"bool", .bl _, rfl⟩
    · exact ⟨"str", .str _, rfl⟩
    · exact ⟨"NoneType", .non, rfl⟩
    · exact h.elim
  · exact ⟨"tuple", .tup h, rfl⟩
end
end HH
set_option maxHeartbeats 4000000
namespace HH
open PySem PySem.Spec PyProof.Rows L2 Evl RZ
end HH
set_option maxHeartbeats 4000000
namespace HH
open PySem PySem.Spec PyProof.Rows L2 Evl RZ
theorem ListsF.exB {H0 H H' : Hp} {us : List V} {ll : List (List Nat)} {p : Addr} {o : HO} (h : ListsF H0 H us ll) (e : ExB p H H') (hp : H0 p = some o) : ListsF H0 H' us ll := ⟨h.len, fun i l hl => by
  obtain ⟨c, h1, h2, h3⟩ := h.at' i l hl
  exact ⟨c, h1, h2, e _ _ (Ne.symm (ne_of_none hp h2)) h3⟩⟩
end HH
set_option maxHeartbeats 4000000
namespace HH
open PySem PySem.Spec PyProof.Rows L2 Evl RZ
section
variable {K : PySem.W.Frag} {σ : L2.St} {H H' : Hp} {ta tb te te2 : TE} {t : TT} {v : V}
end
end HH
set_option maxHeartbeats 4000000
namespace HH
open PySem PySem.Spec PyProof.Rows L2 Evl RZ
section
variable {K : PySem.W.Frag} {H H' H0 H1 H2 : Hp} {σ : L2.St} {te ta tb tc : TE} {D : Ends} {v : V} {d : PyData} {rs : HH.Row} {tz : TS}
end
end HH
set_option maxHeartbeats 4000000
namespace HH
open PySem PySem.Spec PyProof.Rows L2 Evl
end HH
set_option maxHeartbeats 4000000
namespace HH
open PySem PySem.Spec PyProof.Rows L2 Evl
section
variable {K : PySem.W.Frag} {σ : L2.St} {H H' : Hp} {ta tb te to ts : TE} {v : V}
section
variable {rs : HH.Row} {L E Y M : List Cow} {d1 d2 : List Deed} {px : Nat → Nat} {tT tB tO tN t8 t9 : TE} {vT : V} {bk oT : Addr}
end
end
end HH
set_option maxHeartbeats 4000000
namespace HH
open PySem PySem.Spec PyProof.Rows L2 Evl RZ
theorem FrzT.exL {H H' : Hp} {p a : Addr} {xs ys : List V} (h : FrzT H a xs) (e : ExB p H H') (hp : H p = some (.lst ys)) : FrzT H' a xs := by
  obtain ⟨o, po, h⟩ := h
  refine ⟨o, po, e _ _ (fun z => ?_) h⟩
  rw [z, hp] at h
  cases h
section
variable {X : Cx} {es : List Expr} {t : TA} {pos : Pos}
end
end HH
namespace HH
open PySem PySem.Spec PyProof.Rows L2 Evl RZ
end HH
set_option maxHeartbeats 4000000
namespace HH
open PySem PySem.Spec PyProof.Rows L2 Evl RZ
structure KnownEnd (r e : HH.Row) (o : List Nat) (tb : List (List Nat)) : Prop where
  len : r.length ≤ 10
  tl : ∀ b ∈ r, 0 ≤ b.2
  end_ : ∃ L, Steps (tag 0 r) L ∧ NfR L ∧ rowsOf L = e ∧ L.map (·.1) = o
  nev : nevT r = tb
  prs : tabP (fun i k => !decide ((i + 1 + k) ∈ tb.getD i [])) r.length r.length = tab o r.length r.length
section
variable {K : PySem.W.Frag} {H H' H0 H1 H2 : Hp} {σ : L2.St} {te ta tb tc : TE} {D : Ends} {v : V} {d : PyData} {rs : HH.Row} {tz : TS}
def ListsA (K : PySem.W.Frag) (H : Hp) : List V → List (List Nat) → Prop := fun us ll => us.length = ll.length ∧ ∀ (i : Nat) (l : List Nat), ll[i]? = some l → ∃ p, us[i]? = some (.ref p) ∧ SqL K H p (natsV l)
theorem ListsA.ex {us : List V} {ll : List (List Nat)} (h : ListsA K H us ll) (e : Ex H H') : ListsA K H' us ll := ⟨h.1, fun i l hl => by
  obtain ⟨p, p1, p2⟩ := h.2 i l hl
  exact ⟨p, p1, ex_l e p2⟩⟩
theorem ListsA.cons {us : List V} {ll : List (List Nat)} {a : Addr} {l : List Nat} (h : ListsA K H us ll) (g : SqL K H a (natsV l)) : ListsA K H (.ref a :: us) (l :: ll) := ⟨by rw [List.length_cons, List.length_cons, h.1], fun i m hm => by
  cases i with
  | zero =>
    cases Option.some.inj hm
    exact ⟨a, rfl, g⟩
  | succ i => exact h.2 i m hm⟩
end
def dear : HH.Row := [(0, 10), (5, 1), (20, 2)]
abbrev Item := Int × HH.Row × List Nat × List (List Nat)
section
variable {K : PySem.W.Frag} {H H' H0 H1 H2 : Hp} {σ : L2.St} {te ta tb tc td : TE} {D : Ends} {v : V} {d : PyData} {rs : HH.Row} {tz : TS}
def ItemAt (K : PySem.W.Frag) (H : Hp) (x : V) (it : Item) : Prop := ∃ a ve oa ta, x = .ref a ∧ SqT K H a [.int it.1, ve, .ref oa, .ref ta] ∧ RowAt K H ve it.2.1 ∧ FrzT H oa (natsV it.2.2.1) ∧ TabAt K H ta it.2.2.2
theorem ItemAt.ex {x : V} {it : Item} (h : ItemAt K H x it) (e : Ex H H') : ItemAt K H' x it := by
  obtain ⟨a, ve, oa, ta, rfl, h1, h2, ⟨o, h3, h4⟩, h5⟩ := h
  exact ⟨a, ve, oa, ta, rfl, ex_t e h1, h2.ex e, ⟨o, h3, e _ _ h4⟩, h5.mono e⟩
end
end HH
set_option maxHeartbeats 4000000
namespace HH
open PySem PySem.Spec PyProof.Rows L2 Evl RZ
def manyP (spare toll many : Int) : Int := if spare ≤ 0 then 0 else if toll = 0 then many else if (spare - 1) / toll < many then (spare - 1) / toll else many
def lS (ls : List Lot) (i : Nat) : Int := (ls[i]?.getD (0, 0, 0)).1
def lT (ls : List Lot) (i : Nat) : Int := (ls[i]?.getD (0, 0, 0)).2.1
def lM (ls : List Lot) (i : Nat) : Int := (ls[i]?.getD (0, 0, 0)).2.2
def goL (st : List Int) (ls : List Lot) (w : Nat) : HH.Row → HH.Row → Int → Int → HH.Row × Int × Int
  | [], B, s, t => (((w : Int), lM ls w) :: B, s, t)
  | x :: r, B, s, t =>
    if manyP (s - st.getD x.1.toNat 0) (lT ls x.1.toNat) x.2 < x.2 then
      (if manyP (s - st.getD x.1.toNat 0) (lT ls x.1.toNat) x.2 > 0 then r.reverse ++ (x.1, x.2 - manyP (s - st.getD x.1.toNat 0) (lT ls x.1.toNat) x.2) :: ((w : Int), lM ls w) :: (x.1, manyP (s - st.getD x.1.toNat 0) (lT ls x.1.toNat) x.2) :: B else r.reverse ++ x :: ((w : Int), lM ls w) :: B,
        s - manyP (s - st.getD x.1.toNat 0) (lT ls x.1.toNat) x.2 * lT ls x.1.toNat, t + manyP (s - st.getD x.1.toNat 0) (lT ls x.1.toNat) x.2)
    else goL st ls w r (x :: B) (s - manyP (s - st.getD x.1.toNat 0) (lT ls x.1.toNat) x.2 * lT ls x.1.toNat) (t + manyP (s - st.getD x.1.toNat 0) (lT ls x.1.toNat) x.2)
def endG (ls : List Lot) : Nat → HH.Row × List Int × List Int
  | 0 => ([], ls.map (·.1), [])
  | w + 1 => let e := endG ls w; let R := goL e.2.1 ls w e.1.reverse [] (e.2.1.getD w 0) 0; (R.1, e.2.1.set w R.2.1, e.2.2 ++ [R.2.2])
def Fit (ls : List Lot) : Prop := ls.length ≤ 100 ∧ ∀ l ∈ ls, 0 ≤ l.2.1 ∧ l.2.1 < 1152921504606846976 ∧ 0 ≤ l.2.2 ∧ l.2.2 < 1152921504606846976
theorem lot_get {ls : List Lot} {i : Nat} (h : i < ls.length) : ls[i]? = some (lS ls i, lT ls i, lM ls i) := by
  unfold lS lT lM
  rw [List.getElem?_eq_getElem h]
  rfl
theorem Fit.at' {ls : List Lot} (h : Fit ls) {i : Nat} (hi : i < ls.length) : 0 ≤ lT ls i ∧ lT ls i < 1152921504606846976 ∧ 0 ≤ lM ls i ∧ lM ls i < 1152921504606846976 := h.2 _ (List.mem_of_getElem? (lot_get hi))
def Bel (w : Nat) (line : HH.Row) : Prop := ∀ x ∈ line, ∃ j : Nat, x.1 = (j : Int) ∧ j < w
theorem Bel.app {w : Nat} {a b : HH.Row} (h : Bel w a) (g : Bel w b) : Bel w (a ++ b) := fun x hx => (List.mem_append.mp hx).elim (h x) (g x)
theorem Bel.up {w : Nat} {a : HH.Row} (h : Bel w a) : Bel (w + 1) a := fun x hx => by
  obtain ⟨j, e, hj⟩ := h x hx
  exact ⟨j, e, by omega⟩
def goF (st : List Int) (ls : List Lot) (w : Nat) : List Nat → List Nat → Int → List Nat × Int
  | pre, [], s => (pre ++ [w], s)
  | pre, x :: r, s => if s > st.getD x 0 then goF st ls w (pre ++ [x]) r (s + lM ls x * lT ls x) else (pre ++ w :: x :: r, s)
def begG (ls : List Lot) (n : Nat) : Nat → List Nat × List Int
  | 0 => ([], ls.map (·.1))
  | k + 1 => let e := begG ls n k; let R := goF e.2 ls (n - (k + 1)) [] e.1 (e.2.getD (n - (k + 1)) 0); (R.1, e.2.set (n - (k + 1)) R.2)
def lastLots (ls : List Lot) : List Lot := (endG ls ls.length).1.map fun x => ((endG ls ls.length).2.1.getD x.1.toNat 0, lT ls x.1.toNat, x.2)
def firstLots (ls : List Lot) : List Lot := (begG ls ls.length ls.length).1.map fun x => ((begG ls ls.length ls.length).2.getD x 0, lT ls x, lM ls x)
end HH
set_option maxHeartbeats 4000000
namespace HH
open PySem PySem.Spec PyProof.Rows L2 Evl RZ
section
variable {K : PySem.W.Frag} {H H' H0 H1 H2 : Hp} {σ : L2.St} {te ta tb tc ti : TE} {D : Ends} {v : V} {ls : List Lot} {tz : TS}
theorem HerdAt.exL {q : Addr} {ys : List V} (h : HerdAt K H v ls) (e : ExB q H H') (hq : H q = some (.lst ys)) : HerdAt K H' v ls := by
  obtain ⟨a, us, h1, h2, h3⟩ := h
  exact ⟨a, us, h1, e.t hq h2, LotsA.exB' h3 e hq⟩
theorem ExB2.of {a b : Addr} (e : Ex H H') : ExB2 a b H H' := fun c o _ _ h => e c o h
theorem ExB2.trans {a b : Addr} (x : ExB2 a b H H1) (y : ExB2 a b H1 H2) : ExB2 a b H H2 := fun c o n1 n2 h => y c o n1 n2 (x c o n1 n2 h)
theorem ExB2.fst {a b : Addr} {o : HO} (x : ExB2 a b H H') : ExB2 a b H (upd H' a o) := fun c u n1 n2 h => by
  rw [upd_ne n1]
  exact x c u n1 n2 h
theorem ExB2.snd {a b : Addr} {o : HO} (x : ExB2 a b H H') : ExB2 a b H (upd H' b o) := fun c u n1 n2 h => by
  rw [upd_ne n2]
  exact x c u n1 n2 h
end
end HH
set_option maxHeartbeats 4000000
namespace HH
open PySem PySem.Spec PyProof.Rows L2 Evl RZ
theorem valV_put {κ : Type} [DecidableEq κ] {kvs : List (κ × V)} {k : κ} {v : V} : valV (putK kvs k v) k = some v := by
  unfold putK
  split
  · rename_i h
    rw [valV_map]
    rw [valV_any] at h
    obtain ⟨x, hx⟩ := Option.isSome_iff_exists.mp h
    rw [hx, Option.map_some, if_pos rfl]
  · rename_i h
    rw [valV_any] at h
    have : valV kvs k = none := by
      cases e : valV kvs k with
      | none => rfl
      | some x => rw [e] at h; exact absurd rfl h
    rw [valV_snoc k k v kvs this, if_pos rfl]
section
variable {K : PySem.W.Frag} {σ : L2.St} {H H' : Hp} {ta tb tc ti te : TE} {D : Ends} {tz : TS}
end
end HH
set_option maxHeartbeats 4000000
namespace HH
open PySem PySem.Spec PyProof.Rows L2 Evl RZ
end HH
set_option maxHeartbeats 4000000
namespace HH
open PySem PySem.Spec PyProof.Rows L2 Evl RZ
theorem MRun.cat {L0 L1 L2 : List Cow} {d1 d2 : List Deed} (r1 : MRun L0 L1 d1) (r2 : MRun L1 L2 d2) : MRun L0 L2 (d1 ++ d2) := by
  induction r2 with
  | nil => rw [List.append_nil]; exact r1
  | pass r h ih => rw [← List.append_assoc]; exact ih.pass h
  | fall r h ih => rw [← List.append_assoc]; exact ih.fall h
theorem MRun.maps {f : Nat → Nat} {L0 L : List Cow} {ds : List Deed} (r : MRun L0 L ds) : MRun (rlL f L0) (rlL f L) ds := by
  induction r with
  | nil => exact .nil
  | @pass pre post a b ds r h ih =>
    have e1 : rlL f (pre ++ a :: b :: post) = rlL f pre ++ rl f a :: rl f b :: rlL f post := by unfold rlL; rw [List.map_append]; rfl
    have e2 : rlL f (pre ++ (b.1, (b.2.1 - a.2.2, b.2.2)) :: a :: post) = rlL f pre ++ (f b.1, (b.2.1 - a.2.2, b.2.2)) :: rl f a :: rlL f post := by unfold rlL; rw [List.map_append]; rfl
    rw [e1] at ih
    rw [e2]
    have := ih.pass (a := rl f a) (b := rl f b) h
    rw [show (rlL f pre).length = pre.length from List.length_map ..] at this
    exact this
  | @fall pre post a b ds r h ih =>
    have e1 : rlL f (pre ++ a :: b :: post) = rlL f pre ++ rl f a :: rl f b :: rlL f post := by unfold rlL; rw [List.map_append]; rfl
    have e2 : rlL f (pre ++ b :: (a.1, (a.2.1 + b.2.2, a.2.2)) :: post) = rlL f pre ++ rl f b :: (f a.1, (a.2.1 + b.2.2, a.2.2)) :: rlL f post := by unfold rlL; rw [List.map_append]; rfl
    rw [e1] at ih
    rw [e2]
    have := ih.fall (a := rl f a) (b := rl f b) h
    rw [show (rlL f pre).length = pre.length from List.length_map ..] at this
    exact this
end HH
set_option maxHeartbeats 4000000
namespace HH
open PySem PySem.Spec PyProof.Rows L2 Evl RZ
structure EndsOf (rs : HH.Row) (E B : List Cow) : Prop where
  sE : Steps (tag 0 rs) E
  nE : Nf E
  sB : FSteps (tag 0 rs) B
  nB : Ff B
section
variable {K : PySem.W.Frag} {σ : L2.St} {H : Hp} {tl : TE}
end
end HH
set_option maxHeartbeats 4000000
namespace HH
open PySem PySem.Spec PyProof.Rows L2 Evl
end HH
set_option maxHeartbeats 4000000
namespace HH
open PySem PySem.Spec PyProof.Rows Srt SrtO
def IsInts (h : Heap) (v : Value) (ns : List Int) : Prop := ∃ a o its n, v = .ref a ∧ h.get? a = some o ∧ o.cls = .type "tuple" ∧ o.data = .seq its n ∧ IntsAre its.toList ns ∧ ns ≠ []
theorem IsInts.keeps {h h' : Heap} {v : Value} {ns : List Int} (p : IsInts h v ns) (k : ∀ b o, h.get? b = some o → o.cls = .type "tuple" → h'.get? b = some o) : IsInts h' v ns := by
  obtain ⟨a, o, t, n, e, ho, hc, hd, hi⟩ := p
  exact ⟨a, o, t, n, e, k _ _ ho hc, hc, hd, hi⟩
section
variable {prog : Program} {w : World} {A : Around} {E : Value → Shared → Prop} {s : Shared}
end
end HH
set_option maxHeartbeats 4000000
namespace HH
open PySem PySem.Spec PyProof.Rows Srt SrtO L2
open Classical in
def keyI (ns : List Int) : List Key := ns.map Sum.inl
theorem keyI_V (ns : List Int) : (keyI ns).map kV = ns.map V.int := by
  unfold keyI
  rw [List.map_map]
  rfl
end HH
set_option maxHeartbeats 4000000
namespace HH
open PySem PySem.Spec PyProof.Rows L2 Evl RZ
section
variable {K : PySem.W.Frag} {σ : L2.St} {H : Hp}
end
end HH
set_option maxHeartbeats 4000000
namespace HH
open PySem PySem.Spec PyProof.Rows L2 Evl RZ
end HH
set_option maxHeartbeats 4000000
namespace HH
open PySem PySem.Spec PyProof.Rows L2 Evl RZ
section
variable {K : PySem.W.Frag} {σ : L2.St} {H : Hp} {ta tb : TE}
theorem ev_inLP {q : Addr} {ws : List V} {qs : HH.Row} {x : V} {b : Int × Int} (h1 : Ev ta σ H x) (hb : BeastAt K H x b) (h2 : Ev tb σ H (.ref q)) (hq : SqL K H q ws) (bs : All2 (BeastAt K H) ws qs) : Ev (tOp (rInD K) ta tb) σ H (.bl (decide (b ∈ qs))) := fun H1 e1 Q k => by
  refine h1 H1 e1 _ fun H2 e2 => h2 H2 (e1.trans e2) _ fun H3 e3 => ?_
  have e13 := (e1.trans e2).trans e3
  refine ⟨beastD b, qs.map beastD, beast_dp (hb.ex e13), dp_pairs (ex_l e13 hq) ((all2_b bs).ex e13), (nice_beast _).shaped (by decide), (nice_pairs qs).shaped (by decide), ?_⟩
  rw [any_pairs]
  exact k H3 (e2.trans e3)
end
end HH
set_option maxHeartbeats 4000000
namespace HH
open PySem PySem.Spec PyProof.Rows L2 Evl RZ
section
variable {K : PySem.W.Frag} {σ : L2.St} {H : Hp} {ta tb te : TE} {x y : V}
end
def keyN (l : List Nat) : List Key := keyI (l.map fun (k : Nat) => (k : Int))
theorem keyN_V (l : List Nat) : (keyN l).map kV = natsV l := by
  unfold keyN
  rw [keyI_V, ← natsV_int]
theorem keyN_inj {l m : List Nat} (h : keyN l = keyN m) : l = m := by
  have h2 : natsV l = natsV m := by rw [← keyN_V, ← keyN_V, h]
  unfold natsV at h2
  exact List.map_inj_right (fun a b e => by injection e with e; omega) |>.mp h2
structure GoneD (K : PySem.W.Frag) (H : Hp) (rs : HH.Row) (kvs : List (List Key × V)) (G : List (List Nat)) : Prop where
  keys : kvs.map (·.1) = G.map keyN
  nd : G.Nodup
  rows : ∀ l ∈ G, ∃ v L ds, valV kvs (keyN l) = some v ∧ MRun (tag 0 rs) L ds ∧ L.map (·.1) = l ∧ RowAt K H v (rowsOf L)
theorem GoneD.ex {K : PySem.W.Frag} {H H' : Hp} {rs : HH.Row} {kvs : List (List Key × V)} {G : List (List Nat)} (h : GoneD K H rs kvs G) (e : Ex H H') : GoneD K H' rs kvs G := ⟨h.keys, h.nd, fun l hl => by
  obtain ⟨v, L, ds, h1, h2, h3, h4⟩ := h.rows l hl
  exact ⟨v, L, ds, h1, h2, h3, h4.ex e⟩⟩
theorem GoneD.has {K : PySem.W.Frag} {H : Hp} {rs : HH.Row} {kvs : List (List Key × V)} {G : List (List Nat)} (h : GoneD K H rs kvs G) (l : List Nat) : (valV kvs (keyN l)).isSome = decide (l ∈ G) := by
  by_cases c : l ∈ G
  · obtain ⟨v, _, _, h1, _⟩ := h.rows l c
    rw [h1, decide_eq_true c]
    rfl
  · rw [decide_eq_false c, ← valV_any]
    rw [List.any_eq_false]
    intro kv hkv z
    have z := of_decide_eq_true z
    have : kv.1 ∈ G.map keyN := by rw [← h.keys]; exact List.mem_map.mpr ⟨kv, hkv, rfl⟩
    obtain ⟨m, hm, em⟩ := List.mem_map.mp this
    rw [z] at em
    exact c (keyN_inj em ▸ hm)
theorem GoneD.put {K : PySem.W.Frag} {H : Hp} {rs : HH.Row} {kvs : List (List Key × V)} {G : List (List Nat)} (h : GoneD K H rs kvs G) {l : List Nat} (hl : l ∉ G) {v : V} {L : List Cow} {ds : List Deed} (r : MRun (tag 0 rs) L ds) (e : L.map (·.1) = l) (hv : RowAt K H v (rowsOf L)) : GoneD K H rs (putK kvs (keyN l) v) (G ++ [l]) := by
  have h0 : valV kvs (keyN l) = none := by
    have := h.has l
    rw [decide_eq_false hl] at this
    cases c : valV kvs (keyN l) with
    | none => rfl
    | some x => rw [c] at this; cases this
  rw [put_new h0]
  refine ⟨by rw [List.map_append, h.keys, List.map_append]; rfl, List.nodup_append.mpr ⟨h.nd, List.pairwise_singleton _ _, fun a ha b hb z => hl (by rw [← List.mem_singleton.mp hb, ← z]; exact ha)⟩, fun m hm => ?_⟩
  rw [valV_snoc _ _ _ _ h0]
  by_cases c : m = l
  · subst c
    rw [if_pos rfl]
    exact ⟨v, L, ds, rfl, r, e, hv⟩
  · rw [if_neg fun z => c (keyN_inj z)]
    rcases List.mem_append.mp hm with z | z
    · exact h.rows m z
    · exact absurd (List.mem_singleton.mp z) c
theorem GoneD.exL {K : PySem.W.Frag} {d : Addr} {H H' : Hp} {xs : List V} {rs : HH.Row} {kvs : List (List Key × V)} {G : List (List Nat)} (h : GoneD K H rs kvs G) (e : ExB d H H') (hd : H d = some (.lst xs)) : GoneD K H' rs kvs G := ⟨h.keys, h.nd, fun l hl => by
  obtain ⟨v, L, ds, h1, h2, h3, h4⟩ := h.rows l hl
  exact ⟨v, L, ds, h1, h2, h3, RowAt.exL h4 e hd⟩⟩
def TupsN (H : Hp) (us : List V) (ls : List (List Nat)) : Prop := All2 (fun v l => ∃ b, v = .ref b ∧ H b = some (.tup (natsV l))) us ls
theorem TupsN.exB {d : Addr} {H H' : Hp} {us : List V} {ls : List (List Nat)} (h : TupsN H us ls) (e : ExB d H H') (hd : ∀ xs, H d ≠ some (.tup xs)) : TupsN H' us ls := All2.mono (fun v l ⟨b, h1, h2⟩ => ⟨b, h1, e _ _ (fun z => hd _ (by rw [← z]; exact h2)) h2⟩) h
theorem TupsN.dp {K : PySem.W.Frag} {H : Hp} : ∀ {us : List V} {ls : List (List Nat)}, TupsN H us ls → DpAll K H us (ls.map natsD)
  | _, _, .nil => .nil
  | _, _, .cons ⟨b, h1, h2⟩ t => by rw [h1]; exact .cons (dp_nats (st_of h2)) (TupsN.dp t)
theorem TupsN.ex {H H' : Hp} {us : List V} {ls : List (List Nat)} (h : TupsN H us ls) (e : Ex H H') : TupsN H' us ls := All2.mono (fun v l ⟨b, h1, h2⟩ => ⟨b, h1, e _ _ h2⟩) h
theorem TupsN.at {H : Hp} {us : List V} {ls : List (List Nat)} (h : TupsN H us ls) {k : Nat} {l : List Nat} (hk : ls[k]? = some l) : ∃ b, us[k]? = some (.ref b) ∧ H b = some (.tup (natsV l)) := by
  have hl := (List.getElem?_eq_some_iff.mp hk).1
  have hu : us[k]? = some (us[k]'(by rw [All2.len h]; exact hl)) := List.getElem?_eq_getElem _
  obtain ⟨l', h1, b, h2, h3⟩ := All2.get h hu
  rw [hk] at h1
  cases h1
  exact ⟨b, by rw [hu, h2], h3⟩
section
variable {K : PySem.W.Frag} {σ : L2.St} {H : Hp} {ta tb te : TE}
end
end HH
set_option maxHeartbeats 4000000
namespace HH
open PySem PySem.Spec PyProof.Rows L2 Evl RZ
section
variable {rs : HH.Row} {E B : List Cow} {w : Nat}
end
end HH
set_option maxHeartbeats 4000000
namespace HH
open PySem PySem.Spec PyProof.Rows L2 Evl
abbrev KB := List (List Key × Addr × V)
def kvX (kb : KB) : List (List Key × V) := kb.map fun p => (p.1, p.2.2)
abbrev KX : KB → List (List Key × Addr × Value) → Prop := Paired fun p q => p.1 = q.1 ∧ p.2.1 = q.2.1 ∧ RelV p.2.2 q.2.2
theorem KX.val {kb : KB} {xs : List (List Key × Addr × Value)} (r : KX kb xs) (k : List Key) : RelO (valV (kvX kb) k) ((atKey xs k).map (·.2)) := by
  induction r with
  | nil => exact True.intro
  | @cons p q ps qs h t ih =>
    obtain ⟨h1, _, h2⟩ := h
    by_cases e : p.1 = k
    · have e' : q.1 = k := h1.symm.trans e
      have b : atKey (q :: qs) k = some q.2 := by simp [atKey, List.find?_cons, e']
      rw [b, show kvX (p :: ps) = (p.1, p.2.2) :: kvX ps from rfl, valV_pos (p := (p.1, p.2.2)) (r := kvX ps) e]
      exact h2
    · have e' : ¬ q.1 = k := fun z => e (h1.trans z)
      have b : atKey (q :: qs) k = atKey qs k := by simp [atKey, List.find?_cons, e']
      rw [b, show kvX (p :: ps) = (p.1, p.2.2) :: kvX ps from rfl, valV_neg (p := (p.1, p.2.2)) (r := kvX ps) e]
      exact ih
theorem KX.put {kb : KB} {xs : List (List Key × Addr × Value)} (r : KX kb xs) {k : List Key} {b : Addr} {y : V} {u : Value} (hn : valV (kvX kb) k = none) (ry : RelV y u) : KX (kb ++ [(k, b, y)]) (storedH xs k b u) := by
  have h0 := r.val k
  rw [hn] at h0
  have h1 : atKey xs k = none := by
    have := RelO.none_of h0
    cases c : atKey xs k with
    | none => rfl
    | some p => rw [c] at this; cases this
  rw [storedH_new h1]
  exact Paired.snoc r ⟨rfl, rfl, ry⟩
def dxP (P : Program) (w : World) (d : Addr) (kb : KB) (h : Heap) : Prop := kb.length ≤ sizeLine ∧ (d == sysModules) = false ∧ ∃ xs, KX kb xs ∧ ∃ o es ep, h.get? d = some o ∧ o.ExactDict ∧ o.data = .dict es ep ∧ es.toList = xs.map (entryOfKey (tupleKind (mixKind P w))) ∧ (xs.map (·.1)).Nodup
structure DX (P : Program) (w : World) (H : Hp) (d : Addr) (kb : KB) : Prop where
  ob : H d = some (.ext (dxP P w d kb))
  ks : ∀ p ∈ kb, FrzT H p.2.1 (p.1.map kV)
section
variable {P : Program} {w : World} {H : Hp} {h : Heap} {d b : Addr} {kb : KB}
theorem DX.ex {H' : Hp} (g : DX P w H d kb) (e : Ex H H') : DX P w H' d kb := ⟨e _ _ g.ob, fun p hp => (g.ks p hp).ex e⟩
theorem DX.exB {H' : Hp} {a : Addr} (g : DX P w H d kb) (e : ExB a H H') (hd : d ≠ a) (ha : ∀ o u, H a ≠ some (.frz o u)) : DX P w H' d kb := ⟨e _ _ hd g.ob, fun p hp => by
  obtain ⟨o, h1, h2⟩ := g.ks p hp
  exact ⟨o, h1, e _ _ (fun z => ha _ _ (by rw [← z]; exact h2)) h2⟩⟩
theorem keyF_of {ks : List Key} (ok : HOk P w H h) (e : FrzT H b (ks.map kV)) : (tupleKind (mixKind P w)).is h ks b := by
  obtain ⟨o0, _, e⟩ := e
  obtain ⟨_, _, its, r, o, h1, h2, n, h3⟩ := (show ObjOk P w H h b (.frz o0 (.tup (ks.map kV))) from ok b _ e)
  exact ⟨o, its.toArray, n, h1, h2, h3, by simpa using items_are r⟩
theorem DX.rd (ok : HOk P w H h) (e : DX P w H d kb) : kb.length ≤ sizeLine ∧ (d == sysModules) = false ∧ ∃ xs, KX kb xs ∧ h.DictOfH (tupleKind (mixKind P w)) d xs := by
  obtain ⟨⟨z, y, xs, r, o, es, ep, h1, h2, h3, h4, h5⟩, _⟩ := (show ObjOk P w H h d (.ext (dxP P w d kb)) from ok d _ e.ob)
  refine ⟨z, y, xs, r, o, es, ep, h1, h2, h3, h4, fun x hx => ?_, h5⟩
  have all : ∀ {l : KB} {m : List (List Key × Addr × Value)}, KX l m → (∀ p ∈ l, FrzT H p.2.1 (p.1.map kV)) → ∀ x ∈ m, (tupleKind (mixKind P w)).is h x.1 x.2.1 := by
    intro l m q
    induction q with
    | nil => intro _ x hx; exact nomatch hx
    | @cons p q ps qs hq t ih =>
      intro hk x hx
      rcases List.mem_cons.mp hx with e | hx
      · subst e
        have := keyF_of ok (hk p (List.mem_cons_self ..))
        rw [hq.1, hq.2.1] at this
        exact this
      · exact ih (fun p hp => hk p (List.mem_cons_of_mem _ hp)) x hx
  exact all r e.ks x hx
end
section
variable {X : Cx} {pins : List (Addr × Obj)} {σ : L2.St} {H : Hp} {s : Shared} {a : Addr} {y v : V} {u r : Value} {o : Option V} {A : Around} {E : Value → Shared → Prop}
end
section
variable {X : Cx} {o i e value : Expr} {pos pos' tpos : Pos} {td ty tv : TE}
end
end HH
set_option maxHeartbeats 4000000
namespace HH
open PySem PySem.Spec PyProof.Rows L2 Evl RZ
section
variable {K : PySem.W.Frag} {σ : L2.St} {H : Hp} {ta tb te : TE}
end
end HH
set_option maxHeartbeats 4000000
namespace HH
open PySem PySem.Spec PyProof.Rows L2 Evl RZ
section
variable {K : PySem.W.Frag} {σ : L2.St} {H : Hp} {ta tb te : TE} {x y : V}
end
def atD (d : Deed) : Nat := if d.1 then d.2 - 1 else d.2
theorem range_cut {A B : List Nat} {a b n : Nat} (h : List.range n = A ++ a :: b :: B) : swapL (List.range n) A.length = A ++ b :: a :: B := by
  rw [h, swap_split]
theorem deed_run {rs : HH.Row} {d : Deed} (ok : okD rs d) : ∃ L1, MRun (tag 0 rs) L1 [d] ∧ rowsOf L1 = doR rs d ∧ L1.map (·.1) = swapL (List.range rs.length) (atD d) ∧ atD d + 1 < rs.length := by
  have e : rowsOf (tag 0 rs) = rs := tag_snd 0 rs
  obtain ⟨w, p⟩ := d
  cases w with
  | true =>
    obtain ⟨h1, h2⟩ : p < rs.length ∧ letsN rs p = true := ok
    obtain ⟨pre, post, a, b, g1, g2, g3, g4⟩ := cow_pass (L := tag 0 rs) (p := p) (by rw [e]; exact h1) (by rw [e]; exact h2)
    subst g2
    have r : MRun (tag 0 rs) (pre ++ a :: b :: post) [] := by
      rw [← g1]
      exact .nil
    have ids : List.range rs.length = pre.map (·.1) ++ a.1 :: b.1 :: post.map (·.1) := by
      rw [← tag_ids, g1, List.map_append]
      rfl
    refine ⟨_, r.pass g3, ?_, ?_, ?_⟩
    · rw [← g4, e]
      rfl
    · have : atD (true, pre.length + 1) = (pre.map (·.1)).length := by
        rw [List.length_map]
        rfl
      rw [this, range_cut ids, List.map_append]
      rfl
    · show pre.length + 1 - 1 + 1 < _
      omega
  | false =>
    obtain ⟨h1, h2⟩ : p + 1 < rs.length ∧ fallsN rs p = true := ok
    obtain ⟨pre, post, a, b, g1, g2, g3, g4⟩ := cow_fall (L := tag 0 rs) (p := p) (by rw [e]; exact h1) (by rw [e]; exact h2)
    subst g2
    have r : MRun (tag 0 rs) (pre ++ a :: b :: post) [] := by
      rw [← g1]
      exact .nil
    have ids : List.range rs.length = pre.map (·.1) ++ a.1 :: b.1 :: post.map (·.1) := by
      rw [← tag_ids, g1, List.map_append]
      rfl
    refine ⟨_, r.fall g3, ?_, ?_, h1⟩
    · rw [← g4, e]
      rfl
    · have : atD (false, pre.length) = (pre.map (·.1)).length := by
        rw [List.length_map]
        rfl
      rw [this, range_cut ids, List.map_append]
      rfl
theorem near_ok {rs : HH.Row} {l : List Nat} {d : Deed} (h : d ∈ nearD rs l) : okD rs d ∧ bef l (atD d + 1) (atD d) = true := by
  unfold nearD at h
  rcases List.mem_append.mp h with h | h
  · obtain ⟨p, hp, rfl⟩ := List.mem_map.mp h
    obtain ⟨h1, h2⟩ := List.mem_filter.mp hp
    unfold fallB at h2
    obtain ⟨h3, h4⟩ := Bool.and_eq_true_iff.mp h2
    exact ⟨⟨of_decide_eq_true h3, h4⟩, (mem_adj.mp h1).2⟩
  · obtain ⟨p, hp, rfl⟩ := List.mem_map.mp h
    obtain ⟨h1, h2⟩ := List.mem_filter.mp hp
    obtain ⟨h3, h4⟩ := mem_adj.mp h1
    exact ⟨⟨by show p + 1 < rs.length; omega, h2⟩, h4⟩
theorem ixN_swap {n p x : Nat} (hp : p + 1 < n) (hx : x < n) : ixN (swapL (List.range n) p) x = if x = p then p + 1 else if x = p + 1 then p else x := by
  have e : List.range n = List.range p ++ p :: (p + 1) :: (List.range (n - p - 2)).map (· + (p + 2)) := by
    refine List.ext_getElem? fun i => ?_
    by_cases h1 : i < p
    · rw [List.getElem?_append_left (by rw [List.length_range]; exact h1), List.getElem?_range (by omega), List.getElem?_range h1]
    · rw [List.getElem?_append_right (by rw [List.length_range]; omega), List.length_range]
      by_cases h2 : i < n
      · rw [List.getElem?_range h2]
        rcases Nat.lt_or_ge i (p + 2) with h3 | h3
        · rcases (show i = p ∨ i = p + 1 by omega) with h4 | h4
          · rw [h4, Nat.sub_self]
            rfl
          · rw [h4, Nat.add_sub_cancel_left]
            rfl
        · obtain ⟨k, hk⟩ : ∃ k, i = p + 2 + k := ⟨i - (p + 2), by omega⟩
          rw [hk, show p + 2 + k - p = k + 2 by omega, List.getElem?_cons_succ, List.getElem?_cons_succ, List.getElem?_map, List.getElem?_range (by omega)]
          show some (p + 2 + k) = some (k + (p + 2))
          rw [Nat.add_comm]
      · rw [List.getElem?_eq_none (by rw [List.length_range]; omega), List.getElem?_eq_none (by simp; omega)]
  have s : swapL (List.range n) p = List.range p ++ (p + 1) :: p :: (List.range (n - p - 2)).map (· + (p + 2)) := by
    have := range_cut e
    rw [List.length_range] at this
    exact this
  unfold ixN
  rw [s]
  by_cases h1 : x < p
  · rw [List.getElem?_append_left (by rw [List.length_range]; exact h1), List.getElem?_range h1, if_neg (by omega), if_neg (by omega)]
    rfl
  · rw [List.getElem?_append_right (by rw [List.length_range]; omega), List.length_range]
    rcases Nat.lt_or_ge x (p + 2) with h3 | h3
    · rcases (show x = p ∨ x = p + 1 by omega) with h4 | h4
      · rw [h4, Nat.sub_self, if_pos rfl]
        rfl
      · rw [h4, Nat.add_sub_cancel_left, if_neg (by omega), if_pos rfl]
        rfl
    · obtain ⟨k, hk⟩ : ∃ k, x = p + 2 + k := ⟨x - (p + 2), by omega⟩
      rw [hk, show p + 2 + k - p = k + 2 by omega, List.getElem?_cons_succ, List.getElem?_cons_succ, List.getElem?_map, List.getElem?_range (by omega), if_neg (by omega), if_neg (by omega)]
      show k + (p + 2) = p + 2 + k
      omega
theorem tab_less {l s : List Nat} {n p : Nat} (ids : l.Perm (List.range n)) (hp : p + 1 < n) (hb : bef l (p + 1) p = true) (e : l = s.map (ixN (swapL (List.range n) p))) (hs : ∀ x ∈ s, x < n) : (tab s n n).length < (tab l n n).length := by
  have nd : l.Nodup := ids.nodup_iff.mpr List.nodup_range
  let τ : Nat → Nat := fun x => if x = p then p + 1 else if x = p + 1 then p else x
  have iτ : ∀ x, x < n → ixN (swapL (List.range n) p) x = τ x := fun x hx => ixN_swap hp hx
  have e2 : l = s.map τ := e.trans (List.map_congr_left fun x hx => iτ x (hs x hx))
  have inj : ∀ x y, τ x = τ y → x = y := fun x y h => by
    show x = y
    have h : (if x = p then p + 1 else if x = p + 1 then p else x) = (if y = p then p + 1 else if y = p + 1 then p else y) := h
    split at h <;> split at h <;> (try split at h) <;> (try split at h) <;> omega
  have bm : ∀ i j, bef l (τ i) (τ j) = bef s i j := fun i j => by
    rw [e2]
    exact Bool.eq_iff_iff.mpr (bef_map (fun x _ h => inj _ _ h) (fun x _ h => inj _ _ h))
  have τp : τ p = p + 1 := if_pos rfl
  have τq : τ (p + 1) = p := by
    show (if p + 1 = p then _ else if p + 1 = p + 1 then p else _) = _
    rw [if_neg (by omega), if_pos rfl]
  have sp : bef s (p + 1) p = false := by
    rw [← bm, τq, τp]
    exact bef_asym nd hb
  have few := nodup_few (l := ((p : Int), ((p + 1 : Nat) : Int)) :: (tab s n n).map fun x => ((τ x.1.toNat : Int), (τ x.2.toNat : Int))) (m := tab l n n) ?_ ?_
  · rw [List.length_cons, List.length_map] at few
    omega
  · refine List.nodup_cons.mpr ⟨fun z => ?_, ?_⟩
    · obtain ⟨x, hx, ex⟩ := List.mem_map.mp z
      obtain ⟨i, j, h1, h2, rfl, h3⟩ := mem_tab.mp hx
      have a1 : ((τ i : Nat) : Int) = (p : Int) := congrArg Prod.fst ex
      have a2 : ((τ j : Nat) : Int) = ((p + 1 : Nat) : Int) := congrArg Prod.snd ex
      have b1 : i = p + 1 := inj _ _ (by rw [τq]; omega)
      have b2 : j = p := inj _ _ (by rw [τp]; omega)
      omega
    · refine List.pairwise_map.mpr ((nd_tab s n n).imp_of_mem fun {x y} hx hy hn ex => hn ?_)
      obtain ⟨i, j, h1, h2, rfl, h3⟩ := mem_tab.mp hx
      obtain ⟨i', j', h1', h2', rfl, h3'⟩ := mem_tab.mp hy
      have a1 : ((τ i : Nat) : Int) = ((τ i' : Nat) : Int) := congrArg Prod.fst ex
      have a2 : ((τ j : Nat) : Int) = ((τ j' : Nat) : Int) := congrArg Prod.snd ex
      have b1 : i = i' := inj _ _ (by omega)
      have b2 : j = j' := inj _ _ (by omega)
      rw [b1, b2]
  · intro x hx
    rcases List.mem_cons.mp hx with h | h
    · rw [h]
      exact mem_tab.mpr ⟨p, p + 1, by omega, hp, rfl, hb⟩
    · obtain ⟨y, hy, rfl⟩ := List.mem_map.mp h
      obtain ⟨i, j, h1, h2, rfl, h3⟩ := mem_tab.mp hy
      have ne : ¬ (i = p ∧ j = p + 1) := fun z => by
        rw [z.1, z.2, sp] at h3
        cases h3
      refine mem_tab.mpr ⟨τ i, τ j, ?_, ?_, rfl, by rw [bm]; exact h3⟩
      · show (if i = p then p + 1 else if i = p + 1 then p else i) < (if j = p then p + 1 else if j = p + 1 then p else j)
        split <;> split <;> (try split) <;> (try split) <;> omega
      · show (if j = p then p + 1 else if j = p + 1 then p else j) < n
        split <;> (try split) <;> omega
end HH
set_option maxHeartbeats 4000000
namespace HH
open PySem PySem.Spec PyProof.Rows L2 Evl RZ
def ToldR (H : Hp) : Option (Int × Int) → V → Prop
  | none, v => v = .non
  | some pr, v => ∃ q T : Addr, v = .ref q ∧ H q = some (.lst [.ref T]) ∧ H T = some (.tup [.int pr.1, .int pr.2])
theorem ToldR.ex {H H' : Hp} (e : Ex H H') : ∀ {b : Option (Int × Int)} {v : V}, ToldR H b v → ToldR H' b v
  | none, _, h => h
  | some pr, _, ⟨q, T, h1, h2, h3⟩ => ⟨q, T, h1, e _ _ h2, e _ _ h3⟩
theorem ToldR.upd {H : Hp} {D : Addr} {xs : List V} {o : HO} (hD : H D = some (.lst xs)) : ∀ {b : Option (Int × Int)} {v : V}, v ≠ .ref D → ToldR H b v → ToldR (upd H D o) b v
  | none, _, _, h => h
  | some pr, _, n, ⟨q, T, h1, h2, h3⟩ => ⟨q, T, h1, by rw [upd_ne (fun z => n (by rw [h1, z]))]; exact h2, by rw [upd_ne (fun z => by rw [z, hD] at h3; cases h3)]; exact h3⟩
section
variable {K : PySem.W.Frag} {σ : L2.St} {H : Hp} {ta tb te : TE}
end
end HH
set_option maxHeartbeats 4000000
namespace HH
open PySem PySem.Spec PyProof.Rows L2 Evl RZ
section
variable {K : PySem.W.Frag} {σ : L2.St} {H : Hp} {te : TE} {v : V} {rs R : HH.Row} {L : List Cow} {X : XK}
end
end HH
set_option maxHeartbeats 4000000
namespace HH
open PySem PySem.Spec PyProof.Rows L2 Evl RZ
end HH
set_option maxHeartbeats 4000000
namespace HH
open PySem PySem.Spec PyProof.Rows L2 Evl RZ
structure Strong (E : List Cow) (st : Int) (k : Nat) (left : Int) : Prop where
  s : Steps (E ++ [(E.length, (st, 2))]) (E.take (E.length - k) ++ (E.length, (left, 2)) :: E.drop (E.length - k))
  b : ∀ b r, E.drop (E.length - k) = b :: r → b.2.1 < left
end HH
set_option maxHeartbeats 4000000
namespace HH
open PySem PySem.Spec PyProof.Rows L2 Evl RZ
section
variable {X : Cx} {σ : L2.St} {H : Hp}
end
end HH
set_option maxHeartbeats 4000000
namespace HH
open PySem PySem.Spec PyProof.Rows L2 Evl RZ
section
variable {K : PySem.W.Frag} {σ : L2.St} {H : Hp} {te ta tb t2 : TE} {D : Ends} {tz : TS}
end
section
variable {K : PySem.W.Frag} {σ : L2.St} {H : Hp} {te ta tb t2 : TE} {D : Ends} {tz : TS}
end
end HH
set_option maxHeartbeats 4000000
namespace HH
open PySem PySem.Spec PyProof.Rows L2 Evl RZ
end HH
set_option maxHeartbeats 4000000
namespace HH
open PySem PySem.Spec PyProof.Rows L2 Evl RZ
def expL (ls : List Lot) (st : List Int) (line : HH.Row) : List Cow := line.flatMap fun x => List.replicate x.2.toNat (x.1.toNat, (st.getD x.1.toNat 0, lT ls x.1.toNat))
def blkL (ls : List Lot) (w : Nat) (s : Int) : List Cow := List.replicate (lM ls w).toNat (w, (s, lT ls w))
def PosR (line : HH.Row) : Prop := ∀ x ∈ line, 1 ≤ x.2
def cntR (line : HH.Row) : Int := (line.map (·.2)).sum
structure GoOk (ls : List Lot) (st : List Int) (w : Nat) (r B : HH.Row) (s t : Int) (R : HH.Row × Int × Int) : Prop where
  s1 : Steps (expL ls st r.reverse ++ blkL ls w s ++ expL ls st B) (expL ls (st.set w R.2.1) R.1)
  cut : ∃ F B', R.1 = F ++ ((w : Int), lM ls w) :: B' ∧ Bel w F ∧ Bel w B' ∧ PosR F ∧ PosR B' ∧ expL ls st F ++ expL ls st B' = expL ls st r.reverse ++ expL ls st B ∧ cntR B' = cntR B + (R.2.2 - t)
end HH
set_option maxHeartbeats 4000000
namespace HH
open PySem PySem.Spec PyProof.Rows L2 Evl RZ
def sprC (ls : List Lot) (w : Nat) : List Cow := (List.range w).flatMap fun u => List.replicate (lM ls u).toNat (u, (lS ls u, lT ls u))
def lowB (X : List Cow) (p u : Nat) : Nat := ((X.drop (p + 1)).filter fun c => decide (c.1 < u)).length
structure EndOk (ls : List Lot) (w : Nat) : Prop where
  s1 : Steps (sprC ls w) (expL ls (endG ls w).2.1 (endG ls w).1)
  nf : NfR (expL ls (endG ls w).2.1 (endG ls w).1)
  pos : PosR (endG ls w).1
  low : ∀ (p u : Nat) (c : Cow), (expL ls (endG ls w).2.1 (endG ls w).1)[p]? = some c → c.1 = u → (lowB (expL ls (endG ls w).2.1 (endG ls w).1) p u : Int) = (endG ls w).2.2.getD u 0
  st : ∀ u, w ≤ u → u < ls.length → (endG ls w).2.1.getD u 0 = lS ls u
end HH
set_option maxHeartbeats 4000000
namespace HH
open PySem PySem.Spec PyProof.Rows L2 Evl RZ
end HH
set_option maxHeartbeats 4000000
namespace HH
open PySem PySem.Spec PyProof.Rows L2 Evl RZ
end HH
set_option maxHeartbeats 4000000
namespace HH
open PySem PySem.Spec PyProof.Rows L2 Evl RZ
end HH
set_option maxHeartbeats 4000000
namespace HH
open PySem PySem.Spec PyProof.Rows L2 Evl RZ
end HH
set_option maxHeartbeats 4000000
namespace HH
open PySem PySem.Spec PyProof.Rows L2 Evl RZ
section
variable {K : PySem.W.Frag} {H0 H H' : Hp} {σ : L2.St} {te ta tb : TE} {D : Ends} {tz tu : TS} {g : TG}
end
end HH
set_option maxHeartbeats 4000000
namespace HH
open PySem PySem.Spec PyProof.Rows L2 Evl RZ
section
variable {K : PySem.W.Frag} {H : Hp} {σ : L2.St} {te ta tb : TE}
end
end HH
set_option maxHeartbeats 4000000
namespace HH
open PySem PySem.Spec PyProof.Rows L2 Evl RZ
def Ex3 (a b c : Addr) (H H' : Hp) : Prop := ∀ x o, x ≠ a → x ≠ b → x ≠ c → H x = some o → H' x = some o
section
variable {a b c : Addr} {H0 H H1 H' : Hp}
theorem Ex3.trans (x : Ex3 a b c H H1) (y : Ex3 a b c H1 H') : Ex3 a b c H H' := fun d o n1 n2 n3 h => y d o n1 n2 n3 (x d o n1 n2 n3 h)
theorem Ex3.of (e : Ex H H') : Ex3 a b c H H' := fun d o _ _ _ h => e d o h
theorem Ex3.u1 {o : HO} (x : Ex3 a b c H H') : Ex3 a b c H (upd H' a o) := fun d u n1 n2 n3 h => by
  rw [upd_ne n1]
  exact x d u n1 n2 n3 h
theorem Ex3.u2 {o : HO} (x : Ex3 a b c H H') : Ex3 a b c H (upd H' b o) := fun d u n1 n2 n3 h => by
  rw [upd_ne n2]
  exact x d u n1 n2 n3 h
end
section
variable {K : PySem.W.Frag} {H H' : Hp} {σ : L2.St} {ta tb tc ti : TE} {D : Ends} {tz : TS}
end
end HH
set_option maxHeartbeats 4000000
namespace HH
open PySem PySem.Spec PyProof.Rows L2 Evl RZ
def ListOf (H : Hp) (u : V) (xs : List V) : Prop := ∃ p, u = .ref p ∧ H p = some (.lst xs)
theorem ListOf.ex {H H' : Hp} {u : V} {xs : List V} (h : ListOf H u xs) (e : Ex H H') : ListOf H' u xs := let ⟨p, h1, h2⟩ := h; ⟨p, h1, e _ _ h2⟩
section
variable {K : PySem.W.Frag} {H H' : Hp} {σ : L2.St} {te ta tb : TE} {tr : TA}
end
section
variable {H : Hp} {σ : L2.St} {te : TE} {ta : TA} {D : Ends} {tz : TS} {g : TG}
end
end HH
set_option maxHeartbeats 4000000
namespace HH
open PySem PySem.Spec PyProof.Rows L2 Evl RZ
theorem tag0_fst (rs : HH.Row) : (tag 0 rs).map (·.1) = List.range rs.length := by
  rw [tag_fst]
  have e : (fun x => 0 + x) = (id : Nat → Nat) := by
    funext x
    exact Nat.zero_add x
  rw [e, List.map_id]
theorem ids_low {rs : HH.Row} {E : List Cow} (s : Steps (tag 0 rs) E) : (∀ x ∈ E.map (·.1), x < rs.length) ∧ E.length = rs.length := by
  have h := s.ids
  rw [tag0_fst] at h
  refine ⟨fun x hx => List.mem_range.mp (h.mem_iff.mp hx), ?_⟩
  have := h.length_eq
  rw [List.length_map, List.length_range] at this
  exact this
section
variable {ls : List Lot} {E : List Cow} {ps : HH.Row}
end
end HH
set_option maxHeartbeats 4000000
namespace HH
open PySem PySem.Spec PyProof.Rows L2 Evl RZ
def Mild (ls : List Lot) : Prop := ls.length ≤ 100 ∧ PosL ls ∧ (∀ b ∈ sprR ls, 0 ≤ b.2 ∧ b.2 < 1152921504606846976) ∧ (sprR ls).length < 1152921504606846976
structure HerdE (ls A Z : List Lot) (E B : List Cow) : Prop where
  sE : Steps (tag 0 (sprR ls)) E
  nE : Nf E
  sB : FSteps (tag 0 (sprR ls)) B
  nB : Ff B
  eA : A = packL (ones (rowsOf E))
  eZ : Z = packL (ones (rowsOf B))
  lA : A = packL (lastLots ls)
  lZ : Z = packL (firstLots ls)
section
variable {ls A Z : List Lot} {E B : List Cow}
theorem HerdE.sprA (e : HerdE ls A Z E B) : sprR A = rowsOf E := by rw [e.eA, packL_spr (ones_pos _), ones_spr]
theorem HerdE.sprZ (e : HerdE ls A Z E B) : sprR Z = rowsOf B := by rw [e.eZ, packL_spr (ones_pos _), ones_spr]
theorem HerdE.posA (e : HerdE ls A Z E B) : PosL A := by rw [e.eA]; exact packL_pos (ones_pos _)
theorem HerdE.posZ (e : HerdE ls A Z E B) : PosL Z := by rw [e.eZ]; exact packL_pos (ones_pos _)
theorem HerdE.lenE (e : HerdE ls A Z E B) : (rowsOf E).length = (sprR ls).length := by
  unfold rowsOf
  rw [List.length_map]
  exact (ids_low e.sE).2
theorem HerdE.lenB (e : HerdE ls A Z E B) : (rowsOf B).length = (sprR ls).length := by
  unfold rowsOf
  rw [List.length_map, e.sB.len]
  have h2 := congrArg List.length (tag0_fst (sprR ls))
  rw [List.length_map, List.length_range] at h2
  exact h2
end
section
variable {ls A Z : List Lot} {E B : List Cow}
end
end HH
set_option maxHeartbeats 4000000
namespace HH
open PySem PySem.Spec PyProof.Rows L2 Evl RZ
structure LikeL (c d : Int) (m : Nat) (ls ls' : List Lot) : Prop where
  l1 : m ≤ ls.length
  l2 : m ≤ ls'.length
  s : ∀ j, j < m → lS ls' j = c * lS ls j + d
  t : ∀ j, j < m → lT ls' j = c * lT ls j ∧ 0 ≤ lT ls j
def cntL (ls : List Lot) : Int := (ls.map (·.2.2)).sum
theorem cnt_spr : ∀ {ls : List Lot}, PosL ls → cntL ls = ((sprR ls).length : Int)
  | [], _ => rfl
  | l :: ls, h => by
    have ih := cnt_spr (ls := ls) fun x hx => h x (List.mem_cons_of_mem _ hx)
    have hl := h l (List.mem_cons_self ..)
    have e : sprR (l :: ls) = List.replicate l.2.2.toNat (l.1, l.2.1) ++ sprR ls := by
      unfold sprR
      rw [List.flatMap_cons]
    rw [e, List.length_append, List.length_replicate]
    unfold cntL at ih ⊢
    rw [List.map_cons, List.sum_cons, ih]
    omega
section
variable {ls A Z : List Lot} {E B : List Cow}
theorem HerdE.many (h : Mild ls) (e : HerdE ls A Z E B) : cntL A = cntL ls ∧ cntL Z = cntL ls := by
  rw [cnt_spr h.2.1, cnt_spr e.posA, cnt_spr e.posZ, e.sprA, e.sprZ, e.lenE, e.lenB]
  exact ⟨rfl, rfl⟩
end
end HH
set_option maxHeartbeats 4000000
namespace HH
open PySem PySem.Spec PyProof.Rows L2 Evl RZ
def MixSw (z TI TO i1 i2 a b : Addr) (i : Nat) (h : Heap) : Prop := IsZip h z TI TO .none ∧ IsTupOf2 h TI (.ref i1) (.ref i2) ∧ (∃ x y, IsTupOf2 h TO x y) ∧ h.IsTupleIter i1 a i ∧ h.IsListIter i2 b i
theorem MixSw.objs {z TI TO i1 i2 a b : Addr} {i : Nat} {h : Heap} (m : MixSw z TI TO i1 i2 a b i h) : ∀ c ∈ [z, TI, TO, i1, i2], ∃ ob, h.get? c = some ob ∧ ∀ v, ob.data ≠ .cell v := fun c hc => by
  obtain ⟨m1, m2, ⟨_, _, m3⟩, ⟨p1, g1, _, d1⟩, ⟨p2, g2, _, d2⟩⟩ := m
  rcases five hc with rfl | rfl | rfl | rfl | rfl
  · exact ⟨_, m1, fun v q => by cases q⟩
  · exact ⟨_, m2, fun v q => by cases q⟩
  · exact ⟨_, m3, fun v q => by cases q⟩
  · exact ⟨p1, g1, fun v q => by rw [d1] at q; cases q⟩
  · exact ⟨p2, g2, fun v q => by rw [d2] at q; cases q⟩
end HH
set_option maxHeartbeats 4000000
namespace HH
open PySem PySem.Spec PyProof.Rows L2 Evl RZ
section
variable {K : PySem.W.Frag} {H H' H0 H1 H2 : Hp} {σ : L2.St} {te ta tb tc ti : TE} {tr : TA} {D : Ends} {v : V} {ls ms : List Lot} {tz : TS}
end
end HH
set_option maxHeartbeats 4000000
namespace HH
open PySem PySem.Spec PyProof.Rows L2 Evl RZ
section
variable {K : PySem.W.Frag} {σ : L2.St} {p : Addr} {ta tb te ti : TE} {tr : TA} {D : Ends} {tz tu : TS} {g : TG} {H H' : Hp} {v : V} {ls ms : List Lot}
end
end HH
set_option maxHeartbeats 4000000
namespace HH
open PySem PySem.Spec PyProof.Rows L2 Evl RZ
section
variable {K : PySem.W.Frag} {σ : L2.St} {p : Addr} {ta tb tc te ti : TE} {tr : TA} {D : Ends} {tz tu : TS} {g : TG} {H H' : Hp} {v : V} {rs : HH.Row}
end
end HH
set_option maxHeartbeats 4000000
namespace HH
open PySem PySem.Spec PyProof.Rows L2 Evl RZ
end HH
set_option maxHeartbeats 4000000
namespace HH
open PySem PySem.Spec PyProof.Rows L2 Evl RZ
section
variable {K : PySem.W.Frag} {σ : L2.St} {te ta : TE} {tr : TA} {H H' : Hp} {v : V} {rs : HH.Row}
theorem LastAt.up {q D : Addr} {L : List Cow} {xs ys : List V} (h : LastAt K H q L) (hD : H D = some (.lst xs)) : LastAt K (upd H D (.lst ys)) q L := by
  obtain ⟨v, ot, h1, h2, h3⟩ := h.ex
  have x : ExB D H (upd H D (.lst ys)) := (ExB.refl _ _).upd
  exact ⟨v, ot, x _ _ (fun z => by rw [z, hD] at h1; cases h1) h1, h2.exL x hD, x _ _ (fun z => by rw [z, hD] at h3; cases h3) h3⟩
end
end HH
set_option maxHeartbeats 4000000
namespace HH
open PySem PySem.Spec PyProof.Rows L2 Evl RZ
section
variable {K : PySem.W.Frag} {σ : L2.St} {te ta tb : TE} {tr : TA} {H H' : Hp} {v : V} {rs : HH.Row} {n : Nat}
end
end HH
set_option maxHeartbeats 4000000
namespace HT
open PySem PySem.Spec PyProof.Rows
section
variable {prog : Program} {w : World} {A : Around} {E : Value → Shared → Prop} {s : Shared}
theorem adjust_back (n : Nat) : Builtin.Slice.sliceAdjust none none (-1) (n : Int) = ((n : Int) - 1, -1) := by
  unfold Builtin.Slice.sliceAdjust
  rfl
theorem places_back (n : Nat) : Builtin.Slice.slicePlaces ((n : Int) - 1) (-1) (-1) = n := by
  unfold Builtin.Slice.slicePlaces
  rw [if_neg (by omega), show (-(-1) : Int) = 1 by omega, Int.ediv_one]
  split <;> omega
theorem sliceApplied_back {sl : Addr} {vl vu vs : Value} {n : Nat} {Q : Int × Int × Nat → Shared → Prop} (hs : s.heap.IsSliceOf sl vl vu vs) (pl : IsPart vl none) (pu : IsPart vu none) (ps : IsPart vs (some (-1)))
    (h : Q ((n : Int) - 1, -1, n) s) : wpAny (model prog w) A (Builtin.Slice.sliceApplied (.ref sl) (pure (n : Int))) Q E s := by
  obtain ⟨os, hos, hcs, hds⟩ := id hs
  unfold Builtin.Slice.sliceApplied Builtin.Slice.sliceFields
  refine wpAny_bind (wpAny_bind (wpAny_field hos hds (x := vl) rfl (wpAny_bind (wpAny_field hos hds (x := vu) rfl (wpAny_bind (wpAny_field hos hds (x := vs) rfl (wpAny_pure ?_)))))))
  refine wpAny_bind (slicePart_ ps ?_)
  show wpAny _ _ (if ((-1 : Int) == 0) = true then _ else _) _ _ s
  rw [if_neg (by decide)]
  refine wpAny_bind (slicePart_ pl (wpAny_bind (slicePart_ pu (wpAny_bind (wpAny_pure ?_)))))
  show wpAny _ _ (match Builtin.Slice.sliceAdjust none none (-1) (n : Int) with | (lo, hi) => pure (lo, (-1 : Int), Builtin.Slice.slicePlaces lo hi (-1))) _ _ s
  rw [adjust_back n]
  show wpAny _ _ (pure ((n : Int) - 1, (-1 : Int), Builtin.Slice.slicePlaces ((n : Int) - 1) (-1) (-1))) _ _ s
  rw [places_back]
  exact wpAny_pure h
theorem fm_back (xs : List Value) : ∀ k, k ≤ xs.length → ((List.range k).filterMap fun m => xs[xs.length - 1 - m]?) = xs.reverse.take k
  | 0, _ => rfl
  | k + 1, h => by
    rw [List.range_succ, List.filterMap_append, fm_back xs k (by omega), List.take_add_one, List.getElem?_reverse (by omega)]
    congr 1
theorem fm_congr {α β : Type} {f g : α → Option β} : ∀ l : List α, (∀ x ∈ l, f x = g x) → l.filterMap f = l.filterMap g
  | [], _ => rfl
  | x :: l, h => by
    rw [List.filterMap_cons, List.filterMap_cons, h x (List.mem_cons_self ..), fm_congr l fun y hy => h y (List.mem_cons_of_mem _ hy)]
theorem pick_back (xs : Array Value) : ((List.range xs.size).filterMap fun (m : Nat) => xs[((xs.size : Int) - 1 + (m : Int) * (-1)).toNat]?).toArray = xs.toList.reverse.toArray := by
  have e : ∀ m ∈ List.range xs.size, (fun (m : Nat) => xs[((xs.size : Int) - 1 + (m : Int) * (-1)).toNat]?) m = (fun m => xs.toList[xs.toList.length - 1 - m]?) m := fun m hm => by
    have hm := List.mem_range.mp hm
    have : ((xs.size : Int) - 1 + (m : Int) * (-1)).toNat = xs.size - 1 - m := by omega
    show xs[((xs.size : Int) - 1 + (m : Int) * (-1)).toNat]? = _
    rw [this]
    simp
  rw [fm_congr _ e, ← Array.length_toList, fm_back _ _ (Nat.le_refl _), List.take_of_length_le (by rw [List.length_reverse]; exact Nat.le_refl _)]
theorem getItem_tuple_back {t sl : Addr} {items : Array Value} {vl vu vs : Value} {Q : Value → Shared → Prop} (ht : IsTup s.heap t items) (hs : s.heap.IsSliceOf sl vl vu vs) (pl : IsPart vl none) (pu : IsPart vu none) (ps : IsPart vs (some (-1)))
    (h : Q (.ref s.heap.objs.size) { s with heap := s.heap.push { cls := .type "tuple", data := .seq items.toList.reverse.toArray } })
    (hsz : items.size ≤ sizeLine) : wpAny (model prog w) A (getItem (.ref t) (.ref sl)) Q E s := by
  have htake : sizeOk (.seq items.toList.reverse.toArray) := by
    show items.toList.reverse.toArray.size ≤ sizeLine
    rw [List.size_toArray, List.length_reverse, Array.length_toList]
    exact hsz
  obtain ⟨os, hos, hcs, hds⟩ := id hs
  have hTs : s.TypeIs (.ref sl) "slice" := ⟨os, hos, hcs⟩
  unfold getItem
  try with_reducible refine wpAny_holding ?_
  first | refine wpAny_bind (wpAny_pure ?_) | skip
  refine wpAny_bind (wpAny_sequenceKey ht.typeIs (by decide) ?_)
  refine wpAny_bind (wpAny_callSpecial?_slot (name := Str.ofString "__getitem__") ht.typeIs PyProof.Rows.slot_tuple_getitem
    (wpAny_call_entry PyProof.Rows.slot_tuple_getitem ht.typeIs entry_tuple_getitem ?_ (args_tuple_getitem _ _)))
  show wpAny _ _ (Builtin.Tuple.tupleItemsOf (.ref t) >>= _) _ _ s
  refine wpAny_bind (tupleItemsOf_ ht ?_)
  refine wpAny_bind (wpAny_typeOf hTs ?_)
  rw [if_pos (by decide)]
  refine wpAny_bind (sliceApplied_back hs pl pu ps ?_)
  have hno : ¬ ((((items.size : Nat) : Int) - 1 == 0 && (-1 : Int) == 1 && items.size == items.size) = true) := by simp
  show wpAny _ _ (if (((items.size : Nat) : Int) - 1 == 0 && (-1 : Int) == 1 && items.size == items.size) = true then _ else _) _ _ s
  rw [if_neg hno, pick_back]
  first
    | exact wpAny_bind (m := Builtin.Tuple.tupleExact _) (wpAny_newObj_type (wpAny_pure ⟨_, rfl, wpAny_pure h⟩) htake)
    | exact wpAny_bind (m := Builtin.Tuple.tupleExact _) (wpAny_newObj_type (wpAny_bind (wpAny_pure (wpAny_pure ⟨_, rfl, wpAny_pure h⟩))) htake)
    | exact wpAny_bind (wpAny_bind (m := Builtin.Tuple.tupleExact _) (wpAny_newObj_type (wpAny_pure (wpAny_pure ⟨_, rfl, wpAny_pure h⟩)) htake))
    | exact wpAny_bind (wpAny_bind (m := Builtin.Tuple.tupleExact _) (wpAny_newObj_type (wpAny_pure ⟨_, rfl, wpAny_pure h⟩) htake))
end
end HT
namespace HH
open PySem PySem.Spec PyProof.Rows L2 Evl RZ
def tRevT (K : PySem.W.Frag) (te : TE) : TE := fun σ H Q => te σ H fun x H1 => ∃ a xs, x = .ref a ∧ SqT K H1 a xs ∧ ∀ p, H1 p = none → Q (.ref p) (upd H1 p (.tup xs.reverse))
theorem pe_revT {X : Cx} {e : Expr} {te : TE} {k : Nat} {p1 p2 p3 pos : Pos} (he : PE X e te) : PE X (.Subscript e (.Slice none none (some (.UnaryOp .USub (.Constant (.int 1) k p1) p2)) p3) pos) (tRevT X.K te) := by
  refine ⟨fun pins s σ H Q I h => ?_⟩
  refine Subscript_ (thn (he.run pins s σ H _ I h) fun v s1 ⟨x, H1, I1, r1, q1⟩ => ?_)
  obtain ⟨a, xs, ex, hx, q⟩ := q1
  subst ex
  cases r1
  have hst : PO X (some (.UnaryOp .USub (.Constant (.int 1) k p1) p2)) (tPart (tUn (rU fun i => .int (-i)) (tC (.int 1)))) := po_some (pe_un un_neg pe_int)
  refine wpAny_Slice (thn (po_none.run pins s1 σ H1 (fun o H2 => o = none ∧ H2 = H1) I1 ⟨rfl, rfl⟩) fun vl s2 ⟨l, H2, I2, pl, el, e2⟩ => ?_)
  subst el e2
  refine thn (po_none.run pins s2 σ H2 (fun o H3 => o = none ∧ H3 = H2) I2 ⟨rfl, rfl⟩) fun vu s3 ⟨u, H3, I3, pu, eu, e3⟩ => ?_
  subst eu e3
  refine thn (hst.run pins s3 σ H3 (fun o H4 => o = some (-1) ∧ H4 = H3) I3 ⟨1, rfl, -1, rfl, rfl, rfl⟩) fun vs s4 ⟨o, H4, I4, ps, eo, e4⟩ => ?_
  subst eo e4
  have I5 : Inv X pins σ H4 { s4 with heap := s4.heap.push { cls := .type "slice", data := .fields #[vl, vu, vs] } } := I4.kept (t' := s4.toks) fun b ob q => Heap.get?_push_of_some _ q
  obtain ⟨its, r, ht, hz⟩ := I5.tuple hx
  have hlen := r.length
  show wpAny (model X.prog X.w) X.A (subscriptTail e (.Slice none none (some (.UnaryOp .USub (.Constant (.int 1) k p1) p2)) p3) (.ref a) (.ref s4.heap.objs.size)) (EP X pins σ Q) X.xe { s4 with heap := s4.heap.push { cls := .type "slice", data := .fields #[vl, vu, vs] } }
  refine tail_any (ops := [.ref a, .ref s4.heap.objs.size]) ht.typeIs (PyProof.Rows.slot_tuple_getitem.lookup) ?_ (by with_unfolding_all rfl)
  refine HT.getItem_tuple_back ht (Heap.IsSliceOf.new _ vl vu vs) pl pu ps ?_ (by rw [List.size_toArray, ← hlen]; exact hz)
  refine ⟨.ref _, _, I5.laid (t' := s4.toks) (o := .tup xs.reverse) (fun b ob q => Heap.get?_push_of_some _ q) (Nat.le_refl _) ?_, rfl, q _ (I5.hok.fresh (Nat.le_refl _))⟩
  exact ⟨by rw [List.length_reverse]; exact hz, _, r.reverse, IsTup.new _ _⟩
section
variable {K : PySem.W.Frag} {σ : L2.St} {H : Hp} {te : TE}
theorem eu_revT {a : Addr} {xs : List V} (h : Ev te σ H (.ref a)) (hx : SqT K H a xs) : EvU (tRevT K te) σ H xs.reverse := fun H1 e1 Q q => h H1 e1 _ fun H2 e2 => ⟨a, xs, rfl, ex_t (e1.trans e2) hx, fun p hp => q p _ (fresh_back e2 hp) (e2.trans (Ex.new hp)) upd_same⟩
end
end HH
set_option maxHeartbeats 4000000
namespace HH
open PySem PySem.Spec PyProof.Rows L2 Evl RZ
section
variable {K : PySem.W.Frag} {σ : L2.St} {te ta tb ti tj tl : TE} {tr : TA} {tt : TT} {D : Ends} {tz tu : TS} {g : TG} {H H' : Hp} {v : V} {rs : HH.Row}
end
end HH
set_option maxHeartbeats 4000000
namespace HH
open PySem PySem.Spec PyProof.Rows L2 Evl RZ
def TupsF (H : Hp) (us : List V) (ls : List (List Nat)) : Prop := All2 (fun v l => ∃ b, v = .ref b ∧ FrzT H b (natsV l)) us ls
theorem FrzT.exA {d a : Addr} {H H' : Hp} {xs : List V} (h : FrzT H a xs) (e : ExB d H H') (hd : ∀ o u, H d ≠ some (.frz o u)) : FrzT H' a xs := by
  obtain ⟨o, h1, h2⟩ := h
  exact ⟨o, h1, e _ _ (fun z => hd _ _ (by rw [← z]; exact h2)) h2⟩
theorem TupsF.exB {d : Addr} {H H' : Hp} {us : List V} {ls : List (List Nat)} (h : TupsF H us ls) (e : ExB d H H') (hd : ∀ o u, H d ≠ some (.frz o u)) : TupsF H' us ls := All2.mono (fun v l ⟨b, h1, h2⟩ => ⟨b, h1, h2.exA e hd⟩) h
theorem TupsF.ex {H H' : Hp} {us : List V} {ls : List (List Nat)} (h : TupsF H us ls) (e : Ex H H') : TupsF H' us ls := All2.mono (fun v l ⟨b, h1, h2⟩ => ⟨b, h1, h2.ex e⟩) h
theorem TupsF.dp {K : PySem.W.Frag} {H : Hp} : ∀ {us : List V} {ls : List (List Nat)}, TupsF H us ls → DpAll K H us (ls.map natsD)
  | _, _, .nil => .nil
  | _, _, .cons ⟨b, h1, h2⟩ t => by rw [h1]; exact .cons (dp_nats h2.sq) (TupsF.dp t)
theorem TupsF.at {H : Hp} {us : List V} {ls : List (List Nat)} (h : TupsF H us ls) {k : Nat} {l : List Nat} (hk : ls[k]? = some l) : ∃ b, us[k]? = some (.ref b) ∧ FrzT H b (natsV l) := by
  induction h generalizing k with
  | nil => cases hk
  | @cons v m us ls h t ih =>
    cases k with
    | zero =>
      obtain ⟨b, rfl, h2⟩ := h
      cases hk
      exact ⟨b, rfl, h2⟩
    | succ k => exact ih hk
theorem GoneD.none {K : PySem.W.Frag} {H : Hp} {rs : HH.Row} {kvs : List (List Key × V)} {G : List (List Nat)} (h : GoneD K H rs kvs G) {l : List Nat} (hl : l ∉ G) : valV kvs (keyN l) = none := by
  have := h.has l
  rw [decide_eq_false hl] at this
  cases c : valV kvs (keyN l) with
  | none => rfl
  | some x => rw [c] at this; cases this
theorem DX.put {P : Program} {w : World} {H : Hp} {d b : Addr} {kb : KB} {k : List Key} {v : V} (g : DX P w H d kb) (f : FrzT H b (k.map kV)) : DX P w (upd H d (.ext (dxP P w d (kb ++ [(k, b, v)])))) d (kb ++ [(k, b, v)]) := by
  have hd : ∀ o u, H d ≠ some (.frz o u) := fun o u z => by rw [g.ob] at z; cases z
  have e : ExB d H (upd H d (.ext (dxP P w d (kb ++ [(k, b, v)])))) := (ExB.refl _ _).upd
  refine ⟨upd_same, fun p hp => ?_⟩
  rcases List.mem_append.mp hp with z | z
  · exact (g.ks p z).exA e hd
  · rw [List.mem_singleton.mp z]
    exact f.exA e hd
section
variable {K : PySem.W.Frag} {σ : L2.St} {te : TE} {H : Hp}
end
end HH
set_option maxHeartbeats 4000000
namespace HH
open PySem PySem.Spec PyProof.Rows L2 Evl RZ
inductive WayR : HH.Row → List Nat → List Deed → Prop
  | nil {r : HH.Row} {l : List Nat} : nearD r l = [] → WayR r l []
  | cons {r : HH.Row} {l s : List Nat} {d : Deed} {rest ds : List Deed} : nearD r l = d :: rest → Again (swapL (List.range r.length) (atD d)) l s → WayR (doR r d) s ds → WayR r l (d :: ds)
theorem tab_sorted {l : List Nat} {n : Nat} (ids : l.Perm (List.range n)) (h : tab l n n = []) : l = List.range n := by
  have nd : l.Nodup := ids.nodup_iff.mpr List.nodup_range
  refine ids.eq_of_pairwise (le := fun a b => a < b) (fun a b _ _ h1 h2 => by omega) ?_ List.pairwise_lt_range
  rw [List.pairwise_iff_getElem]
  intro p q hp hq hpq
  have b := bef_lt (List.getElem?_eq_getElem hp) (List.getElem?_eq_getElem hq) hpq
  rcases Nat.lt_trichotomy l[p] l[q] with c | c | c
  · exact c
  · have := (List.getElem?_inj hp nd).mp ((List.getElem?_eq_getElem hp).trans ((congrArg some c).trans (List.getElem?_eq_getElem hq).symm))
    omega
  · have : (((l[q] : Nat) : Int), ((l[p] : Nat) : Int)) ∈ tab l n n := mem_tab.mpr ⟨l[q], l[p], c, List.mem_range.mp (ids.mem_iff.mp (List.getElem_mem hp)), rfl, b⟩
    rw [h] at this
    cases this
theorem tab_one {n x y : Nat} {A B : List Nat} (ids : (A ++ x :: y :: B).Perm (List.range n)) : (x < y ∧ (tab (A ++ y :: x :: B) n n).length = (tab (A ++ x :: y :: B) n n).length + 1) ∨ (y < x ∧ (tab (A ++ x :: y :: B) n n).length = (tab (A ++ y :: x :: B) n n).length + 1) := by
  have nd : (A ++ x :: y :: B).Nodup := ids.nodup_iff.mpr List.nodup_range
  have lt : ∀ z ∈ A ++ x :: y :: B, z < n := fun z hz => List.mem_range.mp (ids.mem_iff.mp hz)
  have pm : (A ++ y :: x :: B).Perm (A ++ x :: y :: B) := List.Perm.append_left A (List.Perm.swap x y B)
  rcases Nat.lt_trichotomy x y with c | c | c
  · refine .inl ⟨c, ?_⟩
    have := (tab_swap c nd lt).length_eq
    rw [List.length_append] at this
    exact this.symm
  · subst c
    have := (List.nodup_append.mp nd).2.1
    exact absurd (List.mem_cons_self ..) (List.nodup_cons.mp this).1
  · refine .inr ⟨c, ?_⟩
    have := (tab_swap c (pm.nodup_iff.mpr nd) fun z hz => lt z (pm.mem_iff.mp hz)).length_eq
    rw [List.length_append] at this
    exact this.symm
theorem run_far {rs : HH.Row} {L : List Cow} {ds : List Deed} (tl : ∀ x ∈ rs, 0 ≤ x.2) (r : MRun (tag 0 rs) L ds) : (tab (L.map (·.1)) rs.length rs.length).length ≤ ds.length := by
  induction r with
  | nil => rw [tab_none]; exact Nat.le_refl _
  | @pass pre post a b ds r h ih =>
    have i1 := run_ids tl r
    rw [ids_split] at i1 ih
    rw [List.length_append, List.length_cons, List.length_nil]
    rw [show (pre ++ (b.1, (b.2.1 - a.2.2, b.2.2)) :: a :: post).map (·.1) = pre.map (·.1) ++ b.1 :: a.1 :: post.map (·.1) by rw [List.map_append]; rfl]
    rcases tab_one i1 with h | h <;> omega
  | @fall pre post a b ds r h ih =>
    have i1 := run_ids tl r
    rw [ids_split] at i1 ih
    rw [List.length_append, List.length_cons, List.length_nil]
    rw [show (pre ++ b :: (a.1, (a.2.1 + b.2.2, a.2.2)) :: post).map (·.1) = pre.map (·.1) ++ b.1 :: a.1 :: post.map (·.1) by rw [List.map_append]; rfl]
    rcases tab_one i1 with h | h <;> omega
theorem way_run : ∀ {r : HH.Row} {l : List Nat} {ds : List Deed}, WayR r l ds → (∀ x ∈ r, 0 ≤ x.2) → Keeps r l → ∃ L, MRun (tag 0 r) L ds ∧ L.map (·.1) = l ∧ ds.length = (tab l r.length r.length).length := by
  intro r l ds h
  induction h with
  | @nil r l hn =>
    intro tl k
    obtain ⟨L, ds, run, e⟩ := reach tl k
    have h0 := (near_none tl run).mp (by rw [e]; exact hn)
    rw [e] at h0
    have := tab_sorted k.ids h0
    refine ⟨tag 0 r, .nil, by rw [tag_ids, this], ?_⟩
    rw [h0]
    rfl
  | @cons r l s d rest ds hd ag hw ih =>
    intro tl k
    obtain ⟨ok, bd⟩ := near_ok (l := l) (d := d) (by rw [hd]; exact List.mem_cons_self ..)
    obtain ⟨L1, run1, row1, ids1, atl⟩ := deed_run ok
    obtain ⟨lenD, tlD⟩ := doR_ok ok tl
    obtain ⟨L, dsL, run, e⟩ := reach tl k
    have ag1 : Again (L1.map (·.1)) (L.map (·.1)) s := by rw [ids1, e]; exact ag
    have kp := keeps_again tl run1 run ag1
    rw [row1] at kp
    obtain ⟨L2, run2, e2, len2⟩ := ih tlD kp
    have m := run2.maps (f := ixN (L1.map (·.1)))
    rw [← row1, rl_tag] at m
    have c := run1.cat m
    have eL : (rlL (ixN (L1.map (·.1))) L2).map (·.1) = l := by
      rw [← e, ag1.1, ← e2]
      unfold rlL
      rw [List.map_map, List.map_map]
      rfl
    refine ⟨_, c, eL, ?_⟩
    have h1 := run_far tl c
    rw [eL, List.length_append] at h1
    have ids := k.ids
    have les : (tab s r.length r.length).length < (tab l r.length r.length).length := by
      refine tab_less ids atl bd ag.1 fun z hz => ?_
      have h2 := ag.2 z hz
      have idsL1 := run_ids tl run1
      rw [← ids1, idsL1.length_eq, List.length_range] at h2
      exact h2
    rw [lenD] at len2
    simp only [List.length_cons, List.length_nil] at h1 ⊢
    omega
end HH
set_option maxHeartbeats 4000000
namespace HH
open PySem PySem.Spec PyProof.Rows Srt SrtO L2 Evl
end HH
set_option maxHeartbeats 4000000
namespace HH
open PySem PySem.Spec PyProof.Rows L2 Evl
end HH
set_option maxHeartbeats 4000000
namespace HH
open PySem PySem.Spec PyProof.Rows L2 Evl RZ
section
variable {K : PySem.W.Frag} {σ : L2.St} {H : Hp} {tA tB tO : TE} {vA : V} {oA oB : Addr} {rb : HH.Row} {LA LB : List Cow} {dA dB : List Deed} {X X1 X2 : XK}
end
end HH
set_option maxHeartbeats 4000000
namespace HH
open PySem PySem.Spec PyProof.Rows L2 Evl RZ
open PySem.W (dataLt alike alikeAll keyToksAll)
def triD (r : HH.Row) (d : Deed) (s : List Nat) : PyData := .tuple [deedD d, rowD r, natsD s]
end HH
set_option maxHeartbeats 4000000
namespace HH
open PySem PySem.Spec PyProof.Rows L2 Evl RZ
def TriAt (K : PySem.W.Frag) (H : Hp) (v : V) (r : HH.Row) (d : Deed) (s : List Nat) : Prop := ∃ (t : Addr) (dv rv : V) (sv : Addr), v = .ref t ∧ SqT K H t [dv, rv, .ref sv] ∧ DeedAt K H dv d ∧ RowAt K H rv r ∧ SqT K H sv (natsV s)
section
variable {K : PySem.W.Frag} {H H' : Hp} {v : V} {r : HH.Row} {d : Deed} {s : List Nat}
theorem TriAt.ex (h : TriAt K H v r d s) (e : Ex H H') : TriAt K H' v r d s := by
  obtain ⟨t, dv, rv, sv, h1, h2, h3, h4, h5⟩ := h
  exact ⟨t, dv, rv, sv, h1, ex_t e h2, h3.ex' e, h4.ex e, ex_t e h5⟩
theorem TriAt.exL {a : Addr} {xs : List V} (h : TriAt K H v r d s) (e : ExB a H H') (ha : H a = some (.lst xs)) : TriAt K H' v r d s := by
  obtain ⟨t, dv, rv, sv, h1, h2, ⟨p, h3, h3'⟩, h4, h5⟩ := h
  exact ⟨t, dv, rv, sv, h1, e.t ha h2, ⟨p, h3, e.t ha h3'⟩, h4.exL e ha, e.t ha h5⟩
theorem TriAt.dp (h : TriAt K H v r d s) : Dp K H v (triD r d s) := by
  obtain ⟨t, dv, rv, sv, rfl, h2, ⟨p, rfl, h3'⟩, h4, h5⟩ := h
  obtain ⟨a, rfl, h4d⟩ := h4.dp
  exact .tup h2 (.cons (.tup h3' (.cons (.str _) (.cons (.int _) .nil))) (.cons h4d (.cons (dp_nats h5) .nil)))
end
def TrisAt (K : PySem.W.Frag) (H : Hp) (us : List V) (rs : HH.Row) (l : List Nat) (ds : List Deed) : Prop := All2 (fun v d => ∃ s, Again (swapL (List.range rs.length) (atD d)) l s ∧ TriAt K H v (doR rs d) d s) us ds
section
variable {K : PySem.W.Frag} {H H' : Hp} {us : List V} {rs : HH.Row} {l : List Nat} {ds : List Deed}
theorem TrisAt.ex (h : TrisAt K H us rs l ds) (e : Ex H H') : TrisAt K H' us rs l ds := All2.mono (fun v d ⟨s, a, t⟩ => ⟨s, a, t.ex e⟩) h
theorem TrisAt.exL {a : Addr} {xs : List V} (h : TrisAt K H us rs l ds) (e : ExB a H H') (ha : H a = some (.lst xs)) : TrisAt K H' us rs l ds := All2.mono (fun v d ⟨s, a, t⟩ => ⟨s, a, t.exL e ha⟩) h
end
def tauN (p x : Nat) : Nat := if x = p then p + 1 else if x = p + 1 then p else x
theorem tau_tau (p x : Nat) : tauN p (tauN p x) = x := by
  unfold tauN
  split <;> split <;> (try split) <;> omega
theorem again_tau {n p : Nat} {l : List Nat} (hp : p + 1 < n) (hl : ∀ x ∈ l, x < n) : Again (swapL (List.range n) p) l (l.map (tauN p)) := by
  have lt : ∀ x, x < n → tauN p x < n := fun x hx => by
    unfold tauN
    split
    · omega
    · split <;> omega
  refine ⟨?_, fun x hx => ?_⟩
  · rw [List.map_map]
    refine (List.map_id' l).symm.trans (List.map_congr_left fun x hx => ?_)
    show x = ixN (swapL (List.range n) p) (tauN p x)
    rw [ixN_swap hp (lt x (hl x hx))]
    exact (tau_tau p x).symm
  · obtain ⟨y, hy, rfl⟩ := List.mem_map.mp hx
    have e : (swapL (List.range n) p).length = n := by
      unfold swapL
      rw [List.length_append, List.length_append, List.length_take, List.length_drop, List.length_range]
      simp only [List.length_cons, List.length_nil]
      omega
    rw [e]
    exact lt y (hl y hy)
end HH
set_option maxHeartbeats 4000000
namespace HH
open PySem PySem.Spec PyProof.Rows L2 Evl RZ
def waysD (w : List Deed) : PyData := .list (w.map deedD)
def ListDAt (K : PySem.W.Frag) (H : Hp) (v : V) (ds : List Deed) : Prop := ∃ (a : Addr) (ws : List V), v = .ref a ∧ H a = some (.lst ws) ∧ All2 (DeedAt K H) ws ds
theorem ListDAt.ex {K : PySem.W.Frag} {H H' : Hp} {v : V} {ds : List Deed} (h : ListDAt K H v ds) (e : Ex H H') : ListDAt K H' v ds := by
  obtain ⟨a, ws, h1, h2, h3⟩ := h
  exact ⟨a, ws, h1, e _ _ h2, deeds_ex e h3⟩
theorem ListDAt.exL {K : PySem.W.Frag} {H H' : Hp} {v : V} {ds : List Deed} {q : Addr} {ys : List V} (h : ListDAt K H v ds) (e : ExB q H H') (hq : H q = some (.lst ys)) (hv : v ≠ .ref q) : ListDAt K H' v ds := by
  obtain ⟨a, ws, h1, h2, h3⟩ := h
  exact ⟨a, ws, h1, e _ _ (fun z => hv (by rw [h1, z])) h2, deeds_exB e hq h3⟩
theorem ListDAt.dp {K : PySem.W.Frag} {H : Hp} {v : V} {ds : List Deed} (h : ListDAt K H v ds) : Dp K H v (waysD ds) := by
  obtain ⟨a, ws, rfl, h2, h3⟩ := h
  exact .lst (sq_of h2) (deeds_dp h3)
end HH
set_option maxHeartbeats 4000000
namespace HH
open PySem PySem.Spec PyProof.Rows L2 Evl RZ
section
variable {K : PySem.W.Frag} {σ : L2.St} {H : Hp} {te : TE}
end
end HH
set_option maxHeartbeats 4000000
namespace HH
open PySem PySem.Spec PyProof.Rows L2 Evl RZ
section
variable {K : PySem.W.Frag} {σ : L2.St} {H : Hp} {te : TE}
end
end HH
set_option maxHeartbeats 4000000
namespace HH
open PySem PySem.Spec PyProof.Rows L2 Evl RZ
def farN (l : List Nat) (n : Nat) : Nat := (tab l n n).length
theorem way_ex : ∀ (m : Nat) {rs : HH.Row} {l : List Nat}, (∀ x ∈ rs, 0 ≤ x.2) → Keeps rs l → farN l rs.length ≤ m → ∃ ds, WayR rs l ds
  | m, rs, l, tl, k, hm => by
    cases hd : nearD rs l with
    | nil => exact ⟨[], .nil hd⟩
    | cons d rest =>
      obtain ⟨ok, bd⟩ := near_ok (l := l) (d := d) (by rw [hd]; exact List.mem_cons_self ..)
      obtain ⟨L1, run1, row1, ids1, atl⟩ := deed_run ok
      obtain ⟨lenD, tlD⟩ := doR_ok ok tl
      obtain ⟨L, dsL, run, e⟩ := reach tl k
      have ag := again_tau (l := l) atl (fun x hx => List.mem_range.mp (k.ids.mem_iff.mp hx))
      have ag1 : Again (L1.map (·.1)) (L.map (·.1)) (l.map (tauN (atD d))) := by rw [ids1, e]; exact ag
      have kp := keeps_again tl run1 run ag1
      rw [row1] at kp
      have les : farN (l.map (tauN (atD d))) rs.length < farN l rs.length := by
        refine tab_less k.ids atl bd ag.1 fun z hz => ?_
        have h2 := ag.2 z hz
        rw [swapL_len (by rw [List.length_range]; exact atl), List.length_range] at h2
        exact h2
      cases m with
      | zero => omega
      | succ m =>
        obtain ⟨ds, W⟩ := way_ex m tlD kp (by rw [lenD]; omega)
        exact ⟨d :: ds, .cons hd ag W⟩
end HH
set_option maxHeartbeats 4000000
namespace HH
open PySem PySem.Spec PyProof.Rows L2 Evl RZ
section
variable {X : Cx} {body : List Stmt} {h0 : ExceptHandler} {hs : List ExceptHandler} {pos : Pos} {tb : TS}
end
def dP (rs : HH.Row) (p : Nat) : Deed := if letsN rs (p + 1) then (true, p + 1) else (false, p)
def DtAt (K : PySem.W.Frag) (H : Hp) (v : V) (rs : HH.Row) (p : Nat) : Prop := ∃ (t : Addr) (dv rv : V), v = .ref t ∧ SqT K H t [dv, rv, .int ((p + 1 : Nat) : Int)] ∧ DeedAt K H dv (dP rs p) ∧ RowAt K H rv (doR rs (dP rs p))
section
variable {K : PySem.W.Frag} {H H' : Hp} {v : V} {rs : HH.Row} {p : Nat}
theorem DtAt.ex (h : DtAt K H v rs p) (e : Ex H H') : DtAt K H' v rs p := by
  obtain ⟨t, dv, rv, h1, h2, h3, h4⟩ := h
  exact ⟨t, dv, rv, h1, ex_t e h2, h3.ex' e, h4.ex e⟩
theorem DtAt.exL {a : Addr} {xs : List V} (h : DtAt K H v rs p) (e : ExB a H H') (ha : H a = some (.lst xs)) : DtAt K H' v rs p := by
  obtain ⟨t, dv, rv, h1, h2, ⟨q, h3, h3'⟩, h4⟩ := h
  exact ⟨t, dv, rv, h1, e.t ha h2, ⟨q, h3, e.t ha h3'⟩, h4.exL e ha⟩
end
structure LayD (K : PySem.W.Frag) (H : Hp) (rs : HH.Row) (kvs : List (List Key × V)) (G : List (List Nat)) : Prop where
  keys : kvs.map (·.1) = G.map keyN
  nd : G.Nodup
  rows : ∀ l ∈ G, ∃ t rv L ds, valV kvs (keyN l) = some (.ref t) ∧ SqT K H t [.int (farN l rs.length : Int), rv] ∧ MRun (tag 0 rs) L ds ∧ L.map (·.1) = l ∧ RowAt K H rv (rowsOf L)
section
variable {K : PySem.W.Frag} {H H' : Hp} {rs : HH.Row} {kvs : List (List Key × V)} {G : List (List Nat)} {l : List Nat}
theorem LayD.ex (h : LayD K H rs kvs G) (e : Ex H H') : LayD K H' rs kvs G := ⟨h.keys, h.nd, fun l hl => by
  obtain ⟨t, rv, L, ds, h1, h2, h3, h4, h5⟩ := h.rows l hl
  exact ⟨t, rv, L, ds, h1, ex_t e h2, h3, h4, h5.ex e⟩⟩
theorem LayD.exL {d : Addr} {xs : List V} (h : LayD K H rs kvs G) (e : ExB d H H') (hd : H d = some (.lst xs)) : LayD K H' rs kvs G := ⟨h.keys, h.nd, fun l hl => by
  obtain ⟨t, rv, L, ds, h1, h2, h3, h4, h5⟩ := h.rows l hl
  exact ⟨t, rv, L, ds, h1, e.t hd h2, h3, h4, h5.exL e hd⟩⟩
theorem LayD.has (h : LayD K H rs kvs G) (l : List Nat) : (valV kvs (keyN l)).isSome = decide (l ∈ G) := by
  by_cases c : l ∈ G
  · obtain ⟨_, _, _, _, h1, _⟩ := h.rows l c
    rw [h1, decide_eq_true c]
    rfl
  · rw [decide_eq_false c, ← valV_any]
    rw [List.any_eq_false]
    intro kv hkv z
    have z := of_decide_eq_true z
    have : kv.1 ∈ G.map keyN := by rw [← h.keys]; exact List.mem_map.mpr ⟨kv, hkv, rfl⟩
    obtain ⟨m, hm, em⟩ := List.mem_map.mp this
    rw [z] at em
    exact c (keyN_inj em ▸ hm)
theorem LayD.none (h : LayD K H rs kvs G) (hl : l ∉ G) : valV kvs (keyN l) = none := by
  have := h.has l
  rw [decide_eq_false hl] at this
  cases c : valV kvs (keyN l) with
  | none => rfl
  | some x => rw [c] at this; cases this
theorem LayD.put {kb : KB} (h : LayD K H rs (kvX kb) G) (hl : l ∉ G) {b t : Addr} {rv : V} {L : List Cow} {ds : List Deed} (ht : SqT K H t [.int (farN l rs.length : Int), rv]) (r : MRun (tag 0 rs) L ds) (e : L.map (·.1) = l) (hv : RowAt K H rv (rowsOf L)) : LayD K H rs (kvX (kb ++ [(keyN l, b, .ref t)])) (G ++ [l]) := by
  have h0 := h.none hl
  have ek : kvX (kb ++ [(keyN l, b, .ref t)]) = kvX kb ++ [(keyN l, .ref t)] := by
    unfold kvX
    rw [List.map_append]
    rfl
  rw [ek]
  refine ⟨by rw [List.map_append, h.keys, List.map_append]; rfl, List.nodup_append.mpr ⟨h.nd, List.pairwise_singleton _ _, fun a ha b hb z => hl (by rw [← List.mem_singleton.mp hb, ← z]; exact ha)⟩, fun m hm => ?_⟩
  rw [valV_snoc _ _ _ _ h0]
  by_cases c : m = l
  · subst c
    rw [if_pos rfl]
    exact ⟨t, rv, L, ds, rfl, ht, r, e, hv⟩
  · rw [if_neg fun z => c (keyN_inj z)]
    rcases List.mem_append.mp hm with z | z
    · exact h.rows m z
    · exact absurd (List.mem_singleton.mp z) c
end
theorem rv_eqD1 {K : PySem.W.Frag} {H : Hp} {x y : V} {k : Nat} {d : PyData} (hx : Dp K H x d) (hy : Dp K H y d) (n : Nice k d) (hk : k < 64) : RV (rEqD K) x y H (.bl true) := fun H1 e Q q => by
  refine ⟨d, d, dp_ex e hx, dp_ex e hy, n.shaped (by omega), n.shaped (by omega), ?_⟩
  rw [SeqAt.eqv_refl _ n.1]
  exact q H1 (Ex.refl H1)
theorem op_eqDK {X : Cx} {K : PySem.W.Frag} (hu : X.A.units + 64 < cLine) (hK : X.K = K := by rfl) : OpR X (compareOp CmpOp.Eq) (rEqD K) := by
  subst hK
  exact op_eqD hu
end HH
set_option maxHeartbeats 4000000
namespace HH
open PySem PySem.Spec PyProof.Rows L2 Evl RZ
theorem takes_no {X : Cx} : Takes X (fun _ _ _ _ => False) := fun _ _ ⟨_, _, _, _, _, _, _, _, _, _, _, _, _, _, _, _, w⟩ => w.elim
def rInT (K : PySem.W.Frag) : R2 := fun x y H Q => ∃ d ds, Dp K H x d ∧ Dp K H y (.tuple ds) ∧ SeqAt.shaped d = true ∧ SeqAt.shaped (.tuple ds) = true ∧ Q (.bl (ds.any fun z => PyData.eqv z d)) H
theorem op_inT {X : Cx} (hu : X.A.units + 65 < cLine) : OpR X (compareOp .In) (rInT X.K) := by
  intro pins s σ H x y v u Q I rx ry h
  obtain ⟨d, ds, hd, he, sd, se, q⟩ := h
  obtain ⟨as, r1⟩ := Dp.reads I d x v hd rx
  obtain ⟨bs, r2⟩ := Dp.reads I (.tuple ds) y u he ry
  exact SeqAt.in_tuple_reads r2 r1 (SeqAt.canLay_of_shaped se) (SeqAt.canLay_of_shaped sd) (room_in_shaped sd hu) ⟨.bl _, H, I, rfl, q⟩
def wordB (w : Str) : Bool := decide (w = ("pass" : Str)) || decide (w = ("fall" : Str))
def wordD : PyData → Bool
  | .str w => wordB w
  | _ => false
theorem word_any (d : PyData) : ([.str "pass", .str "fall"] : List PyData).any (fun z => PyData.eqv z d) = wordD d := by
  have e : ∀ a b : Str, (a == b) = decide (b = a) := fun a b => by
    rw [Bool.eq_iff_iff, beq_iff_eq, decide_eq_true_iff]
    exact eq_comm
  cases d <;> simp [PyData.eqv, wordD, wordB, e]
def deedOf : PyData → Option ZD
  | .tuple [.str w, .int i] => if w = ("pass" : Str) then some (true, i) else if w = ("fall" : Str) then some (false, i) else none
  | _ => none
def isDeedD (d : PyData) : Bool := (deedOf d).isSome
theorem isDeed_pair (x y : PyData) : isDeedD (.tuple [x, y]) = (wordD x && isNumD y) := by
  unfold isDeedD
  cases x with
  | str w =>
    cases y with
    | int i =>
      show (if w = ("pass" : Str) then some (true, i) else if w = ("fall" : Str) then some (false, i) else none : Option ZD).isSome = (wordB w && true)
      unfold wordB
      by_cases h1 : w = ("pass" : Str)
      · rw [if_pos h1, decide_eq_true h1]; rfl
      · rw [if_neg h1, decide_eq_false h1]
        by_cases h2 : w = ("fall" : Str)
        · rw [if_pos h2, decide_eq_true h2]; rfl
        · rw [if_neg h2, decide_eq_false h2]; rfl
    | _ => cases wordD (.str w) <;> rfl
  | _ => rfl
theorem isDeed_len {es : List PyData} (h : es.length ≠ 2) : isDeedD (.tuple es) = false := by
  unfold isDeedD
  match es, h with
  | [], _ => rfl
  | [x], _ => cases x <;> rfl
  | [_, _], h => exact absurd rfl h
  | x :: y :: _ :: _, _ => cases x <;> (try rfl) <;> cases y <;> rfl
theorem isDeed_not {d : PyData} (h : isTupB d = false) : isDeedD d = false := by
  cases d with
  | tuple es => exact absurd h (by simp [isTupB])
  | _ => rfl
theorem atomS {c : Nat} {v : V} {w : Str} (h : atomOk c v (.str w)) : v = .str w := by
  cases v with
  | str s => rw [h.1]
  | _ => exact h.elim
theorem strAt {P : Addr → Prop} {K : PySem.W.Frag} {c : Nat} {H : Hp} : ∀ {k : Nat} {v : V} {w : Str}, Da P K c H k v (.str w) → v = .str w
  | 0, v, w, h => atomS h
  | k + 1, v, w, .inl h => atomS h
  | k + 1, v, w, .inr ⟨a, xs, ds, h1, h2, h3⟩ => by
    rcases h2 with ⟨_, _, z⟩ | ⟨_, z⟩ <;> cases z
theorem deedZ_at {P : Addr → Prop} {K : PySem.W.Frag} {c k : Nat} {H : Hp} {v : V} {d : PyData} {z : ZD} (h : Da P K c H k v d) (e : deedOf d = some z) : DeedZ K H v z := by
  unfold deedOf at e
  split at e
  · rename_i w i
    obtain ⟨k', a, xs, rfl, rfl, fz, ds⟩ := h.tupAt
    have hw : w = wordOf z.1 ∧ i = z.2 := by
      by_cases h1 : w = ("pass" : Str)
      · rw [if_pos h1] at e
        cases e
        exact ⟨h1, rfl⟩
      · rw [if_neg h1] at e
        by_cases h2 : w = ("fall" : Str)
        · rw [if_pos h2] at e
          cases e
          exact ⟨h2, rfl⟩
        · rw [if_neg h2] at e
          cases e
    have hl : xs.length = 2 := ds.1
    match xs, hl with
    | [x, y], _ =>
      have hx := ds.2 0 x (.str w) rfl rfl
      have hy := ds.2 1 y (.int i) rfl rfl
      have ey := hy.intAt
      have ex : x = .str w := strAt hx
      subst ey ex
      exact ⟨a, rfl, by rw [← hw.1, ← hw.2]; exact fz⟩
  · cases e
theorem tup_isA {d : PyData} (h : isTupB d = true) : ∃ ds, d = .tuple ds := by
  cases d with
  | tuple ds => exact ⟨ds, rfl⟩
  | _ => cases h
theorem list_isA {d : PyData} (h : isListB d = true) : ∃ ds, d = .list ds := by
  cases d with
  | list ds => exact ⟨ds, rfl⟩
  | _ => cases h
def leadsB (rs : HH.Row) (l : List Nat) (ds : List ZD) : Bool := match ledK (rs, List.range rs.length) ds 0 with
  | .inr s => decide (s.2 = l)
  | .inl _ => false
def showsD (rs : HH.Row) (l : List Nat) : PyData → Bool
  | .list es => decide (es.length = (tab l rs.length rs.length).length) && (es.all isDeedD && leadsB rs l (es.filterMap deedOf))
  | _ => false
theorem showsD_list (rs : HH.Row) (l : List Nat) (es : List PyData) : showsD rs l (.list es) = (decide (es.length = (tab l rs.length rs.length).length) && (es.all isDeedD && leadsB rs l (es.filterMap deedOf))) := rfl
theorem deeds_at {P : Addr → Prop} {K : PySem.W.Frag} {c k : Nat} {H : Hp} : ∀ {xs : List V} {es : List PyData}, DaS (Da P K c H k) xs es → es.all isDeedD = true → DeedsZ K H xs (es.filterMap deedOf)
  | [], [], _, _ => .nil
  | x :: xs, [], h, _ => absurd h.1 (by simp)
  | [], e :: es, h, _ => absurd h.1 (by simp)
  | x :: xs, e :: es, h, ha => by
    rw [List.all_cons, Bool.and_eq_true] at ha
    obtain ⟨z, hz⟩ := Option.isSome_iff_exists.mp (show (deedOf e).isSome = true from ha.1)
    rw [List.filterMap_cons, hz]
    exact .cons (deedZ_at (h.2 0 x e rfl rfl) hz) (deeds_at ⟨by have := h.1; simpa using this, fun i y f hy hf => h.2 (i + 1) y f hy hf⟩ ha.2)
theorem listAt {P : Addr → Prop} {K : PySem.W.Frag} {c : Nat} {H : Hp} : ∀ {k : Nat} {v : V} {ds : List PyData}, Da P K c H k v (.list ds) → ∃ (k' : Nat) (a : Addr) (xs : List V), k = k' + 1 ∧ v = .ref a ∧ H a = some (.lst xs) ∧ DaS (Da P K c H k') xs ds
  | 0, v, ds, h => by
    cases v <;> exact (show False from h).elim
  | k + 1, v, ds, .inl h => by
    cases v <;> exact (show False from h).elim
  | k + 1, v, ds, .inr ⟨a, xs, ds', h1, h2, h3⟩ => by
    rcases h2 with ⟨_, g, z⟩ | ⟨_, z⟩
    · cases z
      exact ⟨k, a, xs, rfl, h1, g, h3⟩
    · cases z
theorem eqvA_intsA : ∀ ns ms : List Int, PyData.eqvAll (ns.map PyData.int) (ms.map PyData.int) = decide (ns = ms)
  | [], [] => by simp [PyData.eqvAll]
  | [], _ :: _ => by simp [PyData.eqvAll]
  | _ :: _, [] => by simp [PyData.eqvAll]
  | a :: ns, b :: ms => by
    have ih := eqvA_intsA ns ms
    have e : PyData.eqv (.int a) (.int b) = decide (a = b) := by
      simp [PyData.eqv]
      rfl
    simp only [List.map_cons, PyData.eqvAll, ih, e]
    rw [Bool.eq_iff_iff, Bool.and_eq_true_iff, decide_eq_true_iff, decide_eq_true_iff, decide_eq_true_iff]
    exact ⟨fun ⟨h1, h2⟩ => by rw [h1, h2], fun h => List.cons.inj h⟩
theorem natsD_eqv {a b : List Nat} (h : PyData.eqv (natsD a) (natsD b) = true) : a = b := by
  have e1 : ∀ l : List Nat, natsD l = .tuple ((l.map fun (x : Nat) => (x : Int)).map PyData.int) := fun l => rfl
  rw [e1, e1] at h
  unfold PyData.eqv at h
  rw [eqvA_intsA, decide_eq_true_iff] at h
  have inj : ∀ {a b : List Nat}, a.map (fun (x : Nat) => (x : Int)) = b.map (fun (x : Nat) => (x : Int)) → a = b := fun {a b} h => by
    have := congrArg (List.map Int.toNat) h
    rw [List.map_map, List.map_map] at this
    have id1 : (Int.toNat ∘ fun (x : Nat) => (x : Int)) = id := funext fun x => Int.toNat_natCast x
    rw [id1, List.map_id, List.map_id] at this
    exact this
  exact inj h
theorem eqv_natsD (a b : List Nat) : PyData.eqv (natsD a) (natsD b) = decide (a = b) := by
  by_cases h : a = b
  · subst h
    rw [SeqAt.eqv_refl _ (nice_nats a).1, decide_eq_true rfl]
  · rw [decide_eq_false h]
    cases c : PyData.eqv (natsD a) (natsD b) with
    | false => rfl
    | true => exact absurd (natsD_eqv c) h
theorem el_dsL {K : PySem.W.Frag} {σ : L2.St} {H : Hp} {te te2 : TE} {a : Addr} {xs : List V} {ds : List PyData} {R : V → PyData → Prop} {j : Nat} {vs : List Nat} (f : PyData → Bool) (h : Ev te σ H (.ref a)) (hs : H a = some (.lst xs)) (hx : DaS R xs ds) (hl : xs.length ≤ 40000) (hw : ∀ x, wipe ((wipe σ vs).set j (some x)) vs = wipe σ vs)
    (he : ∀ (i : Nat) x d, xs[i]? = some x → ds[i]? = some d → ∀ H1, Ex H H1 → Ev te2 ((wipe σ vs).set j (some x)) H1 (.bl (f d))) : EvL (tLc (iList K te) (gName j) tYes te2 vs) σ H ((ds.map f).map V.bl) := by
  have := el_lcL (K := K) (σ := σ) (H := H) (tl := te) (a := a) (xs := xs) (j := j) (vs := vs) (t := tYes) (te := te2) (fun _ => true) (fun i => V.bl (f (ds.getD i .none))) h (sq_of hs) hl hw (fun i x H1 e1 hx => et_yes) (fun i x H1 e1 hxi _ => by
    obtain ⟨d, hd⟩ : ∃ d, ds[i]? = some d := ⟨_, List.getElem?_eq_getElem (by have := (List.getElem?_eq_some_iff.mp hxi).1; rw [hx.1] at this; exact this)⟩
    rw [show ds.getD i .none = d by simp [List.getD, hd]]
    exact he i x d hxi hd H1 e1)
  have e : given xs.length (fun _ => true) (fun i => V.bl (f (ds.getD i .none))) = (ds.map f).map V.bl := by
    unfold given
    rw [List.filter_eq_self.mpr (fun _ _ => rfl), List.map_map, hx.1]
    refine List.ext_getElem (by simp) fun i h1 h2 => ?_
    have hi : i < ds.length := by simpa using h2
    simp [List.getD, hi]
  rw [e] at this
  exact this
def spAnyK (K : PySem.W.Frag) (f : PyData → Bool) : Sp := fun vs H Q _ => ∃ (P : Addr → Prop) (v : V) (d : PyData) (c k : Nat), vs = [v] ∧ Da P K c H k v d ∧ wtD d ≤ 40000 ∧ k ≤ 60 ∧ ∀ H', Ex H H' → Q (.bl (f d)) H'
theorem sv_anyK {K : PySem.W.Frag} {f : PyData → Bool} {P : Addr → Prop} {v : V} {d : PyData} {c k : Nat} {H : Hp} (hd : Da P K c H k v d) (hw : wtD d ≤ 40000) (hk : k ≤ 60) : SpV (spAnyK K f) [v] H (.bl (f d)) := fun H1 e Q q E => ⟨P, v, d, c, k, rfl, hd.ex e, hw, hk, fun H2 e2 => q H2 e2⟩
def spLeadsZ (K : PySem.W.Frag) : Sp := fun vs H Q _ => ∃ (v : V) (o c : Addr) (rs : HH.Row) (l : List Nat) (us : List V) (ds : List ZD), vs = [v, .ref o, .ref c] ∧ RowAt K H v rs ∧ rs.length ≤ 1000 ∧ SqT K H o (natsV l) ∧ SqA K H c us ∧ DeedsZ K H us ds ∧ ds.length ≤ 1000 ∧ ∀ H', Ex H H' → Q (.bl (leadsB rs l ds)) H'
def spShowsA (K : PySem.W.Frag) : Sp := fun vs H Q _ => ∃ (P : Addr → Prop) (v x : V) (o : Addr) (rs : HH.Row) (l : List Nat) (d : PyData) (c k : Nat), vs = [v, .ref o, x] ∧ RowAt K H v rs ∧ rs.length ≤ 30 ∧ SqT K H o (natsV l) ∧ l.Perm (List.range rs.length) ∧ Da P K c H k x d ∧ k ≤ 50 ∧ wtD d ≤ 40000 ∧ ∀ H', Ex H H' → Q (.bl (showsD rs l d)) H'
end HH
set_option maxHeartbeats 4000000
namespace K29
open PySem PySem.Spec PyProof.Rows L2 Evl HH RZ
def topS (i : Nat) : Stmt := PySem.Challenge.pw_hayherd_k29_ways_shown_or_not.main.body.getD i (.Pass ⟨0, 0, 0, 0⟩)
abbrev s_is_number : Stmt := topS 4
theorem sc_is_number : FnScope ["thing"] ["thing"] (defScope s_is_number) := ⟨rfl, rfl, rfl, by decide +kernel, rfl, by decide +kernel, by decide +kernel⟩
abbrev s_can_pass : Stmt := topS 5
theorem sc_can_pass : FnScope ["row", "place", "strength", "toll"] ["row", "place"] (defScope s_can_pass) := ⟨rfl, rfl, rfl, by decide +kernel, rfl, by decide +kernel, by decide +kernel⟩
abbrev s_can_fall : Stmt := topS 6
theorem sc_can_fall : FnScope ["row", "place"] ["row", "place"] (defScope s_can_fall) := ⟨rfl, rfl, rfl, by decide +kernel, rfl, by decide +kernel, by decide +kernel⟩
abbrev s_passed : Stmt := topS 7
theorem sc_passed : FnScope ["row", "place", "ahead", "strength", "toll"] ["row", "place"] (defScope s_passed) := ⟨rfl, rfl, rfl, by decide +kernel, rfl, by decide +kernel, by decide +kernel⟩
abbrev s_fallen : Stmt := topS 8
theorem sc_fallen : FnScope ["row", "place", "strength", "toll", "behind"] ["row", "place"] (defScope s_fallen) := ⟨rfl, rfl, rfl, by decide +kernel, rfl, by decide +kernel, by decide +kernel⟩
abbrev s_swapped : Stmt := topS 9
theorem sc_swapped : FnScope ["order", "place"] ["order", "place"] (defScope s_swapped) := ⟨rfl, rfl, rfl, by decide +kernel, rfl, by decide +kernel, by decide +kernel⟩
abbrev s_can_do : Stmt := topS 10
theorem sc_can_do : FnScope ["row", "word", "place"] ["row", "word", "place"] (defScope s_can_do) := ⟨rfl, rfl, rfl, by decide +kernel, rfl, by decide +kernel, by decide +kernel⟩
abbrev s_led : Stmt := topS 11
theorem sc_led : FnScope ["row", "deeds", "now", "order", "number", "word", "place"] ["row", "deeds"] (defScope s_led) := ⟨rfl, rfl, rfl, by decide +kernel, rfl, by decide +kernel, by decide +kernel⟩
abbrev s_places_of : Stmt := topS 13
theorem sc_places_of : FnScope ["order", "place", "who"] ["order"] (defScope s_places_of) := ⟨rfl, rfl, rfl, by decide +kernel, rfl, by decide +kernel, by decide +kernel⟩
abbrev s_turned_about : Stmt := topS 14
theorem sc_turned_about : FnScope ["order", "place_of", "many", "one", "other"] ["order"] (defScope s_turned_about) := ⟨rfl, rfl, rfl, by decide +kernel, rfl, by decide +kernel, by decide +kernel⟩
abbrev s_is_deed : Stmt := topS 16
theorem sc_is_deed : FnScope ["thing"] ["thing"] (defScope s_is_deed) := ⟨rfl, rfl, rfl, by decide +kernel, rfl, by decide +kernel, by decide +kernel⟩
abbrev s_leads_to : Stmt := topS 17
theorem sc_leads_to : FnScope ["row", "order", "deeds"] ["row", "order", "deeds"] (defScope s_leads_to) := ⟨rfl, rfl, rfl, by decide +kernel, rfl, by decide +kernel, by decide +kernel⟩
abbrev s_shows_way : Stmt := topS 18
theorem sc_shows_way : FnScope ["row", "order", "thing", "part"] ["row", "order", "thing"] (defScope s_shows_way) := ⟨rfl, rfl, rfl, by decide +kernel, rfl, by decide +kernel, by decide +kernel⟩
abbrev s_law_dip : Stmt := topS 20
theorem sc_law_dip : FnScope ["_law_script", "_law_k", "_law_cell"] ["_law_script", "_law_k"] (defScope s_law_dip) := ⟨rfl, rfl, rfl, by decide +kernel, rfl, by decide +kernel, by decide +kernel⟩
abbrev s_law_take : Stmt := topS 21
theorem sc_law_take : FnScope ["_law_box", "_law_many", "_law_found", "_law_once", "_law_pair"] ["_law_box", "_law_many"] (defScope s_law_take) := ⟨rfl, rfl, rfl, by decide +kernel, rfl, by decide +kernel, by decide +kernel⟩
abbrev s_law_folded : Stmt := topS 22
theorem sc_law_folded : FnScope ["_law_script", "_law_many", "_law_cells", "_law_k", "_law_cell"] ["_law_script", "_law_many"] (defScope s_law_folded) := ⟨rfl, rfl, rfl, by decide +kernel, rfl, by decide +kernel, by decide +kernel⟩
abbrev s_law_same : Stmt := topS 23
theorem sc_law_same : FnScope ["_law_found", "_law_due_here", "_law_one", "_law_two"] ["_law_found", "_law_due_here"] (defScope s_law_same) := ⟨rfl, rfl, rfl, by decide +kernel, rfl, by decide +kernel, by decide +kernel⟩
abbrev s_law_of : Stmt := topS 24
theorem sc_law_of : FnScope ["_law_box", "_law_pool"] ["_law_box", "_law_pool"] (defScope s_law_of) := ⟨rfl, rfl, rfl, by decide +kernel, rfl, by decide +kernel, by decide +kernel⟩
abbrev s_law_row : Stmt := topS 25
theorem sc_law_row : FnScope ["_law_box", "_law_most", "_law_many", "_law_way", "_law_rise", "_law_high", "_law_dear", "_law_base", "_law_toll", "_law_found", "_law_place"] ["_law_box", "_law_most"] (defScope s_law_row) := ⟨rfl, rfl, rfl, by decide +kernel, rfl, by decide +kernel, by decide +kernel⟩
abbrev s_law_lets : Stmt := topS 26
theorem sc_law_lets : FnScope ["_law_row_now", "_law_place"] ["_law_row_now", "_law_place"] (defScope s_law_lets) := ⟨rfl, rfl, rfl, by decide +kernel, rfl, by decide +kernel, by decide +kernel⟩
abbrev s_law_passed : Stmt := topS 27
theorem sc_law_passed : FnScope ["_law_row_now", "_law_place", "_law_ahead", "_law_strength", "_law_toll"] ["_law_row_now", "_law_place"] (defScope s_law_passed) := ⟨rfl, rfl, rfl, by decide +kernel, rfl, by decide +kernel, by decide +kernel⟩
abbrev s_law_fallen : Stmt := topS 28
theorem sc_law_fallen : FnScope ["_law_row_now", "_law_place", "_law_strength", "_law_toll", "_law_behind"] ["_law_row_now", "_law_place"] (defScope s_law_fallen) := ⟨rfl, rfl, rfl, by decide +kernel, rfl, by decide +kernel, by decide +kernel⟩
abbrev s_law_ended : Stmt := topS 29
theorem sc_law_ended : FnScope ["_law_box", "_law_row_now", "_law_queue", "_law_pairs_here", "_law_place", "_law_some"] ["_law_box", "_law_row_now"] (defScope s_law_ended) := ⟨rfl, rfl, rfl, by decide +kernel, rfl, by decide +kernel, by decide +kernel⟩
abbrev s_law_begun : Stmt := topS 30
theorem sc_law_begun : FnScope ["_law_box", "_law_row_now", "_law_queue", "_law_pairs_here", "_law_place", "_law_some"] ["_law_box", "_law_row_now"] (defScope s_law_begun) := ⟨rfl, rfl, rfl, by decide +kernel, rfl, by decide +kernel, by decide +kernel⟩
abbrev s_law_bent : Stmt := topS 31
theorem sc_law_bent : FnScope ["_law_box", "_law_odd_thing", "_law_odd", "_law_some", "_law_at", "_law_way"] ["_law_box", "_law_odd_thing"] (defScope s_law_bent) := ⟨rfl, rfl, rfl, by decide +kernel, rfl, by decide +kernel, by decide +kernel⟩
abbrev s_law_pairs : Stmt := topS 32
theorem sc_law_pairs : FnScope ["_law_many", "_law_found", "_law_one", "_law_other"] ["_law_many"] (defScope s_law_pairs) := ⟨rfl, rfl, rfl, by decide +kernel, rfl, by decide +kernel, by decide +kernel⟩
abbrev s_law_turned : Stmt := topS 33
theorem sc_law_turned : FnScope ["_law_queue", "_law_spots", "_law_one", "_law_other", "_law_at", "_law_who"] ["_law_queue"] (defScope s_law_turned) := ⟨rfl, rfl, rfl, by decide +kernel, rfl, by decide +kernel, by decide +kernel⟩
abbrev s_law_kept : Stmt := topS 34
theorem sc_law_kept : FnScope ["_law_box", "_law_row_now", "_law_moved", "_law_pair"] ["_law_box", "_law_row_now"] (defScope s_law_kept) := ⟨rfl, rfl, rfl, by decide +kernel, rfl, by decide +kernel, by decide +kernel⟩
abbrev s_law_near : Stmt := topS 35
theorem sc_law_near : FnScope ["_law_box", "_law_queue", "_law_kept_here", "_law_many", "_law_found", "_law_turn", "_law_at", "_law_pair"] ["_law_box", "_law_queue", "_law_kept_here", "_law_many"] (defScope s_law_near) := ⟨rfl, rfl, rfl, by decide +kernel, rfl, by decide +kernel, by decide +kernel⟩
abbrev s_law_drawn_way : Stmt := topS 36
theorem sc_law_drawn_way : FnScope ["_law_box", "_law_pen", "_law_seats", "_law_went", "_law_turn", "_law_turned_ones", "_law_at", "_law_some", "_law_there", "_law_whom"] ["_law_box", "_law_pen", "_law_seats"] (defScope s_law_drawn_way) := ⟨rfl, rfl, rfl, by decide +kernel, rfl, by decide +kernel, by decide +kernel⟩
abbrev s_law_detour : Stmt := topS 37
theorem sc_law_detour : FnScope ["_law_box", "_law_pen", "_law_went", "_law_at", "_law_some"] ["_law_box", "_law_pen", "_law_went"] (defScope s_law_detour) := ⟨rfl, rfl, rfl, by decide +kernel, rfl, by decide +kernel, by decide +kernel⟩
abbrev s_law_due : Stmt := topS 38
theorem sc_law_due : FnScope ["_law_pen", "_law_seats", "_law_fixed", "_law_item", "_law_stood", "_law_deed", "_law_at", "_law_pair"] ["_law_pen", "_law_seats", "_law_fixed", "_law_item"] (defScope s_law_due) := ⟨rfl, rfl, rfl, by decide +kernel, rfl, by decide +kernel, by decide +kernel⟩
abbrev s_law_great_right : Stmt := topS 39
theorem sc_law_great_right : FnScope ["_law_box", "_law_pen", "_law_fixed", "_law_seats", "_law_went", "_law_at", "_law_items", "_law_item"] ["_law_box"] (defScope s_law_great_right) := ⟨rfl, rfl, rfl, by decide +kernel, rfl, by decide +kernel, by decide +kernel⟩
abbrev s_law_right : Stmt := topS 40
theorem sc_law_right : FnScope ["_law_box", "_law_pen", "_law_fixed", "_law_seats", "_law_went", "_law_items", "_law_turn", "_law_bent_here", "_law_odd", "_law_item", "_law_goal", "_law_due_here", "_law_kept_here", "_law_told", "_law_pair", "_law_place_due", "_law_deed", "_law_word", "_law_at"] ["_law_box"] (defScope s_law_right) := ⟨rfl, rfl, rfl, by decide +kernel, rfl, by decide +kernel, by decide +kernel⟩
abbrev s_law : Stmt := topS 41
theorem sc_law : FnScope ["_law_script", "_law_cells", "_law_k"] ["_law_script"] (defScope s_law) := ⟨rfl, rfl, rfl, by decide +kernel, rfl, by decide +kernel, by decide +kernel⟩
abbrev s_ini_MayNot : Stmt := (HH.clsB (topS 1)).getD 0 (.Pass ⟨0, 0, 0, 0⟩)
theorem sc_ini_MayNot : FnScope ["self", "place"] ["self", "place"] (defScope s_ini_MayNot) := ⟨rfl, rfl, rfl, by decide +kernel, rfl, by decide +kernel, by decide +kernel⟩
abbrev s_ini_NotLet : Stmt := (HH.clsB (topS 2)).getD 0 (.Pass ⟨0, 0, 0, 0⟩)
theorem sc_ini_NotLet : FnScope ["self", "number"] ["self", "number"] (defScope s_ini_NotLet) := ⟨rfl, rfl, rfl, by decide +kernel, rfl, by decide +kernel, by decide +kernel⟩
end K29
set_option maxHeartbeats 4000000
namespace K29
open PySem PySem.Spec PyProof.Rows L2 Evl HH RZ
section
variable {P : Program} {w : World} {K : PySem.W.Frag} {mg : Str → Option Value} {base : Heap}
theorem ok_ini_MayNot {C f : Addr} {fd : FuncData} (F : FunD K "__init__" "MayNot.__init__" (defArgs s_ini_MayNot) (defBody s_ini_MayNot) (defScope s_ini_MayNot) [] [] f fd) (T : ExcTy K .run "place" C f) (g : mg "MayNot" = some (.ref C)) (b : Binds K fd ["self", "place"] []) (m_RuntimeError : mg "RuntimeError" = none) : HasE P w K mg base .run "MayNot" "place" C f fd := by
  refine ⟨T, F.ok sc_ini_MayNot (fun vs H Q E h => ?_) (fun cdv A outer s H vs Q E hr h => ?_), b, g⟩
  · obtain ⟨a, v, rfl, _⟩ := h
    rfl
  · obtain ⟨a, v, rfl, ha, q⟩ := h
    refine ⟨_, PSs.nox (pss_cons (ps_expr (pe_bini (b := .run) (by rfl) m_RuntimeError T.bi (pa_cons (pv 0) (pa_cons pe_str pa_nil)) (by decide) (by decide) (by decide +kernel))) (pss_one (ps_xs (pv 0) (pv 1)))), ?_⟩
    refine ⟨.ref a, rfl, a, C, _, rfl, by show 1 ≤ 1000; decide, T.ok, ha, ?_⟩
    exact ⟨v, rfl, .ref a, rfl, a, C, f, .run, rfl, T, ha, fun dx n ne => q dx n ne⟩
theorem ok_ini_NotLet {C f : Addr} {fd : FuncData} (F : FunD K "__init__" "NotLet.__init__" (defArgs s_ini_NotLet) (defBody s_ini_NotLet) (defScope s_ini_NotLet) [] [] f fd) (T : ExcTy K .run "number" C f) (g : mg "NotLet" = some (.ref C)) (b : Binds K fd ["self", "number"] []) (m_RuntimeError : mg "RuntimeError" = none) : HasE P w K mg base .run "NotLet" "number" C f fd := by
  refine ⟨T, F.ok sc_ini_NotLet (fun vs H Q E h => ?_) (fun cdv A outer s H vs Q E hr h => ?_), b, g⟩
  · obtain ⟨a, v, rfl, _⟩ := h
    rfl
  · obtain ⟨a, v, rfl, ha, q⟩ := h
    refine ⟨_, PSs.nox (pss_cons (ps_expr (pe_bini (b := .run) (by rfl) m_RuntimeError T.bi (pa_cons (pv 0) (pa_cons pe_str pa_nil)) (by decide) (by decide) (by decide +kernel))) (pss_one (ps_xs (pv 0) (pv 1)))), ?_⟩
    refine ⟨.ref a, rfl, a, C, _, rfl, by show 1 ≤ 1000; decide, T.ok, ha, ?_⟩
    exact ⟨v, rfl, .ref a, rfl, a, C, f, .run, rfl, T, ha, fun dx n ne => q dx n ne⟩
theorem ok_is_number {f : Addr} {fd : FuncData} (F : FnP K "is_number" s_is_number f fd) (g : mg "is_number" = some (.ref f)) (b : Binds K fd ["thing"] []) (m_isinstance : mg "isinstance" = none) (m_int : mg "int" = none) (m_bool : mg "bool" = none) : Has P w K mg base 1 "is_number" ["thing"] (spAnyB K isNumD) f fd := by
  refine ⟨F.ok sc_is_number (fun vs H Q E h => ?_) (fun cdv A outer s H vs Q E hr h => ?_), g, F.kp, b⟩
  · obtain ⟨p, v, d, c, k, rfl, _⟩ := h
    rfl
  · obtain ⟨p, v, d, c, k, rfl, hd, hw, q⟩ := h
    refine ⟨_, PSs.nox (pss_one (ps_ret (pe_and (pe_callB call_isi (by rfl) m_isinstance (by decide +kernel) (pa_cons (pv 0) (pa_cons (pe_bltn (v := .ty "int") (by rfl) m_int (by decide +kernel) rfl) pa_nil))) (pe_one (pe_not (pe_callB call_isi (by rfl) m_isinstance (by decide +kernel) (pa_cons (pv 0) (pa_cons (pe_bltn (v := .ty "bool") (by rfl) m_bool (by decide +kernel) rfl) pa_nil)))))))), ?_⟩
    exact s_ret (ev_is (ev_andV (ev_isiD (ev_var rfl) hd (kitI d)) fun _ => ev_notV (ev_isiD (ev_var rfl) hd (kitBo d))) (by cases d <;> rfl)) fun H1 e1 => q H1 e1
theorem ok_can_pass {f : Addr} {fd : FuncData} (F : FnP K "can_pass" s_can_pass f fd) (g : mg "can_pass" = some (.ref f)) (b : Binds K fd ["row", "place"] []) (m_len : mg "len" = none) : Has P w K mg base 1 "can_pass" ["row", "place"] (spCanPassZ K) f fd := by
  refine ⟨F.ok sc_can_pass (fun vs H Q E h => ?_) (fun cdv A outer s H vs Q E hr h => ?_), g, F.kp, b⟩
  · obtain ⟨v, rs, p, rfl, _⟩ := h
    rfl
  · obtain ⟨v, rs, p, rfl, hv, q⟩ := h
    refine ⟨_, PSs.nox (pss_cons (ps_if (PW.pt (pw_or (pt_cmpR op_lt (pv 1) pe_int (nomark _)) (pw_or1 (pt_cmpR op_ge (pv 1) (pe_callB call_len_seq (by rfl) m_len PySem.boot_len (pa_cons (pv 0) pa_nil)) (nomark _))))) (pss_one (ps_ret pe_bl)) pss_nil)
      (pss_cons (ps_asg (pe_ix ix_tup (pv 0) (pe_op op_sub (pv 1) pe_int) (fun _ _ => rfl)) (pg_tup rfl (pgs_cons (pg_name (i := 2) sc_can_pass.nd rfl (Or.inl rfl)) (pgs_cons (pg_name (i := 3) sc_can_pass.nd rfl (Or.inl rfl)) pgs_nil))))
      (pss_one (ps_ret (pe_cmpR op_gt (pe_op op_sub (pe_ix ix_tup (pe_ix ix_tup (pv 0) (pv 1) (fun _ _ => rfl)) pe_int (fun _ _ => rfl)) (pv 3)) (pv 2) (nomark _)))))), ?_⟩
    refine q_when (b := decide (p < 1) || decide (p ≥ (rs.length : Int))) (et_or (et_B (ev_op (ev_var rfl) ev_c rv_I0)) fun _ => et_B (ev_op (ev_var rfl) (ev_lenR (ev_var rfl) hv) rv_I0)) (fun hb H1 e1 => ?_) (fun hb H1 e1 => ?_)
    · refine s_ret ev_c fun H2 e2 => ?_
      have e : letsZ rs p = false := by
        unfold letsZ
        rw [decide_eq_false, Bool.false_and]
        rcases (Bool.or_eq_true _ _).mp hb with h | h
        · have := of_decide_eq_true h
          omega
        · have := of_decide_eq_true h
          omega
      rw [e] at q
      exact q H2 (e1.trans e2)
    · obtain ⟨h1, h2⟩ := Bool.or_eq_false_iff.mp hb
      have h1 := of_decide_eq_false h1
      have h2 := of_decide_eq_false h2
      obtain ⟨j, rfl⟩ := Int.eq_ofNat_of_zero_le (show 0 ≤ p by omega)
      have hj0 : 0 < j := by omega
      have hj : j < rs.length := by omega
      obtain ⟨a, h1, h2⟩ := ev_beast (te := tVar 0) (ti := tOp (rI0 fun i j => .int (i - j)) (tVar 1) (tC (.int 1))) (σ := start ["row", "place", "strength", "toll"] [v, .int (j : Int)]) (ev_var rfl) (hv.ex e1) (ev_op (ev_var rfl) ev_c rv_I0) (show (j : Int) - 1 = ((j - 1 : Nat) : Int) by omega) (row_get (i := j - 1) (by omega))
      refine q_asgT2 h1 h2 fun H2 e2 => ?_
      refine s_ret (ev_op (ev_op (ev_str (ev_var rfl) (hv.ex (e1.trans e2)) (ev_var rfl) rfl (row_get hj)) (ev_var rfl) rv_I0) (ev_var rfl) rv_I0) fun H3 e3 => ?_
      have e : letsZ rs (j : Int) = decide (sS rs j - tS rs (j - 1) > sS rs (j - 1)) := by
        rw [letsZ_nat hj]
        unfold letsN
        rw [decide_eq_true hj0, Bool.true_and]
      rw [e] at q
      exact q H3 ((e1.trans e2).trans e3)
theorem ok_can_fall {f : Addr} {fd : FuncData} (F : FnP K "can_fall" s_can_fall f fd) (g : mg "can_fall" = some (.ref f)) (b : Binds K fd ["row", "place"] []) (m_len : mg "len" = none) : Has P w K mg base 1 "can_fall" ["row", "place"] (spCanFallZ K) f fd := by
  refine ⟨F.ok sc_can_fall (fun vs H Q E h => ?_) (fun cdv A outer s H vs Q E hr h => ?_), g, F.kp, b⟩
  · obtain ⟨v, rs, p, rfl, _⟩ := h
    rfl
  · obtain ⟨v, rs, p, rfl, hv, q⟩ := h
    refine ⟨_, PSs.nox (pss_cons (ps_if (PW.pt (pw_or (pt_cmpR op_lt (pv 1) pe_int (nomark _)) (pw_or1 (pt_cmpR op_ge (pe_op op_add (pv 1) pe_int) (pe_callB call_len_seq (by rfl) m_len PySem.boot_len (pa_cons (pv 0) pa_nil)) (nomark _))))) (pss_one (ps_ret pe_bl)) pss_nil)
      (pss_one (ps_ret (pe_cmpR op_gt (pe_ix ix_tup (pe_ix ix_tup (pv 0) (pv 1) (fun _ _ => rfl)) pe_int (fun _ _ => rfl)) (pe_ix ix_tup (pe_ix ix_tup (pv 0) (pe_op op_add (pv 1) pe_int) (fun _ _ => rfl)) pe_int (fun _ _ => rfl)) (nomark _))))), ?_⟩
    refine q_when (b := decide (p < 0) || decide (p + 1 ≥ (rs.length : Int))) (et_or (et_B (ev_op (ev_var rfl) ev_c rv_I0)) fun _ => et_B (ev_op (ev_op (ev_var rfl) ev_c rv_I0) (ev_lenR (ev_var rfl) hv) rv_I0)) (fun hb H1 e1 => ?_) (fun hb H1 e1 => ?_)
    · refine s_ret ev_c fun H2 e2 => ?_
      have e : fallsZ rs p = false := by
        unfold fallsZ
        rw [decide_eq_false, Bool.false_and]
        rcases (Bool.or_eq_true _ _).mp hb with h | h
        · have := of_decide_eq_true h
          omega
        · have := of_decide_eq_true h
          omega
      rw [e] at q
      exact q H2 (e1.trans e2)
    · obtain ⟨h1, h2⟩ := Bool.or_eq_false_iff.mp hb
      have h1 := of_decide_eq_false h1
      have h2 := of_decide_eq_false h2
      obtain ⟨j, rfl⟩ := Int.eq_ofNat_of_zero_le (show 0 ≤ p by omega)
      have hj : j + 1 < rs.length := by omega
      refine s_ret (ev_op (ev_str (ev_var rfl) (hv.ex e1) (ev_var rfl) rfl (row_get (by omega))) (ev_str (ev_var rfl) (hv.ex e1) (ev_op (ev_var rfl) ev_c rv_I0) (show (j : Int) + 1 = ((j + 1 : Nat) : Int) by omega) (row_get hj)) rv_I0) fun H3 e3 => ?_
      rw [fallsZ_nat, decide_eq_true hj, Bool.true_and] at q
      exact q H3 (e1.trans e3)
theorem ok_passed {f f1 C1 f2 : Addr} {fd fd1 fd2 : FuncData} (F : FnP K "passed" s_passed f fd) (g : mg "passed" = some (.ref f)) (b : Binds K fd ["row", "place"] []) (x_MayNot : HasE P w K mg base .run "MayNot" "place" C1 f2 fd2) (h_can_pass : Has P w K mg base 1 "can_pass" ["row", "place"] (spCanPassZ K) f1 fd1) : HasX P w K mg base 3 "passed" ["row", "place"] (spDoX K letsZ passR C1) f fd := by
  refine ⟨F.ok sc_passed (fun vs H Q E h => ?_) (fun cdv A outer s H vs Q E hr h => ?_), g, F.kp, b⟩
  · obtain ⟨v, rs, p, rfl, _⟩ := h
    rfl
  · obtain ⟨v, rs, p, rfl, hv, hl, q, qx⟩ := h
    refine ⟨_, (pss_cons (ps_if (pt_not (pt_val (pe_call h_can_pass.G (hr.mono (by decide)) (by rfl) h_can_pass.g h_can_pass.kp h_can_pass.b .nil pass0 (pa_cons (pv 0) (pa_cons (pv 1) pa_nil))))) (pss_one (ps_raise rfl (takes_of rfl rfl rfl rfl) (pmk_x x_MayNot.T x_MayNot.F (hr.mono (by decide)) x_MayNot.b x_MayNot.g (by rfl) (pa_cons (pv 1) pa_nil)))) pss_nil)
      (pss_cons (ps_set (i := 2) sc_passed.nd rfl (.inl rfl) (pe_ix ix_tup (pv 0) (pe_op op_sub (pv 1) pe_int) (fun _ _ => rfl)))
      (pss_cons (ps_asg (pe_ix ix_tup (pv 0) (pv 1) (fun _ _ => rfl)) (pg_tup rfl (pgs_cons (pg_name (i := 3) sc_passed.nd rfl (Or.inl rfl)) (pgs_cons (pg_name (i := 4) sc_passed.nd rfl (Or.inl rfl)) pgs_nil))))
      (pss_one (ps_ret (pe_op op_catA (pe_op op_catA (pe_slice sl_tupA (pv 0) po_none (po_some (pe_op op_sub (pv 1) pe_int))) (pe_tup (pa_cons (pe_tup (pa_cons (pe_op op_sub (pv 3) (pe_ix ix_tup (pv 2) pe_int (fun _ _ => rfl))) (pa_cons (pv 4) pa_nil))) (pa_cons (pv 2) pa_nil)))) (pe_slice sl_tupA (pv 0) (po_some (pe_op op_add (pv 1) pe_int)) po_none))))))), ?_⟩
    refine q_when (b := !letsZ rs p) (et_not (et_B (ev_call (ea_cons (ev_var rfl) (ea_cons (ev_var rfl) ea_nil)) (sv_canZ hv)))) (fun z H1 e1 => ?_) fun z H1 e1 => ?_
    · refine ⟨.int p, rfl, .int p, rfl, fun d hd => ?_⟩
      exact qx (by simpa using z) d H1 e1 hd
    · have zt : letsZ rs p = true := by simpa using z
      obtain ⟨j, rfl, h0, hp, hlt⟩ := letsZ_at zt
      have q := q zt
      rw [Int.toNat_natCast] at q
      have hv1 := hv.ex e1
      have hp1 : (j : Int) - 1 = ((j - 1 : Nat) : Int) := by omega
      obtain ⟨a, ha1, ha2⟩ := ev_beast (K := K) (te := tVar 0) (ti := tOp (rI0 fun i j => .int (i - j)) (tVar 1) (tC (.int 1))) (σ := [some v, some (.int (j : Int)), none, none, none]) (ev_var rfl) hv1 (ev_op (ev_var rfl) ev_c rv_I0) hp1 (row_get (show j - 1 < rs.length by omega))
      refine q_asg ha1 fun H2 e2 => ?_
      have hv2 := hv1.ex e2
      obtain ⟨c, hc1, hc2⟩ := ev_beast (K := K) (te := tVar 0) (ti := tVar 1) (σ := [some v, some (.int (j : Int)), some (.ref a), none, none]) (ev_var rfl) hv2 (ev_var rfl) rfl (row_get hp)
      refine q_asgT2 hc1 hc2 fun H3 e3 => ?_
      have hv3 := hv2.ex e3
      have hb3 : BeastAt K H3 (.ref a) (sS rs (j - 1), tS rs (j - 1)) := ⟨a, rfl, ex_t (e2.trans e3) ha2⟩
      refine s_retR (rs := passR rs j) (er_cat (er_cat (er_to (er_val (ev_var rfl) hv3) (ev_op (ev_var rfl) ev_c rv_I0) hp1) (er_two (eb_tup (ev_op (ev_var rfl) (ev_op (ev_var rfl) ev_c (rv_ixT (K := K) (ex_t (e2.trans e3) ha2) rfl)) rv_I0) (ev_var rfl)) (eb_val (ev_var rfl) hb3)) ?_) (er_from (er_val (ev_var rfl) hv3) (ev_op (ev_var rfl) ev_c rv_I0) (show (j : Int) + 1 = ((j + 1 : Nat) : Int) by omega)) ?_) fun v' H4 e4 h4 => q v' H4 (((e1.trans e2).trans e3).trans e4) h4
      · rw [List.length_take]
        show min (j - 1) rs.length + 2 ≤ 100000
        omega
      · rw [List.length_append, List.length_take, List.length_drop]
        show min (j - 1) rs.length + 2 + (rs.length - (j + 1)) ≤ 100000
        omega
theorem ok_fallen {f f1 C1 f2 : Addr} {fd fd1 fd2 : FuncData} (F : FnP K "fallen" s_fallen f fd) (g : mg "fallen" = some (.ref f)) (b : Binds K fd ["row", "place"] []) (x_MayNot : HasE P w K mg base .run "MayNot" "place" C1 f2 fd2) (h_can_fall : Has P w K mg base 1 "can_fall" ["row", "place"] (spCanFallZ K) f1 fd1) : HasX P w K mg base 3 "fallen" ["row", "place"] (spDoX K fallsZ fallR C1) f fd := by
  refine ⟨F.ok sc_fallen (fun vs H Q E h => ?_) (fun cdv A outer s H vs Q E hr h => ?_), g, F.kp, b⟩
  · obtain ⟨v, rs, p, rfl, _⟩ := h
    rfl
  · obtain ⟨v, rs, p, rfl, hv, hl, q, qx⟩ := h
    refine ⟨_, (pss_cons (ps_if (pt_not (pt_val (pe_call h_can_fall.G (hr.mono (by decide)) (by rfl) h_can_fall.g h_can_fall.kp h_can_fall.b .nil pass0 (pa_cons (pv 0) (pa_cons (pv 1) pa_nil))))) (pss_one (ps_raise rfl (takes_of rfl rfl rfl rfl) (pmk_x x_MayNot.T x_MayNot.F (hr.mono (by decide)) x_MayNot.b x_MayNot.g (by rfl) (pa_cons (pv 1) pa_nil)))) pss_nil)
      (pss_cons (ps_asg (pe_ix ix_tup (pv 0) (pv 1) (fun _ _ => rfl)) (pg_tup rfl (pgs_cons (pg_name (i := 2) sc_fallen.nd rfl (Or.inl rfl)) (pgs_cons (pg_name (i := 3) sc_fallen.nd rfl (Or.inl rfl)) pgs_nil))))
      (pss_cons (ps_set (i := 4) sc_fallen.nd rfl (.inl rfl) (pe_ix ix_tup (pv 0) (pe_op op_add (pv 1) pe_int) (fun _ _ => rfl)))
      (pss_one (ps_ret (pe_op op_catA (pe_op op_catA (pe_slice sl_tupA (pv 0) po_none (po_some (pv 1))) (pe_tup (pa_cons (pv 4) (pa_cons (pe_tup (pa_cons (pe_op op_add (pv 2) (pe_ix ix_tup (pv 4) pe_int (fun _ _ => rfl))) (pa_cons (pv 3) pa_nil))) pa_nil)))) (pe_slice sl_tupA (pv 0) (po_some (pe_op op_add (pv 1) pe_int)) po_none))))))), ?_⟩
    refine q_when (b := !fallsZ rs p) (et_not (et_B (ev_call (ea_cons (ev_var rfl) (ea_cons (ev_var rfl) ea_nil)) (sv_canFZ hv)))) (fun z H1 e1 => ?_) fun z H1 e1 => ?_
    · refine ⟨.int p, rfl, .int p, rfl, fun d hd => ?_⟩
      exact qx (by simpa using z) d H1 e1 hd
    · have zt : fallsZ rs p = true := by simpa using z
      obtain ⟨p, rfl, hp, hlt⟩ := fallsZ_at zt
      have q := q zt
      rw [Int.toNat_natCast] at q
      have hv1 := hv.ex e1
      obtain ⟨c, hc1, hc2⟩ := ev_beast (K := K) (te := tVar 0) (ti := tVar 1) (σ := [some v, some (.int (p : Int)), none, none, none]) (ev_var rfl) hv1 (ev_var rfl) rfl (row_get (show p < rs.length by omega))
      refine q_asgT2 hc1 hc2 fun H2 e2 => ?_
      have hv2 := hv1.ex e2
      have hp1 : (p : Int) + 1 = ((p + 1 : Nat) : Int) := by omega
      obtain ⟨a, ha1, ha2⟩ := ev_beast (K := K) (te := tVar 0) (ti := tOp (rI0 fun i j => .int (i + j)) (tVar 1) (tC (.int 1))) (σ := [some v, some (.int (p : Int)), some (.int (sS rs p)), some (.int (tS rs p)), none]) (ev_var rfl) hv2 (ev_op (ev_var rfl) ev_c rv_I0) hp1 (row_get hp)
      refine q_asg ha1 fun H3 e3 => ?_
      have hv3 := hv2.ex e3
      have hb3 : BeastAt K H3 (.ref a) (sS rs (p + 1), tS rs (p + 1)) := ⟨a, rfl, ex_t e3 ha2⟩
      refine s_retR (rs := fallR rs p) (er_cat (er_cat (er_to (er_val (ev_var rfl) hv3) (ev_var rfl) rfl) (er_two (eb_val (ev_var rfl) hb3) (eb_tup (ev_op (ev_var rfl) (ev_op (ev_var rfl) ev_c (rv_ixT (K := K) (ex_t e3 ha2) rfl)) rv_I0) (ev_var rfl))) ?_) (er_from (er_val (ev_var rfl) hv3) (ev_op (ev_var rfl) ev_c rv_I0) (show (p : Int) + 2 = ((p + 2 : Nat) : Int) by omega)) ?_) fun v' H4 e4 h4 => q v' H4 (((e1.trans e2).trans e3).trans e4) h4
      · rw [List.length_take]
        show min p rs.length + 2 ≤ 100000
        omega
      · rw [List.length_append, List.length_take, List.length_drop]
        show min p rs.length + 2 + (rs.length - (p + 2)) ≤ 100000
        omega
theorem ok_swapped {f : Addr} {fd : FuncData} (F : FnP K "swapped" s_swapped f fd) (g : mg "swapped" = some (.ref f)) (b : Binds K fd ["order", "place"] []) : Has P w K mg base 1 "swapped" ["order", "place"] (spSwapO K) f fd := by
  refine ⟨F.ok sc_swapped (fun vs H Q E h => ?_) (fun cdv A outer s H vs Q E hr h => ?_), g, F.kp, b⟩
  · obtain ⟨o, l, p, rfl, _⟩ := h
    rfl
  · obtain ⟨o, l, p, rfl, ho, hp, hl, q⟩ := h
    refine ⟨_, PSs.nox (pss_one (ps_ret (pe_op op_catA (pe_op op_catA (pe_slice sl_tupA (pv 0) po_none (po_some (pv 1))) (pe_tup (pa_cons (pe_ix ix_tup (pv 0) (pe_op op_add (pv 1) pe_int) (fun _ _ => rfl)) (pa_cons (pe_ix ix_tup (pv 0) (pv 1) (fun _ _ => rfl)) pa_nil)))) (pe_slice sl_tupA (pv 0) (po_some (pe_op op_add (pv 1) pe_int)) po_none)))), ?_⟩
    have hp1 : (p : Int) + 1 = ((p + 1 : Nat) : Int) := by omega
    have at1 : atI (natsV l) ((p : Int) + 1) = some (.int (HH.ixN l (p + 1) : Int)) := by
      rw [hp1]
      exact atI_nat (natsV_at (ixN_at hp))
    have at0 : atI (natsV l) (p : Int) = some (.int (HH.ixN l p : Int)) := atI_nat (natsV_at (ixN_at (by omega)))
    have key : EvTp K (tOp (rCatA K) (tOp (rCatA K) (tSl (rSlA K) (tVar 0) tNoPart (tPart (tVar 1))) (tTup (tCons (tOp (rIxT K) (tVar 0) (tOp (rI0 fun i j => .int (i + j)) (tVar 1) (tC (.int 1)))) (tCons (tOp (rIxT K) (tVar 0) (tVar 1)) tNil)))) (tSl (rSlA K) (tVar 0) (tPart (tOp (rI0 fun i j => .int (i + j)) (tVar 1) (tC (.int 2)))) tNoPart)) [some (.ref o), some (.int (p : Int))] H ((natsV l).take p ++ [.int (HH.ixN l (p + 1) : Int), .int (HH.ixN l p : Int)] ++ (natsV l).drop (p + 2)) := by
      refine ep_cat (ep_cat (ep_to (ep_val (ev_var rfl) ho) (ev_var rfl) rfl) (ep_two (ev_op (ev_var rfl) (ev_op (ev_var rfl) ev_c rv_I0) (rv_ixT (K := K) ho at1)) (ev_op (ev_var rfl) (ev_var rfl) (rv_ixT (K := K) ho at0))) ?_) (ep_from (ep_val (ev_var rfl) ho) (ev_op (ev_var rfl) ev_c rv_I0) (show (p : Int) + 2 = ((p + 2 : Nat) : Int) by omega)) ?_
      · rw [List.length_take, natsV_len]
        show min p l.length + 2 ≤ 100000
        omega
      · rw [List.length_append, List.length_take, List.length_drop, natsV_len]
        show min p l.length + 2 + (l.length - (p + 2)) ≤ 100000
        omega
    refine key H (Ex.refl H) _ fun t H1 e1 h1 => q t H1 e1 ?_
    have e0 : natsV (swapL l p) = (natsV l).take p ++ [.int (HH.ixN l (p + 1) : Int), .int (HH.ixN l p : Int)] ++ (natsV l).drop (p + 2) := by
      unfold natsV swapL
      rw [List.map_append, List.map_append, List.map_take, List.map_drop]
      rfl
    rw [e0]
    exact h1
theorem ok_can_do {f f1 f2 : Addr} {fd fd1 fd2 : FuncData} (F : FnP K "can_do" s_can_do f fd) (g : mg "can_do" = some (.ref f)) (b : Binds K fd ["row", "word", "place"] []) (h_can_pass : Has P w K mg base 1 "can_pass" ["row", "place"] (spCanPassZ K) f1 fd1) (h_can_fall : Has P w K mg base 1 "can_fall" ["row", "place"] (spCanFallZ K) f2 fd2) : Has P w K mg base 2 "can_do" ["row", "word", "place"] (spCanDoZ K) f fd := by
  refine ⟨F.ok sc_can_do (fun vs H Q E h => ?_) (fun cdv A outer s H vs Q E hr h => ?_), g, F.kp, b⟩
  · obtain ⟨v, rs, d, rfl, _⟩ := h
    rfl
  · obtain ⟨v, rs, ⟨w', p⟩, rfl, hv, q⟩ := h
    refine ⟨_, PSs.nox (pss_cons (ps_if (pt_cmpR op_eq (pv 1) pe_str (nomark _)) (pss_one (ps_ret (pe_call h_can_pass.G (hr.mono (by decide)) (by rfl) h_can_pass.g h_can_pass.kp h_can_pass.b .nil pass0 (pa_cons (pv 0) (pa_cons (pv 2) pa_nil))))) pss_nil)
      (pss_one (ps_ret (pe_and (pe_cmpR op_eq (pv 1) pe_str (nomark _)) (pe_one (pe_call h_can_fall.G (hr.mono (by decide)) (by rfl) h_can_fall.g h_can_fall.kp h_can_fall.b .nil pass0 (pa_cons (pv 0) (pa_cons (pv 2) pa_nil)))))))), ?_⟩
    cases w' with
    | true =>
      refine q_when (b := true) (et_is (et_test (ev_op (ev_var rfl) ev_c (rv_eq rfl))) word_pass) (fun _ H1 e1 => ?_) (fun z => by cases z)
      exact s_ret (ev_call (ea_cons (ev_var rfl) (ea_cons (ev_var rfl) ea_nil)) (sv_canZ (hv.ex e1))) fun H2 e2 => q H2 (e1.trans e2)
    | false =>
      refine q_when (b := false) (et_is (et_test (ev_op (ev_var rfl) ev_c (rv_eq rfl))) word_no) (fun z => by cases z) fun _ H1 e1 => ?_
      exact s_ret (ev_is (ev_andV (a := true) (ev_is (ev_op (ev_var rfl) ev_c (rv_eq rfl)) (by rw [word_fall])) fun _ => ev_call (ea_cons (ev_var rfl) (ea_cons (ev_var rfl) ea_nil)) (sv_canFZ (hv.ex e1))) (by rw [Bool.true_and]; rfl)) fun H2 e2 => q H2 (e1.trans e2)
theorem ok_led {f f1 f2 f3 f4 C1 C2 f5 : Addr} {fd fd1 fd2 fd3 fd4 fd5 : FuncData} (F : FnP K "led" s_led f fd) (g : mg "led" = some (.ref f)) (b : Binds K fd ["row", "deeds"] []) (x_NotLet : HasE P w K mg base .run "NotLet" "number" C2 f5 fd5) (h_can_do : Has P w K mg base 2 "can_do" ["row", "word", "place"] (spCanDoZ K) f1 fd1) (h_passed : HasX P w K mg base 3 "passed" ["row", "place"] (spDoX K letsZ passR C1) f2 fd2) (h_fallen : HasX P w K mg base 3 "fallen" ["row", "place"] (spDoX K fallsZ fallR C1) f3 fd3) (h_swapped : Has P w K mg base 1 "swapped" ["order", "place"] (spSwapO K) f4 fd4)
    (m_tuple : mg "tuple" = none) (m_range : mg "range" = none) (m_len : mg "len" = none) (m_enumerate : mg "enumerate" = none) : HasX P w K mg base 4 "led" ["row", "deeds"] (spLedX K C2) f fd := by
  refine ⟨F.ok sc_led (fun vs H Q E h => ?_) (fun cdv A outer s H vs Q E hr h => ?_), g, F.kp, b⟩
  · obtain ⟨v, rs, c, us, ds, rfl, _⟩ := h
    rfl
  · obtain ⟨v, rs, c, us, ds, rfl, hv, hl, hc, hds, hdl, q, qx⟩ := h
    refine ⟨_, (pss_cons (ps_set (i := 2) sc_led.nd rfl (.inl rfl) (pv 0))
      (pss_cons (ps_set (i := 3) sc_led.nd rfl (.inl rfl) (pe_tupRg rfl (by rfl) m_tuple (prg_1 (by rfl) m_range (pe_callB call_len_seq (by rfl) m_len PySem.boot_len (pa_cons (pv 0) pa_nil)))))
      (pss_cons (ps_for (passes_of rfl) rfl (pi_enumA (by rfl) m_enumerate (pa_cons (pv 1) pa_nil)) (pg_tup rfl (pgs_cons (pg_name (i := 4) sc_led.nd rfl (Or.inl rfl)) (pgs_cons (pg_tup rfl (pgs_cons (pg_name (i := 5) sc_led.nd rfl (Or.inl rfl)) (pgs_cons (pg_name (i := 6) sc_led.nd rfl (Or.inl rfl)) pgs_nil))) pgs_nil)))
        (pss_cons (ps_if (pt_not (pt_val (pe_call h_can_do.G (hr.mono (by decide)) (by rfl) h_can_do.g h_can_do.kp h_can_do.b .nil pass0 (pa_cons (pv 2) (pa_cons (pv 5) (pa_cons (pv 6) pa_nil)))))) (pss_one (ps_raise rfl (takes_of rfl rfl rfl rfl) (pmk_x x_NotLet.T x_NotLet.F (hr.mono (by decide)) x_NotLet.b x_NotLet.g (by rfl) (pa_cons (pv 4) pa_nil)))) pss_nil)
      (pss_one (ps_if (pt_cmpR op_eq (pv 5) pe_str (nomark _)) (pss_cons (ps_set (i := 2) sc_led.nd rfl (.inl rfl) (pe_callS h_passed.G (hr.mono (by decide)) (by rfl) h_passed.g h_passed.kp h_passed.b (fun σ => passAt (takes_of rfl rfl rfl rfl) σ) (pa_cons (pv 2) (pa_cons (pv 6) pa_nil))))
      (pss_one (ps_set (i := 3) sc_led.nd rfl (.inl rfl) (pe_call h_swapped.G (hr.mono (by decide)) (by rfl) h_swapped.g h_swapped.kp h_swapped.b .nil pass0 (pa_cons (pv 3) (pa_cons (pe_op op_sub (pv 6) pe_int) pa_nil)))))) (pss_cons (ps_set (i := 2) sc_led.nd rfl (.inl rfl) (pe_callS h_fallen.G (hr.mono (by decide)) (by rfl) h_fallen.g h_fallen.kp h_fallen.b (fun σ => passAt (takes_of rfl rfl rfl rfl) σ) (pa_cons (pv 2) (pa_cons (pv 6) pa_nil))))
      (pss_one (ps_set (i := 3) sc_led.nd rfl (.inl rfl) (pe_call h_swapped.G (hr.mono (by decide)) (by rfl) h_swapped.g h_swapped.kp h_swapped.b .nil pass0 (pa_cons (pv 3) (pa_cons (pv 6) pa_nil))))))))))
      (pss_one (ps_ret (pe_tup (pa_cons (pv 2) (pa_cons (pv 3) pa_nil)))))))), ?_⟩
    refine q_asg (ev_var rfl) fun H1 e1 => ?_
    obtain ⟨a5, vs5, rfl, ta5, bs5⟩ := hv.ex e1
    refine ⟨.ref a5, rfl, a5, vs5, rfl, .inr ta5, _, rfl, RgOk.of_le (by decide) (by rw [bs5.1]; omega) (by decide) (by omega), fun rt hrt => ?_⟩
    have erg : rgV 0 (vs5.length : Int) = natsV (List.range rs.length) := by
      rw [bs5.1, ord_tag, ordL_nats, tag_ids]
    rw [erg]
    have n2 := Ex.new (o := .tup (natsV (List.range rs.length))) hrt
    have hot : SqT K (upd H1 rt (.tup (natsV (List.range rs.length)))) rt (natsV (List.range rs.length)) := st_of upd_same
    have e2 := e1.trans n2
    generalize upd H1 rt (.tup (natsV (List.range rs.length))) = H2 at e2 hot ⊢
    have hv2 := hv.ex e2
    refine q_enumA (K := K) (a := c) (xs := us) (ev_var rfl) (Ex.refl H2) (hc.ex e2) (fun i σ' H' => Ex H2 H' ∧ ∃ (v' : V) (t : Addr) (s : StZ) (y4 y5 y6 : Option V), σ' = [some (.ref a5), some (.ref c), some v', some (.ref t), y4, y5, y6] ∧ ledK (rs, List.range rs.length) ds 0 = ledK s (ds.drop i) i ∧ s.1.length = rs.length ∧ s.2.length = rs.length ∧ RowAt K H' v' s.1 ∧ SqT K H' t (natsV s.2)) (fun H3 e3 => ⟨e3, _, _, (rs, List.range rs.length), _, _, _, rfl, rfl, rfl, List.length_range, hv2.ex e3, ex_t e3 hot⟩) (fun i σ' H' _ hW => hW.1) (fun i x σ' H' T hx hW hT => ?_) (fun σ' H' hW => ?_)
    · obtain ⟨x3, v', t, s, y4, y5, y6, rfl, hk, l1, l2, hr3, ho3⟩ := hW
      obtain ⟨d, hd, hdz⟩ := All2.get (hds.ex' (e2.trans x3)) hx
      obtain ⟨dp, rfl, hdp⟩ := hdz
      have hstep := led_drop hk hd
      have nT := Ex.new (o := .tup [V.int (i : Nat), .ref dp]) hT
      refine ⟨T, _, rfl, st_of upd_same, rfl, _, _, rfl, _, _, rfl, ⟨dp, _, rfl, ex_t nT hdp, rfl, _, _, rfl, _, _, rfl, rfl, rfl, ?_⟩⟩
      have x4 := x3.trans nT
      have hr4 := hr3.ex nT
      have ho4 := ex_t nT ho3
      generalize upd H' T (.tup [V.int (i : Nat), .ref dp]) = H4 at x4 hr4 ho4 ⊢
      refine q_when (b := !canZ s.1 d) (et_not (et_B (ev_call (z := .bl (canZ s.1 d)) (ea_cons (ev_var rfl) (ea_cons (ev_var rfl) (ea_cons (ev_var rfl) ea_nil))) (fun H5 e5 Q5 q5 E5 => ⟨_, s.1, d, rfl, hr4.ex e5, q5⟩)))) (fun z H5 e5 => ?_) fun z H5 e5 => ?_
      · have hc0 : canZ s.1 d = false := by simpa using z
        rw [if_neg (by rw [hc0]; decide)] at hstep
        refine ⟨.int (i : Int), rfl, .int (i : Int), rfl, fun d hd => ?_⟩
        exact qx i hstep d H5 ((e2.trans x4).trans e5) hd
      · have hc1 : canZ s.1 d = true := by simpa using z
        rw [if_pos hc1] at hstep
        obtain ⟨ml, al⟩ := mov_len hc1
        have hr5 := hr4.ex e5
        have ho5 := ex_t e5 ho4
        have x5 := x4.trans e5
        rcases canZ_at hc1 with ⟨d1, j, d2, j0, jl, jm⟩ | ⟨d1, j, d2, jl, jm⟩
        · have em : movZ s.1 d = passR s.1 j := by unfold movZ; rw [d1, d2, if_pos rfl, Int.toNat_natCast]
          have ea : atZ d = j - 1 := by unfold atZ; rw [d1, d2, if_pos rfl, Int.toNat_natCast]
          have cz : letsZ s.1 (j : Int) = true := by
            have := hc1
            unfold canZ at this
            rw [d1, d2, if_pos rfl] at this
            exact this
          rw [d1, d2]
          refine s_if (b := true) (et_is (et_test (ev_op (ev_var rfl) ev_c (rv_eq rfl))) word_pass) (fun _ H6 e6 => ?_) (fun z => by cases z)
          refine ⟨v', rfl, .int (j : Int), rfl, v', s.1, (j : Int), rfl, hr5.ex e6, by omega, fun _ v2 H7 e7 hv7 => ?_, fun z => by rw [cz] at z; cases z⟩
          rw [Int.toNat_natCast] at hv7
          refine ⟨.ref t, rfl, (ev_is (ev_op (ev_var rfl) ev_c rv_I0) (show V.int ((j : Int) - 1) = V.int ((j - 1 : Nat) : Int) by congr 1; omega) : Ev (tOp (rI0 fun i j => .int (i - j)) (tVar 6) (tC (.int 1))) _ H7 (.int ((j - 1 : Nat) : Int))) H7 (Ex.refl H7) _ fun H8 e8 => ⟨t, s.2, j - 1, rfl, ex_t ((e6.trans e7).trans e8) ho5, by omega, by omega, fun t2 H9 e9 ht9 => ?_⟩⟩
          exact ⟨((x5.trans e6).trans e7).trans (e8.trans e9), v2, t2, (movZ s.1 d, swapL s.2 (atZ d)), _, _, _, rfl, hstep, by rw [ml]; exact l1, by rw [swapL_len (by omega)]; exact l2, by rw [em]; exact hv7.ex (e8.trans e9), by rw [ea]; exact ht9⟩
        · have em : movZ s.1 d = fallR s.1 j := by unfold movZ; rw [d1, d2, if_neg (by decide), Int.toNat_natCast]
          have ea : atZ d = j := by unfold atZ; rw [d1, d2, if_neg (by decide), Int.toNat_natCast]
          have cz : fallsZ s.1 (j : Int) = true := by
            have := hc1
            unfold canZ at this
            rw [d1, d2, if_neg (by decide)] at this
            exact this
          rw [d1, d2]
          refine s_if (b := false) (et_is (et_test (ev_op (ev_var rfl) ev_c (rv_eq rfl))) word_no) (fun z => by cases z) fun _ H6 e6 => ?_
          refine ⟨v', rfl, .int (j : Int), rfl, v', s.1, (j : Int), rfl, hr5.ex e6, by omega, fun _ v2 H7 e7 hv7 => ?_, fun z => by rw [cz] at z; cases z⟩
          rw [Int.toNat_natCast] at hv7
          refine ⟨.ref t, rfl, .int (j : Int), rfl, t, s.2, j, rfl, ex_t (e6.trans e7) ho5, by omega, by omega, fun t2 H9 e9 ht9 => ?_⟩
          exact ⟨((x5.trans e6).trans e7).trans e9, v2, t2, (movZ s.1 d, swapL s.2 (atZ d)), _, _, _, rfl, hstep, by rw [ml]; exact l1, by rw [swapL_len (by omega)]; exact l2, by rw [em]; exact hv7.ex e9, by rw [ea]; exact ht9⟩
    · obtain ⟨x3, v', t, s, y4, y5, y6, rfl, hk, l1, l2, hr3, ho3⟩ := hW
      rw [All2.len hds, List.drop_length] at hk
      refine ⟨v', rfl, .ref t, rfl, by show 2 ≤ sizeLine; decide, fun qq hqq => ?_⟩
      have nq := Ex.new (o := .tup [v', .ref t]) hqq
      exact q s hk qq v' t _ ((e2.trans x3).trans nq) upd_same (hr3.ex nq) (ex_t nq ho3)
theorem ok_places_of {f : Addr} {fd : FuncData} (F : FnP K "places_of" s_places_of f fd) (g : mg "places_of" = some (.ref f)) (b : Binds K fd ["order"] []) (m_enumerate : mg "enumerate" = none) : Has P w K mg base 1 "places_of" ["order"] (spPlaces K) f fd := by
  refine ⟨F.ok sc_places_of (fun vs H Q E h => ?_) (fun cdv A outer s H vs Q E hr h => ?_), g, F.kp, b⟩
  · obtain ⟨o, l, rfl, _⟩ := h
    rfl
  · obtain ⟨o, l, rfl, ho, nd, hl, q⟩ := h
    have hu := room_u1 hr
    refine ⟨_, PSs.nox (pss_one (ps_ret (pe_dc (own := [("place", 1), ("who", 2)]) (g := gTup K 2 (gCons (gName 1) (gCons (gName 2) gNil))) (by rfl) sc_places_of.nd (pi_enumT (by rfl) m_enumerate (pa_cons (pv 0) pa_nil)) (blkOk_by (own := [("place", 1), ("who", 2)]) (N := ["order", "place", "who"]) (sc := defScope s_places_of) (by decide +kernel)) (fun _ _ _ _ _ => (pg_tup rfl (pgs_cons (pg_name (i := 1) sc_places_of.nd rfl (Or.inl rfl)) (pgs_cons (pg_name (i := 2) sc_places_of.nd rfl (Or.inl rfl)) pgs_nil)))) (fun _ _ _ _ _ => pts_nil) (fun _ _ _ _ _ => (pv 2)) (fun _ _ _ _ _ => (pv 1))))), ?_⟩
    have hlen : (natsV l).length = l.length := List.length_map ..
    have hget : ∀ k x : Nat, l[k]? = some x → (natsV l)[k]? = some (V.int (x : Int)) := fun k x h => by
      unfold natsV
      rw [List.getElem?_map, h]
      rfl
    refine ⟨.ref o, rfl, o, _, rfl, ho, fun Dd hDd => ?_⟩
    refine in_it (walk_enumT (xs := natsV l)) (fun k H2 => Ex H H2 ∧ ∃ kvs, H2 Dd = some (.dK kvs) ∧ PlacesD l k kvs) ⟨Ex.new hDd, [], upd_same, ⟨(fun i x hi => absurd hi (Nat.not_lt_zero _)), Nat.le_refl _⟩⟩ (fun k H2 _ p => ex_t p.1 ho) (fun k x H2 H3 hk p y => ?_) (fun H2 p => ?_)
    · obtain ⟨p1, kvs, p2, p3⟩ := p
      obtain ⟨T, x1, x2, rfl, hT, rfl, hx1, hx2⟩ := y
      have hk' : k < l.length := by rw [← hlen]; exact hk
      cases hx1
      have hx2 : (natsV l)[k]? = some x2 := hx2
      rw [hget k _ (List.getElem?_eq_getElem hk')] at hx2
      cases hx2
      have e3 : Ex H2 (upd H2 T (.tup [.int (k : Int), .int (l[k] : Int)])) := Ex.new hT
      refine ⟨T, _, rfl, st_of upd_same, rfl, _, _, rfl, _, _, rfl, rfl, rfl, ?_⟩
      refine ⟨.int (l[k] : Int), rfl, .int (k : Int), rfl, kvs, .inl (l[k] : Int), rfl, e3 _ _ p2, ?_, ?_, _, upd_same, p3.put nd (List.getElem?_eq_getElem hk')⟩
      · have := p3.few
        exact sz_lt (by omega)
      · exact Ex.mut (p1.trans e3) hDd
    · obtain ⟨p1, kvs, p2, p3⟩ := p
      rw [hlen] at p3
      exact q Dd kvs H2 hDd p1 p2 p3
theorem ok_turned_about {f f1 : Addr} {fd fd1 : FuncData} (F : FnP K "turned_about" s_turned_about f fd) (g : mg "turned_about" = some (.ref f)) (b : Binds K fd ["order"] []) (h_places_of : Has P w K mg base 1 "places_of" ["order"] (spPlaces K) f1 fd1) (m_len : mg "len" = none) (m_range : mg "range" = none) : Has P w K mg base 2 "turned_about" ["order"] (spTurnedT K) f fd := by
  refine ⟨F.ok sc_turned_about (fun vs H Q E h => ?_) (fun cdv A outer s H vs Q E hr h => ?_), g, F.kp, b⟩
  · obtain ⟨o, l, rfl, _⟩ := h
    rfl
  · obtain ⟨o, l, rfl, ho, nd, hall, hl, q⟩ := h
    have hu := room_u1 hr
    refine ⟨_, PSs.nox (pss_cons (ps_set (i := 1) sc_turned_about.nd rfl (.inr rfl) (pe_call h_places_of.G (hr.mono (by decide)) (by rfl) h_places_of.g h_places_of.kp h_places_of.b .nil pass0 (pa_cons (pv 0) pa_nil)))
      (pss_cons (ps_set (i := 2) sc_turned_about.nd rfl (.inr rfl) (pe_callB call_len_seq (by rfl) m_len PySem.boot_len (pa_cons (pv 0) pa_nil)))
      (pss_one (ps_ret (pe_lc2 (own := [("one", 3), ("other", 4)]) (vs1 := [4]) (g := gName 3) (g1 := gName 4) (by rfl) sc_turned_about.nd (pi_range1 (by rfl) m_range (pa_cons (pv 2) pa_nil)) (blkOk_by (own := [("one", 3), ("other", 4)]) (N := ["order", "place_of", "many", "one", "other"]) (sc := defScope s_turned_about) (by decide +kernel)) (by decide) (fun _ _ _ _ _ => (pg_name (i := 3) sc_turned_about.nd rfl (Or.inl rfl))) (fun _ _ _ _ _ => pts_nil) (fun _ _ _ _ _ => (pi_range2 (by rfl) m_range (pa_cons (pe_op op_add (pv 3) pe_int) (pa_cons (pv 2) pa_nil)))) (fun _ _ _ _ _ => (pg_name (i := 4) sc_turned_about.nd rfl (Or.inl rfl))) (fun _ _ _ _ _ => (pts_one (pt_cmpR op_lt (pe_dget hu (pv 1) (pv 4) (fun _ _ => rfl)) (pe_dget hu (pv 1) (pv 3) (fun _ _ => rfl)) (nomark _)))) (fun _ _ _ _ _ => (pe_tup (pa_cons (pv 3) (pa_cons (pv 4) pa_nil))))))))), ?_⟩
    have hlen : (natsV l).length = l.length := List.length_map ..
    refine ⟨.ref o, rfl, o, l, rfl, ho, nd, hl, fun Dd kvs H2 hDd p1 p2 p3 => ?_⟩
    refine q_asg (ev_lenT (K := K) (ev_var rfl) (ex_t p1 ho)) fun H3 e3 => ?_
    rw [hlen]
    have p2' := e3 _ _ p2
    have x13 := p1.trans e3
    have hpl : ∀ j : Nat, j < l.length → ∃ p : Nat, l[p]? = some j ∧ valV kvs (.inl (j : Int)) = some (.int (p : Int)) := fun j hj => by
      obtain ⟨p, hp⟩ := List.getElem?_of_mem (hall j hj)
      exact ⟨p, hp, p3.at' p j (List.getElem?_eq_some_iff.mp hp).1 hp⟩
    refine ⟨.int (l.length : Int), rfl, (l.length : Int), rfl, by omega, by omega, fun Dl hDl => ?_⟩
    refine in_it walk_range (fun i H4 => Ex H3 H4 ∧ ∃ us, H4 Dl = some (.lst us) ∧ BeastsT H4 us (tab l l.length i)) ⟨Ex.new hDl, [], upd_same, All2.nil⟩ (fun _ _ _ _ => True.intro) (fun i x H4 H5 hi p y => ?_) (fun H4 p => ?_)
    · obtain ⟨rfl, hx⟩ := y
      have hx : x = V.int ((0 : Int) + (i : Int)) := hx
      rw [Int.zero_add] at hx
      subst hx
      obtain ⟨r1, us, r2, r3⟩ := p
      have hi' : i < l.length := by omega
      obtain ⟨pi, hpi, hvi⟩ := hpl i hi'
      refine ⟨rfl, ?_⟩
      refine t_yes ?_
      refine i_rng2 (i := (i : Int) + 1) (j := (l.length : Int)) (ea_cons (ev_op (ev_var rfl) ev_c rv_I0) (ea_cons (ev_var rfl) ea_nil)) ⟨by omega, by omega, by omega, by omega⟩ fun H6 e6 => ?_
      have hn : (((l.length : Nat) : Int) - ((i : Int) + 1)).toNat = l.length - (i + 1) := by omega
      rw [hn]
      refine in_it walk_range (fun j H7 => Ex H3 H7 ∧ ∃ us, H7 Dl = some (.lst us) ∧ BeastsT H7 us (tab l l.length i ++ tabR l l.length i j)) ⟨r1.trans e6, us, e6 _ _ r2, by
          show BeastsT H6 us (tab l l.length i ++ [])
          rw [List.append_nil]
          exact BeastsT.ex' r3 e6⟩ (fun _ _ _ _ => True.intro) (fun j x H7 H8 hj p y => ?_) (fun H7 p => ?_)
      · obtain ⟨rfl, hx⟩ := y
        have ej : (i : Int) + 1 + (j : Int) = ((i + 1 + j : Nat) : Int) := by omega
        have hx : x = V.int ((i : Int) + 1 + (j : Int)) := hx
        rw [ej] at hx
        subst hx
        obtain ⟨s1, us, s2, s3⟩ := p
        obtain ⟨pj, hpj, hvj⟩ := hpl (i + 1 + j) (by omega)
        have d8 := s1 _ _ p2'
        refine ⟨rfl, ?_⟩
        refine t_ev (b := decide ((pj : Int) < (pi : Int))) (et_test (ev_op (ev_dget (k := .inl ((i + 1 + j : Nat) : Int)) (ev_var rfl) (ev_var rfl) d8 hvj) (ev_dget (k := .inl (i : Int)) (ev_var rfl) (ev_var rfl) d8 hvi) rv_I0)) fun H9 e9 => ?_
        have hb : decide ((pj : Int) < (pi : Int)) = inP l i j := by
          unfold inP
          rw [bef_iff nd hpj hpi]
          by_cases h : pj < pi
          · rw [decide_eq_true h, decide_eq_true (by omega)]
          · rw [decide_eq_false h, decide_eq_false (by omega)]
        rw [hb]
        have e10 := tabR_succ l l.length i j
        cases hin : inP l i j with
        | true =>
          rw [hin, if_pos rfl] at e10
          refine ⟨_, rfl, _, rfl, by show 2 ≤ sizeLine; decide, fun TT hT => ?_⟩
          have g1 : (upd H9 TT (.tup [.int (i : Int), .int ((i + 1 + j : Nat) : Int)])) Dl = some (.lst us) := Ex.new hT _ _ (e9 _ _ s2)
          refine ⟨us, g1, ?_, Ex.mut ((s1.trans e9).trans (Ex.new hT)) hDl, us ++ [.ref TT], upd_same, ?_⟩
          · rw [All2.len s3, List.length_append]
            have h1 := tab_len l l.length i
            have h2 := tabR_len l l.length i j
            have h3 : i * l.length ≤ 30 * 30 := Nat.mul_le_mul (by omega) hl
            exact sz_lt (by omega)
          · rw [e10, ← List.append_assoc]
            exact BeastsT.exB' (All2.app (BeastsT.ex' (BeastsT.ex' s3 e9) (Ex.new hT)) (.cons ⟨TT, rfl, upd_same⟩ .nil)) (ExB.refl _ _).upd g1
        | false =>
          rw [hin, if_neg (by decide), List.append_nil] at e10
          refine ⟨s1.trans e9, us, e9 _ _ s2, ?_⟩
          rw [e10]
          exact BeastsT.ex' s3 e9
      · obtain ⟨s1, us, s2, s3⟩ := p
        rw [← tab_succ] at s3
        exact ⟨s1, us, s2, s3⟩
    · obtain ⟨r1, us, r2, r3⟩ := p
      exact q Dl us H4 (fresh_back x13 hDl) (x13.trans r1) r2 r3
theorem ok_law_dip {f : Addr} {fd : FuncData} (F : FnP K "_law_dip" s_law_dip f fd) (g : mg "_law_dip" = some (.ref f)) (b : Binds K fd ["_law_script", "_law_k"] []) (m_len : mg "len" = none) (m_abs : mg "abs" = none) (m_int : mg "int" = none) :
    Has P w K mg base 1 "_law_dip" ["_law_script", "_law_k"] (spDip K) f fd := by
  refine ⟨F.ok sc_law_dip (fun vs H Q E h => ?_) (fun cdv A outer s H vs Q E hr h => ?_), g, F.kp, b⟩
  · obtain ⟨a, k, ns, rfl, _⟩ := h
    rfl
  · obtain ⟨a, k, ns, rfl, hS, hk, q⟩ := h
    refine ⟨_, PSs.nox (pss_cons (ps_set (i := 2) sc_law_dip.nd rfl (.inl rfl) (pe_ifExp (pt_cmpR op_lt (pv 1) (pe_callB call_len_seq (by rfl) m_len PySem.boot_len (pa_cons (pv 0) pa_nil)) (nomark _)) (pe_ix ix_list (pv 0) (pv 1) (fun _ _ => rfl)) pe_int))
      (pss_one (ps_ret (pe_lst (pa_cons (pe_op op_mul (pe_callB call_abs (by rfl) m_abs (by decide +kernel) (pa_cons (pv 2) pa_nil)) (pe_callTy call_int1 (by rfl) m_int (by decide +kernel) (pa_cons (pe_cmpR op_ge (pe_callB call_abs (by rfl) m_abs (by decide +kernel) (pa_cons (pv 2) pa_nil)) (pe_op op_pow pe_int pe_int) (nomark _)) pa_nil))) (pa_cons (pe_op op_add (pe_op op_add (pe_op op_modN (pv 2) pe_int) (pe_op op_mul pe_int (pv 1))) pe_int) (pa_cons pe_int pa_nil))))))), ?_⟩
    refine q_asg (v := .int (ns.getD k 0)) (ev_if (b := decide ((k : Int) < ((ns.map V.int).length : Int))) (et_test (ev_op (ev_var rfl) (ev_len (ev_var rfl) hS) rv_I0)) (fun hd => ?_) (fun hd => ?_)) fun H1 e1 => ?_
    · have hk2 : k < ns.length := by
        have := of_decide_eq_true hd
        rw [List.length_map] at this
        omega
      have e : (ns.map V.int)[k]? = some (.int (ns.getD k 0)) := by
        rw [List.getElem?_map, List.getElem?_eq_getElem hk2, List.getD_eq_getElem?_getD, List.getElem?_eq_getElem hk2] <;> rfl
      exact ev_op (ev_var rfl) (ev_var rfl) (rv_ixL hS (atI_nat e))
    · have hk2 : ns.length ≤ k := by
        have := of_decide_eq_false hd
        rw [List.length_map] at this
        omega
      refine ev_is ev_c ?_
      rw [List.getD_eq_getElem?_getD, List.getElem?_eq_none hk2] <;> rfl
    · generalize ns.getD k 0 = c
      have r1 := fmod_lo (a := c) (show (0 : Int) < 2305843009213693951 by decide)
      have r2 := fmod_hi (a := c) (show (0 : Int) < 2305843009213693951 by decide)
      refine s_retL (el_lst (ea_cons (ev_op (ev_cb (ea_cons (ev_var rfl) ea_nil) rc_abs) (ev_cb (ea_cons (ev_op (ev_cb (ea_cons (ev_var rfl) ea_nil) rc_abs) (ev_op ev_c ev_c (rv_I ⟨by decide, by decide, by decide⟩)) rv_I0) ea_nil) rc_intB) (rv_I (.inr ?_))) (ea_cons (ev_op (ev_op (ev_op (ev_var rfl) ev_c (rv_I (by decide))) (ev_op ev_c (ev_var rfl) (rv_I (.inl ⟨by decide, by decide⟩))) rv_I0) ev_c rv_I0) (ea_cons ev_c ea_nil))) (by show 3 ≤ 100000; decide)) fun p H2 hp e2 h2 => ?_
      · exact b01 _
      · refine q p H2 (fresh_back e1 hp) (e1.trans e2) ⟨_, _, _, h2, ?_, by omega, by omega, by decide, by decide⟩
        refine Int.mul_nonneg ?_ ?_
        · split <;> omega
        · exact b01n _
theorem ok_law_take {f : Addr} {fd : FuncData} (F : FnP K "_law_take" s_law_take f fd) (g : mg "_law_take" = some (.ref f)) (b : Binds K fd ["_law_box", "_law_many"] []) : Has P w K mg base 1 "_law_take" ["_law_box", "_law_many"] spTake f fd := by
  refine ⟨F.ok sc_law_take (fun vs H Q E h => ?_) (fun cdv A outer s H vs Q E hr h => ?_), g, F.kp, b⟩
  · obtain ⟨p, m, n, rfl, _⟩ := h
    rfl
  · obtain ⟨p, m, n, rfl, hm, hm2, ⟨a, b, c, hb, ha, hb0, hb1, hc0, hc1⟩, hn, q⟩ := h
    refine ⟨_, PSs.nox (pss_cons (ps_if (pt_cmpR op_gt (pe_ix ix_list (pv 0) pe_int (fun _ _ => rfl)) pe_int (nomark _)) (pss_cons (ps_set (i := 2) sc_law_take.nd rfl (.inl rfl) (pe_op op_modN (pe_ix ix_list (pv 0) pe_int (fun _ _ => rfl)) (pv 1)))
      (pss_cons (ps_asg (pe_op op_fdivW (pe_ix ix_list (pv 0) pe_int (fun _ _ => rfl)) (pv 1)) (pg_sub (pv 0) pe_int set_list))
      (pss_one (ps_ret (pv 2))))) pss_nil)
      (pss_cons (ps_asg (pe_op op_add (pe_ix ix_list (pv 0) pe_int (fun _ _ => rfl)) pe_int) (pg_sub (pv 0) pe_int set_list))
      (pss_cons (ps_set (i := 3) sc_law_take.nd rfl (.inl rfl) (pe_op op_modN (pe_op op_powW (pe_op op_add (pe_ix ix_list (pv 0) pe_int (fun _ _ => rfl)) (pe_op op_mul pe_int (pe_ix ix_list (pv 0) pe_int (fun _ _ => rfl)))) pe_int) pe_int))
      (pss_cons (ps_set (i := 4) sc_law_take.nd rfl (.inl rfl) (pe_op op_modN (pe_op op_mulW (pe_op op_add (pe_op op_add (pv 3) (pe_ix ix_list (pv 0) pe_int (fun _ _ => rfl))) (pe_op op_fdivW (pe_ix ix_list (pv 0) pe_int (fun _ _ => rfl)) pe_int)) (pe_op op_add (pe_op op_add (pe_op op_modN (pv 3) pe_int) pe_int) (pe_ix ix_list (pv 0) pe_int (fun _ _ => rfl)))) pe_int))
      (pss_one (ps_ret (pe_op op_modN (pe_op op_fdivW (pe_op op_modN (pe_op op_add (pe_op op_mul (pv 4) pe_int) (pv 3)) pe_int) pe_int) (pv 1)))))))), ?_⟩
    refine q_when (b := decide (a > 0)) (et_B (ev_op (ev_op (ev_var rfl) ev_c (rv_ixL (sq_of hb) rfl)) ev_c rv_I0)) (fun hd H1 e1 => ?_) (fun hd H1 e1 => ?_)
    · have hb1' := e1 _ _ hb
      refine q_asg (ev_op (ev_op (ev_var rfl) ev_c (rv_ixL (sq_of hb1') rfl)) (ev_var rfl) (rv_I (show m ≠ 0 by omega))) fun H2 e2 => ?_
      have hb2' := e2 _ _ hb1'
      refine q_setL (j := 0) hb2' (ev_op (ev_op (ev_var rfl) ev_c (rv_ixL (sq_of hb2') rfl)) (ev_var rfl) (rv_I (divW_ok hm hm2))) (ev_var rfl) ev_c (by show 0 < 3; decide) fun H3 e3 => ?_
      refine s_ret (ev_var rfl) fun H4 e4 => ?_
      refine q _ H4 (fmod_lo hm) (fmod_hi hm) (((ExB.of ((e1.trans e2).trans e3)).upd).trans (.of e4)) ⟨a / m, b, c, e4 _ _ upd_same, Int.ediv_nonneg ha (by omega), hb0, hb1, hc0, by omega⟩
    · have hb1' := e1 _ _ hb
      refine q_setL (j := 2) hb1' (ev_op (ev_op (ev_var rfl) ev_c (rv_ixL (sq_of hb1') rfl)) ev_c rv_I0) (ev_var rfl) ev_c (by show 2 < 3; decide) fun H2 e2 => ?_
      have hx : upd H2 p (.lst ([V.int a, .int b, .int c].set 2 (.int (c + 1)))) p = some (.lst [V.int a, .int b, .int (c + 1)]) := upd_same
      have eb : ExB p H (upd H2 p (.lst ([V.int a, .int b, .int c].set 2 (.int (c + 1))))) := (ExB.of (e1.trans e2)).upd
      generalize upd H2 p (.lst ([V.int a, .int b, .int c].set 2 (.int (c + 1)))) = H3 at hx eb ⊢
      have hlim : c + 1 ≤ (Lim : Int) + 1 := by omega
      have g1 : CPowW (b + 39373 * (c + 1)) 5 := pow_ok (big_of (by omega) hlim 39373 b (by decide) (by decide) hb0 (by omega))
      have r1 := fmod_lo (a := (b + 39373 * (c + 1)) ^ (5 : Int).toNat) (show (0 : Int) < 2147483647 by decide)
      have r2 := fmod_hi (a := (b + 39373 * (c + 1)) ^ (5 : Int).toNat) (show (0 : Int) < 2147483647 by decide)
      refine q_asg (v := .int (((b + 39373 * (c + 1)) ^ (5 : Int).toNat).fmod 2147483647)) (ev_op (ev_op (ev_op (ev_op (ev_var rfl) ev_c (rv_ixL (sq_of hx) rfl)) (ev_op ev_c (ev_op (ev_var rfl) ev_c (rv_ixL (sq_of hx) rfl)) (rv_I (.inl ⟨by decide, by decide⟩))) rv_I0) ev_c (rv_I g1)) ev_c (rv_I (by decide))) fun H4 e4 => ?_
      generalize ((b + 39373 * (c + 1)) ^ (5 : Int).toNat).fmod 2147483647 = o at r1 r2 ⊢
      have hx4 := e4 _ _ hx
      have d0 : 0 ≤ b / 1000003 := by omega
      have d1 : b / 1000003 ≤ b := by omega
      have g2 : CMulW (o + (c + 1) + b / 1000003) (o.fmod 40009 + 7 + (c + 1)) := by
        have s1 := fmod_lo (a := o) (show (0 : Int) < 40009 by decide)
        have s2 := fmod_hi (a := o) (show (0 : Int) < 40009 by decide)
        have e1 : o + (c + 1) + b / 1000003 = (o + b / 1000003) + 1 * (c + 1) := by omega
        have e2 : o.fmod 40009 + 7 + (c + 1) = (o.fmod 40009 + 7) + 1 * (c + 1) := by omega
        rw [e1, e2]
        exact mulW_ok (big_of (by omega) hlim 1 _ (by decide) (by decide) (by omega) (by omega)) (big_of (by omega) hlim 1 _ (by decide) (by decide) (by omega) (by omega))
      refine q_asg (ev_op (ev_op (ev_op (ev_op (ev_var rfl) (ev_op (ev_var rfl) ev_c (rv_ixL (sq_of hx4) rfl)) rv_I0) (ev_op (ev_op (ev_var rfl) ev_c (rv_ixL (sq_of hx4) rfl)) ev_c (rv_I (divW_ok (by decide) (by decide)))) rv_I0) (ev_op (ev_op (ev_op (ev_var rfl) ev_c (rv_I (by decide))) ev_c rv_I0) (ev_op (ev_var rfl) ev_c (rv_ixL (sq_of hx4) rfl)) rv_I0) (rv_I g2)) ev_c (rv_I (by decide))) fun H5 e5 => ?_
      refine s_ret (ev_op (ev_op (ev_op (ev_op (ev_op (ev_var rfl) ev_c (rv_I (.inr ⟨by decide, by decide⟩))) (ev_var rfl) rv_I0) ev_c (rv_I (by decide))) ev_c (rv_I (divW_ok (by decide) (by decide)))) (ev_var rfl) (rv_I (show m ≠ 0 by omega))) fun H6 e6 => ?_
      refine q _ H6 (fmod_lo hm) (fmod_hi hm) (eb.trans (.of ((e4.trans e5).trans e6))) ⟨a, b, c + 1, e6 _ _ (e5 _ _ hx4), ha, hb0, hb1, by omega, by omega⟩
theorem ok_law_folded {f : Addr} {fd : FuncData} (F : FnP K "_law_folded" s_law_folded f fd) (g : mg "_law_folded" = some (.ref f)) (b : Binds K fd ["_law_script", "_law_many"] []) (m_list : mg "list" = none) (m_enumerate : mg "enumerate" = none) :
    Has P w K mg base 1 "_law_folded" ["_law_script", "_law_many"] (spFolded K) f fd := by
  refine ⟨F.ok sc_law_folded (fun vs H Q E h => ?_) (fun cdv A outer s H vs Q E hr h => ?_), g, F.kp, b⟩
  · obtain ⟨a, k, ns, rfl, _⟩ := h
    rfl
  · obtain ⟨a, m, ns, rfl, hm, hm2, hS, hlen, q⟩ := h
    refine ⟨_, PSs.nox (pss_cons (ps_set (i := 2) sc_law_folded.nd rfl (.inl rfl) (pe_callTy call_list_of (by rfl) m_list (by decide +kernel) (pa_cons (pe_slice sl_list (pv 0) po_none (po_some (pv 1))) pa_nil)))
      (pss_cons (ps_for PassesOwn.never rfl (pi_enum (by rfl) m_enumerate (pa_cons (pe_slice sl_list (pv 0) (po_some (pv 1)) (po_some pe_int)) pa_nil)) (pg_tup rfl (pgs_cons (pg_name (i := 3) sc_law_folded.nd rfl (Or.inl rfl)) (pgs_cons (pg_name (i := 4) sc_law_folded.nd rfl (Or.inl rfl)) pgs_nil)))
        (pss_one (ps_asg (pe_op op_add (pe_ix ix_list (pv 2) (pe_op op_modN (pv 3) (pv 1)) (fun _ _ => rfl)) (pe_op op_mul (pv 4) (pe_op op_add (pv 3) pe_int))) (pg_sub (pv 2) (pe_op op_modN (pv 3) (pv 1)) set_list))))
      (pss_one (ps_ret (pv 2))))), ?_⟩
    refine q_asgL (el_listN (el_sl (ev_var rfl) eo_none (eo_some (ev_var rfl)) hS)) fun l H1 hl e1 h1 => ?_
    rw [cut_to, ← List.map_take] at h1
    obtain ⟨zs, hzs, hzl⟩ := cut_ints ns (some (m : Int)) (some 63)
    rw [HT.sIx_nat] at hzl
    refine q_forE (el_sl (ev_var rfl) (eo_some (ev_var rfl)) (eo_some ev_c) (ex_l e1 hS)) (fun c i σ' H' => ∃ (y3 y4 : Option V) (ms : List Int), σ' = [some (.ref a), some (.int (m : Int)), some (.ref l), y3, y4] ∧ ms.length = min m ns.length ∧ H' l = some (.lst (ms.map V.int)) ∧ H' c = some (.lst (cutV (ns.map V.int) (some (m : Int)) (some 63))) ∧ Ex H H' ∧ l ≠ c) (fun c H2 hc e2 h2 => ?_) (fun c i σ' H' hi p => ?_) (fun c i x σ' H' T hx p hT => ?_) (fun c σ' H' p => ?_)
    · exact ⟨none, none, ns.take m, rfl, by rw [List.length_take], e2 _ _ h1, h2, e1.trans e2, ne_of_none h1 hc⟩
    · obtain ⟨y3, y4, ms, rfl, p1, p2, p3, p4, p5⟩ := p
      exact sq_of p3
    · obtain ⟨y3, y4, ms, rfl, p1, p2, p3, p4, p5⟩ := p
      rw [hzs, List.getElem?_map] at hx
      obtain ⟨z, hz, rfl⟩ := Option.map_eq_some_iff.mp hx
      have hi := (List.getElem?_eq_some_iff.mp hz).1
      have hms : ms.length = m := by omega
      refine ⟨T, _, rfl, st_of upd_same, rfl, _, _, rfl, _, _, rfl, rfl, ?_⟩
      have hlT : l ≠ T := ne_of_none p2 hT
      have h2 : (upd H' T (.tup [.int (i : Nat), .int z])) l = some (.lst (ms.map V.int)) := by
        rw [upd_ne hlT]
        exact p2
      have hj : i % m < ms.length := by
        rw [hms]
        exact Nat.mod_lt _ hm
      have hg : (ms.map V.int)[i % m]? = some (.int (ms[i % m])) := by
        rw [List.getElem?_map, List.getElem?_eq_getElem hj] <;> rfl
      have eI : Ev (tOp (rI (fun _ j => j ≠ 0) fun i j => .int (i.fmod j)) (tVar 3) (tVar 1)) [some (.ref a), some (.int (m : Int)), some (.ref l), some (.int (i : Nat)), some (.int z)] (upd H' T (.tup [.int (i : Nat), .int z])) (.int ((i % m : Nat) : Int)) := ev_is (ev_op (ev_var rfl) (ev_var rfl) (rv_I (show (m : Int) ≠ 0 by omega))) (by rw [fmod_nat])
      refine s_setL (j := i % m) h2 (ev_op (ev_op (ev_var rfl) eI (rv_ixL (sq_of h2) (atI_nat hg))) (ev_op (ev_var rfl) (ev_op (ev_var rfl) ev_c rv_I0) (rv_I (.inr ?_))) rv_I0) (ev_var rfl) eI (by rw [List.length_map]; exact hj) fun H3 e3 => ?_
      · have : zs.length ≤ 63 := by omega
        exact ⟨by omega, by omega⟩
      · refine ⟨some (.int (i : Nat)), some (.int z), ms.set (i % m) (ms[i % m] + z * ((i : Int) + 2)), rfl, by rw [List.length_set]; exact p1, ?_, ?_, ?_, p5⟩
        · rw [upd_same, List.map_set]
        · rw [upd_ne (Ne.symm p5)]
          exact e3 _ _ (Ex.new hT _ _ p3)
        · exact Ex.mut ((p4.trans (Ex.new hT)).trans e3) hl
    · obtain ⟨y3, y4, ms, rfl, p1, p2, p3, p4, p5⟩ := p
      exact s_ret (ev_var rfl) fun H2 e2 => q l H2 ms hl (p4.trans e2) (by omega) (e2 _ _ p2)
theorem ok_law_same {f : Addr} {fd : FuncData} (F : FnP K "_law_same" s_law_same f fd) (g : mg "_law_same" = some (.ref f)) (b : Binds K fd ["_law_found", "_law_due_here"] []) (m_isinstance : mg "isinstance" = none) (m_list : mg "list" = none) (m_tuple : mg "tuple" = none) (m_bool : mg "bool" = none) (m_str : mg "str" = none) (m_int : mg "int" = none) (m_len : mg "len" = none) (m_all : mg "all" = none) (m_zip : mg "zip" = none) :
    ∀ d, Has P w K mg base d "_law_same" ["_law_found", "_law_due_here"] (spSame K d) f fd
  | 0 => ⟨has_none, g, F.kp, b⟩
  | d + 1 => by
    have h_law_same := ok_law_same F g b m_isinstance m_list m_tuple m_bool m_str m_int m_len m_all m_zip d
    refine ⟨F.ok sc_law_same (fun vs H Q E h => ?_) (fun cdv A outer s H vs Q E hr h => ?_), g, F.kp, b⟩
    · obtain ⟨x, y, rfl, _⟩ := h
      rfl
    · obtain ⟨x, y, rfl, hA, q⟩ := h
      refine ⟨_, PSs.nox (pss_cons (ps_if (pt_val (pe_callB call_isiT (by rfl) m_isinstance (by decide +kernel) (pa_cons (pv 1) (pa_cons (pe_tup (pa_cons (pe_bltn (v := .ty "list") (by rfl) m_list (by decide +kernel) rfl) (pa_cons (pe_bltn (v := .ty "tuple") (by rfl) m_tuple (by decide +kernel) rfl) pa_nil))) pa_nil)))) (pss_cons (ps_if (PW.pt (pw_or (pt_cmpR op_ne (pe_callB call_isi (by rfl) m_isinstance (by decide +kernel) (pa_cons (pv 0) (pa_cons (pe_bltn (v := .ty "list") (by rfl) m_list (by decide +kernel) rfl) pa_nil))) (pe_callB call_isi (by rfl) m_isinstance (by decide +kernel) (pa_cons (pv 1) (pa_cons (pe_bltn (v := .ty "list") (by rfl) m_list (by decide +kernel) rfl) pa_nil))) (nomark _)) (pw_or1 (pt_cmpR op_ne (pe_callB call_isi (by rfl) m_isinstance (by decide +kernel) (pa_cons (pv 0) (pa_cons (pe_bltn (v := .ty "tuple") (by rfl) m_tuple (by decide +kernel) rfl) pa_nil))) (pe_callB call_isi (by rfl) m_isinstance (by decide +kernel) (pa_cons (pv 1) (pa_cons (pe_bltn (v := .ty "tuple") (by rfl) m_tuple (by decide +kernel) rfl) pa_nil))) (nomark _))))) (pss_one (ps_ret pe_bl)) pss_nil)
      (pss_one (ps_ret (pe_and (pe_cmpR op_eq (pe_callB call_len_seq (by rfl) m_len PySem.boot_len (pa_cons (pv 0) pa_nil)) (pe_callB call_len_seq (by rfl) m_len PySem.boot_len (pa_cons (pv 1) pa_nil)) (nomark _)) (pe_one (pe_callB (cr_all rfl) (by rfl) m_all (by decide +kernel) (pa_cons (pe_lc (own := [("_law_one", 2), ("_law_two", 3)]) (g := gTup K 2 (gCons (gName 2) (gCons (gName 3) gNil))) (by rfl) sc_law_same.nd (pi_zipA (by rfl) m_zip (pa_cons (pv 0) (pa_cons (pv 1) pa_nil))) (blkOk_by (own := [("_law_one", 2), ("_law_two", 3)]) (N := ["_law_found", "_law_due_here", "_law_one", "_law_two"]) (sc := defScope s_law_same) (by decide +kernel)) (fun _ _ _ _ _ => (pg_tup rfl (pgs_cons (pg_name (i := 2) sc_law_same.nd rfl (Or.inl rfl)) (pgs_cons (pg_name (i := 3) sc_law_same.nd rfl (Or.inl rfl)) pgs_nil)))) (fun _ _ _ _ _ => pts_nil) (fun _ _ _ _ _ => (pe_call h_law_same.G hr (by rfl) h_law_same.g h_law_same.kp h_law_same.b .nil pass0 (pa_cons (pv 2) (pa_cons (pv 3) pa_nil))))) pa_nil))))))) pss_nil)
      (pss_cons (ps_if (PW.pt (pw_or (pt_cmpR op_isN (pv 1) pe_non (nomark _)) (pw_or1 (pt_cmpR op_isN (pv 0) pe_non (nomark _))))) (pss_one (ps_ret (pe_and (pe_cmpR op_isN (pv 1) pe_non (nomark _)) (pe_one (pe_cmpR op_isN (pv 0) pe_non (nomark _)))))) pss_nil)
      (pss_cons (ps_if (PW.pt (pw_or (pt_val (pe_callB call_isi (by rfl) m_isinstance (by decide +kernel) (pa_cons (pv 1) (pa_cons (pe_bltn (v := .ty "bool") (by rfl) m_bool (by decide +kernel) rfl) pa_nil)))) (pw_or1 (pt_val (pe_callB call_isi (by rfl) m_isinstance (by decide +kernel) (pa_cons (pv 1) (pa_cons (pe_bltn (v := .ty "str") (by rfl) m_str (by decide +kernel) rfl) pa_nil))))))) (pss_one (ps_ret (pe_and (pe_cmpR op_eq (pe_callB call_isi (by rfl) m_isinstance (by decide +kernel) (pa_cons (pv 0) (pa_cons (pe_bltn (v := .ty "bool") (by rfl) m_bool (by decide +kernel) rfl) pa_nil))) (pe_callB call_isi (by rfl) m_isinstance (by decide +kernel) (pa_cons (pv 1) (pa_cons (pe_bltn (v := .ty "bool") (by rfl) m_bool (by decide +kernel) rfl) pa_nil))) (nomark _)) (pe_one (pe_cmpR op_eq (pv 0) (pv 1) (nomark _)))))) pss_nil)
      (pss_one (ps_ret (pe_and (pe_callB call_isi (by rfl) m_isinstance (by decide +kernel) (pa_cons (pv 0) (pa_cons (pe_bltn (v := .ty "int") (by rfl) m_int (by decide +kernel) rfl) pa_nil))) (pe_and (pe_not (pe_callB call_isi (by rfl) m_isinstance (by decide +kernel) (pa_cons (pv 0) (pa_cons (pe_bltn (v := .ty "bool") (by rfl) m_bool (by decide +kernel) rfl) pa_nil)))) (pe_one (pe_cmpR op_eq (pv 0) (pv 1) (nomark _)))))))))), ?_⟩
      rcases hA with ⟨rfl, hf⟩ | ⟨a, c, xs, ys, rfl, rfl, h3, h4, h5, h6⟩
      · cases x with
        | int i =>
          refine q_when (et_B (ev_isiT (ev_var rfl) (.int i) kit_int)) (fun hd => by cases hd) fun _ H1 e1 => ?_
          refine q_when (b := false) (et_or (a := false) (b := false) (et_test (ev_op (ev_var rfl) ev_c (rv_isN2 rfl))) fun _ => et_test (ev_op (ev_var rfl) ev_c (rv_isN2 rfl))) (fun hd => by cases hd) fun _ H2 e2 => ?_
          refine q_when (b := false) (et_or (a := false) (b := false) (et_B (ev_isi (T := "int") (C := "bool") (ev_var rfl) (.int i) (by decide +kernel))) fun _ => et_B (ev_isi (T := "int") (C := "str") (ev_var rfl) (.int i) (by decide +kernel))) (fun hd => by cases hd) fun _ H3 e3 => ?_
          refine s_ret (v := .bl true) (ev_andV (a := true) (b := true) (ev_isi (T := "int") (C := "int") (b := true) (ev_var rfl) (.int i) (by decide +kernel)) fun _ => ev_andV (a := true) (b := true) (ev_notV (ev_isi (T := "int") (C := "bool") (b := false) (ev_var rfl) (.int i) (by decide +kernel))) fun _ => ev_is (ev_op (ev_var rfl) (ev_var rfl) (rv_eq rfl)) (by rw [decide_eq_true rfl])) fun H4 e4 => q H4 (((e1.trans e2).trans e3).trans e4)
        | bl i =>
          refine q_when (et_B (ev_isiT (ev_var rfl) (.bl i) kit_bool)) (fun hd => by cases hd) fun _ H1 e1 => ?_
          refine q_when (b := false) (et_or (a := false) (b := false) (et_test (ev_op (ev_var rfl) ev_c (rv_isN2 rfl))) fun _ => et_test (ev_op (ev_var rfl) ev_c (rv_isN2 rfl))) (fun hd => by cases hd) fun _ H2 e2 => ?_
          refine q_when (b := true) (et_or (a := true) (b := true) (et_B (ev_isi (T := "bool") (C := "bool") (ev_var rfl) (.bl i) (by decide +kernel))) fun hd => by cases hd) (fun _ H3 e3 => ?_) (fun hd => by cases hd)
          refine s_ret (v := .bl true) (ev_andV (a := true) (b := true) (ev_op (ev_isi (T := "bool") (C := "bool") (b := true) (ev_var rfl) (.bl i) (by decide +kernel)) (ev_isi (T := "bool") (C := "bool") (b := true) (ev_var rfl) (.bl i) (by decide +kernel)) (rv_eq rfl)) fun _ => ev_is (ev_op (ev_var rfl) (ev_var rfl) (rv_eq rfl)) (by rw [decide_eq_true rfl])) fun H4 e4 => q H4 (((e1.trans e2).trans e3).trans e4)
        | str i =>
          refine q_when (et_B (ev_isiT (ev_var rfl) (.str i) kit_str)) (fun hd => by cases hd) fun _ H1 e1 => ?_
          refine q_when (b := false) (et_or (a := false) (b := false) (et_test (ev_op (ev_var rfl) ev_c (rv_isN2 rfl))) fun _ => et_test (ev_op (ev_var rfl) ev_c (rv_isN2 rfl))) (fun hd => by cases hd) fun _ H2 e2 => ?_
          refine q_when (b := true) (et_or (a := false) (b := true) (et_B (ev_isi (T := "str") (C := "bool") (b := false) (ev_var rfl) (.str i) (by decide +kernel))) fun _ => et_B (ev_isi (T := "str") (C := "str") (b := true) (ev_var rfl) (.str i) (by decide +kernel))) (fun _ H3 e3 => ?_) (fun hd => by cases hd)
          refine s_ret (v := .bl true) (ev_andV (a := true) (b := true) (ev_op (ev_isi (T := "str") (C := "bool") (b := false) (ev_var rfl) (.str i) (by decide +kernel)) (ev_isi (T := "str") (C := "bool") (b := false) (ev_var rfl) (.str i) (by decide +kernel)) (rv_eq rfl)) fun _ => ev_is (ev_op (ev_var rfl) (ev_var rfl) (rv_eq rfl)) (by rw [decide_eq_true rfl])) fun H4 e4 => q H4 (((e1.trans e2).trans e3).trans e4)
        | non =>
          refine q_when (et_B (ev_isiT (ev_var rfl) .non kit_non)) (fun hd => by cases hd) fun _ H1 e1 => ?_
          refine q_when (b := true) (et_or (a := true) (b := true) (et_test (ev_op (ev_var rfl) ev_c (rv_isN2 rfl))) fun _ => et_test (ev_op (ev_var rfl) ev_c (rv_isN2 rfl))) (fun _ H2 e2 => ?_) (fun hd => by cases hd)
          refine s_ret (v := .bl true) (ev_andV (a := true) (b := true) (ev_op (ev_var rfl) ev_c (rv_isN2 rfl)) fun _ => ev_op (ev_var rfl) ev_c (rv_isN2 rfl)) fun H4 e4 => q H4 ((e1.trans e2).trans e4)
        | byt _ => exact hf.elim
        | flt _ => exact hf.elim
        | ref _ => exact hf.elim
        | ty _ => exact hf.elim
      · rcases h3 with ⟨ha, hc⟩ | ⟨ha, hc⟩
        · refine q_when (et_B (ev_isiT (ev_var rfl) (.lst hc) kit_list)) (fun _ H1 e1 => ?_) (fun hd => by cases hd)
          refine q_when (b := false) (et_or (et_test (ev_op (ev_isi (T := "list") (b := true) (ev_var rfl) (.lst (ex_l e1 ha)) (by decide +kernel)) (ev_isi (T := "list") (b := true) (ev_var rfl) (.lst (ex_l e1 hc)) (by decide +kernel)) (rv_ne rfl))) fun _ => et_test (ev_op (ev_isi (T := "list") (b := false) (ev_var rfl) (.lst (ex_l e1 ha)) (by decide +kernel)) (ev_isi (T := "list") (b := false) (ev_var rfl) (.lst (ex_l e1 hc)) (by decide +kernel)) (rv_ne rfl))) (fun hd => by cases hd) fun _ H2 e2 => ?_
          have e12 := e1.trans e2
          refine s_ret (v := .bl true) (ev_andV (a := true) (b := true) (ev_is (ev_op (ev_lenA (ev_var rfl) (.inl (ex_l e12 ha))) (ev_lenA (ev_var rfl) (.inl (ex_l e12 hc))) (rv_eq rfl)) (by rw [h4, decide_eq_true rfl])) fun _ => ev_allT (el_same h4 h5 (.inl ⟨ex_l e12 ha, ex_l e12 hc⟩) fun i u v hu hv => (h6 i u v hu hv).ex e12)) fun H4 e4 => q H4 (e12.trans e4)
        · refine q_when (et_B (ev_isiT (ev_var rfl) (.tup hc) kit_tuple)) (fun _ H1 e1 => ?_) (fun hd => by cases hd)
          refine q_when (b := false) (et_or (et_test (ev_op (ev_isi (T := "tuple") (b := false) (ev_var rfl) (.tup (ex_t e1 ha)) (by decide +kernel)) (ev_isi (T := "tuple") (b := false) (ev_var rfl) (.tup (ex_t e1 hc)) (by decide +kernel)) (rv_ne rfl))) fun _ => et_test (ev_op (ev_isi (T := "tuple") (b := true) (ev_var rfl) (.tup (ex_t e1 ha)) (by decide +kernel)) (ev_isi (T := "tuple") (b := true) (ev_var rfl) (.tup (ex_t e1 hc)) (by decide +kernel)) (rv_ne rfl))) (fun hd => by cases hd) fun _ H2 e2 => ?_
          have e12 := e1.trans e2
          refine s_ret (v := .bl true) (ev_andV (a := true) (b := true) (ev_is (ev_op (ev_lenA (ev_var rfl) (.inr (ex_t e12 ha))) (ev_lenA (ev_var rfl) (.inr (ex_t e12 hc))) (rv_eq rfl)) (by rw [h4, decide_eq_true rfl])) fun _ => ev_allT (el_same h4 h5 (.inr ⟨ex_t e12 ha, ex_t e12 hc⟩) fun i u v hu hv => (h6 i u v hu hv).ex e12)) fun H4 e4 => q H4 (e12.trans e4)
theorem ok_law_of {f f1 : Addr} {fd fd1 : FuncData} (F : FnP K "_law_of" s_law_of f fd) (g : mg "_law_of" = some (.ref f)) (b : Binds K fd ["_law_box", "_law_pool"] []) (h_law_take : Has P w K mg base 1 "_law_take" ["_law_box", "_law_many"] spTake f1 fd1) (m_len : mg "len" = none) :
    Has P w K mg base 2 "_law_of" ["_law_box", "_law_pool"] (spOf K) f fd := by
  refine ⟨F.ok sc_law_of (fun vs H Q E h => ?_) (fun cdv A outer s H vs Q E hr h => ?_), g, F.kp, b⟩
  · obtain ⟨p, l, xs, n, rfl, _⟩ := h
    rfl
  · obtain ⟨p, l, xs, n, rfl, hl, h0, h1, hne, hb, hn, q⟩ := h
    refine ⟨_, PSs.nox (pss_one (ps_ret (pe_ix ix_list (pv 1) (pe_call h_law_take.G (hr.mono (by decide)) (by rfl) h_law_take.g h_law_take.kp h_law_take.b .nil pass0 (pa_cons (pv 0) (pa_cons (pe_callB call_len_seq (by rfl) m_len PySem.boot_len (pa_cons (pv 1) pa_nil)) pa_nil))) (fun _ _ => rfl)))), ?_⟩
    refine ⟨.ref l, rfl, .ref p, rfl, .ref l, rfl, l, xs, rfl, .inl hl, p, (xs.length : Int), n, rfl, by omega, by omega, hb, hn, fun r H1 r0 r1 e1 hb1 => ?_⟩
    obtain ⟨k, rfl⟩ := Int.eq_ofNat_of_zero_le r0
    have hk : k < xs.length := by omega
    exact ⟨l, xs, k, xs[k], rfl, rfl, e1.l hne hl, atI_nat (List.getElem?_eq_getElem hk), q k _ H1 (List.getElem?_eq_getElem hk) e1 hb1⟩
theorem ok_law_row {f f1 f2 : Addr} {fd fd1 fd2 : FuncData} (F : FnP K "_law_row" s_law_row f fd) (g : mg "_law_row" = some (.ref f)) (b : Binds K fd ["_law_box", "_law_most"] []) (h_law_take : Has P w K mg base 1 "_law_take" ["_law_box", "_law_many"] spTake f1 fd1) (h_law_of : Has P w K mg base 2 "_law_of" ["_law_box", "_law_pool"] (spOf K) f2 fd2) (m_range : mg "range" = none) (m_tuple : mg "tuple" = none) :
    Has P w K mg base 3 "_law_row" ["_law_box", "_law_most"] (spRow K) f fd := by
  refine ⟨F.ok sc_law_row (fun vs H Q E h => ?_) (fun cdv A outer s H vs Q E hr h => ?_), g, F.kp, b⟩
  · obtain ⟨p, m, n, rfl, _⟩ := h
    rfl
  · obtain ⟨p, m, n, rfl, hm, hm2, hb, hn, q⟩ := h
    refine ⟨_, PSs.nox (pss_cons (ps_par3 (i := 2) (j := 3) (l := 4) (by rfl) sc_law_row.nd rfl rfl rfl (by decide) (by decide) (by decide) rfl rfl rfl (pa_cons (pe_op op_add pe_int (pe_call h_law_take.G (hr.mono (by decide)) (by rfl) h_law_take.g h_law_take.kp h_law_take.b .nil pass0 (pa_cons (pv 0) (pa_cons (pv 1) pa_nil)))) (pa_cons (pe_call h_law_take.G (hr.mono (by decide)) (by rfl) h_law_take.g h_law_take.kp h_law_take.b .nil pass0 (pa_cons (pv 0) (pa_cons pe_int pa_nil))) (pa_cons (pe_call h_law_of.G (hr.mono (by decide)) (by rfl) h_law_of.g h_law_of.kp h_law_of.b .nil pass0 (pa_cons (pv 0) (pa_cons (pe_lst (pa_cons pe_int (pa_cons pe_int (pa_cons pe_int (pa_cons pe_int pa_nil))))) pa_nil))) pa_nil))) (by rfl))
      (pss_cons (ps_par (i := 5) (j := 6) (by rfl) sc_law_row.nd rfl rfl (by decide) rfl rfl (pa_cons (pe_ix ix_list (pe_lst (pa_cons pe_int (pa_cons pe_int (pa_cons pe_int (pa_cons pe_int (pa_cons pe_int (pa_cons pe_int pa_nil))))))) (pv 3) (fun _ _ => rfl)) (pa_cons (pe_ix ix_list (pe_lst (pa_cons pe_int (pa_cons pe_int (pa_cons pe_int (pa_cons pe_int (pa_cons pe_int (pa_cons pe_int pa_nil))))))) (pv 3) (fun _ _ => rfl)) pa_nil)) (by rfl))
      (Evl.pss_cut (ps_par (i := 7) (j := 8) (by rfl) sc_law_row.nd rfl rfl (by decide) rfl rfl (pa_cons (pe_ix ix_list (pe_lst (pa_cons pe_int (pa_cons (pe_un un_neg pe_int) (pa_cons (pe_un un_neg pe_int) (pa_cons pe_int (pa_cons (pe_op op_sub (pe_op op_pow pe_int pe_int) pe_int) (pa_cons (pe_un un_neg pe_int) pa_nil))))))) (pv 3) (fun _ _ => rfl)) (pa_cons (pe_ifExp (pt_cmpR op_eq (pv 3) pe_int (nomark _)) (pe_call h_law_take.G (hr.mono (by decide)) (by rfl) h_law_take.g h_law_take.kp h_law_take.b .nil pass0 (pa_cons (pv 0) (pa_cons pe_int pa_nil))) pe_int) pa_nil)) (by rfl))
      (pss_cons (ps_set (i := 9) sc_law_row.nd rfl (.inl rfl) (pe_lst pa_nil))
      (pss_cons (ps_for PassesOwn.never rfl (pi_range1 (by rfl) m_range (pa_cons (pv 2) pa_nil)) (pg_name (i := 10) sc_law_row.nd rfl (Or.inl rfl))
        (pss_one (ps_expr (pe_bm PySem.F.plainAttrs_list PySem.F.slot_list_append PySem.F.type_list_append mt_append (pv 9) (pa_cons (pe_tup (pa_cons (pe_op op_add (pe_op op_add (pv 7) (pe_op op_mul (pv 4) (pv 10))) (pe_call h_law_take.G (hr.mono (by decide)) (by rfl) h_law_take.g h_law_take.kp h_law_take.b .nil pass0 (pa_cons (pv 0) (pa_cons (pv 5) pa_nil)))) (pa_cons (pe_op op_add (pv 8) (pe_call h_law_take.G (hr.mono (by decide)) (by rfl) h_law_take.g h_law_take.kp h_law_take.b .nil pass0 (pa_cons (pv 0) (pa_cons (pv 6) pa_nil)))) pa_nil))) pa_nil)))))
      (pss_one (ps_ret (pe_tupleOf (by rfl) m_tuple (pv 9))))))))), ?_⟩
    refine ⟨.ref p, rfl, .int (m : Int), rfl, p, (m : Int), n, rfl, by omega, by omega, hb, by omega, fun r1 H1 r10 r11 e1 hb1 => ?_⟩
    refine ⟨1, r1, rfl, rfl, .ref p, rfl, p, 6, n + 1, rfl, by decide, by decide, hb1, by omega, fun way H2 w0 w1 e2 hb2 => ?_⟩
    refine ⟨.ref p, rfl, by show 4 ≤ sizeLine; decide, fun l hl => ?_⟩
    refine ⟨p, l, _, n + 2, rfl, sq_of upd_same, by show 0 < 4; decide, by show 4 < 100000; decide, (hb2.ne hl).symm, hb2.ex (Ex.new hl), by omega, fun k x H3 hx e3 hb3 => ?_⟩
    obtain ⟨rise, rfl, hr0, hr1⟩ : ∃ rise : Int, x = .int rise ∧ 0 ≤ rise ∧ rise ≤ 3 := by
      match k, hx with
      | 0, hx => cases hx; exact ⟨0, rfl, by decide, by decide⟩
      | 1, hx => cases hx; exact ⟨0, rfl, by decide, by decide⟩
      | 2, hx => cases hx; exact ⟨1, rfl, by decide, by decide⟩
      | 3, hx => cases hx; exact ⟨3, rfl, by decide, by decide⟩
      | k + 4, hx => cases hx
    have eb3 : ExB p H H3 := ((e1.trans e2).trans (.of (Ex.new hl))).trans e3
    clear e1 e2 e3 hb1 hb2
    refine ⟨_, _, _, rfl, ?_⟩
    obtain ⟨high, hh, ah⟩ := at_ints (zs := [9, 9, 30, 60, 25, 200]) w0 w1
    obtain ⟨dear, hd, ad⟩ := at_ints (zs := [3, 1, 1, 10, 4, 40]) w0 w1
    have hh0 : 0 < high ∧ high ≤ 200 := by
      simp only [List.mem_cons, List.not_mem_nil, or_false] at hh
      omega
    have hd0 : 0 < dear ∧ dear ≤ 40 := by
      simp only [List.mem_cons, List.not_mem_nil, or_false] at hd
      omega
    refine ⟨by show 6 ≤ sizeLine; decide, fun l2 hl2 => ⟨.int way, rfl, l2, _, way, .int high, rfl, rfl, sq_of upd_same, ah, ?_⟩⟩
    refine ⟨by show 6 ≤ sizeLine; decide, fun l3 hl3 => ⟨.int way, rfl, l3, _, way, .int dear, rfl, rfl, sq_of upd_same, ad, _, _, rfl, ?_⟩⟩
    have eb4 := (eb3.new (o := .lst [.int 9, .int 9, .int 30, .int 60, .int 25, .int 200]) hl2).new (o := .lst [.int 3, .int 1, .int 1, .int 10, .int 4, .int 40]) hl3
    have hb4 := (hb3.ex (Ex.new (o := .lst [.int 9, .int 9, .int 30, .int 60, .int 25, .int 200]) hl2)).ex (Ex.new (o := .lst [.int 3, .int 1, .int 1, .int 10, .int 4, .int 40]) hl3)
    clear eb3 hb3
    obtain ⟨bs, hbs, abs⟩ := at_ints (zs := [0, -4, -15, 0, 10 ^ (12 : Int).toNat - 1000, -100]) w0 w1
    have hbs0 : -100 ≤ bs ∧ bs ≤ 999999999000 := by
      have e12 : (10 : Int) ^ (12 : Int).toNat - 1000 = 999999999000 := by decide
      rw [e12] at hbs
      simp only [List.mem_cons, List.not_mem_nil, or_false] at hbs
      omega
    refine q_cut (M := fun σ' H' => ∃ toll : Int, σ' = [some (.ref p), some (.int (m : Int)), some (.int (1 + r1)), some (.int way), some (.int rise), some (.int high), some (.int dear), some (.int bs), some (.int toll), none, none] ∧ 0 ≤ toll ∧ toll ≤ 6 ∧ ExB p H H' ∧ Bx H' p (n + 4)) ?_ (fun σ' H5 hM => ?_)
    · refine ⟨4, rfl, 15, rfl, 10, 12, rfl, rfl, ⟨by decide, by decide, by decide⟩, _, 1000, rfl, rfl, 100, rfl, by show 6 ≤ sizeLine; decide, fun l4 hl4 => ⟨.int way, rfl, l4, _, way, .int bs, rfl, rfl, sq_of upd_same, abs, ?_⟩⟩
      refine ⟨.int way, rfl, rfl, _, rfl, ite2 (fun e => ?_) (fun e => ?_)⟩
      · refine ⟨.ref p, rfl, p, 6, n + 3, rfl, by decide, by decide, hb4.ex (Ex.new hl4), by omega, fun r H5 r0 r1 e5 hb5 => ⟨_, _, rfl, r, rfl, r0, by omega, (eb4.new hl4).trans e5, hb5⟩⟩
      · exact ⟨_, _, rfl, 0, rfl, by decide, by decide, eb4.new hl4, (hb4.ex (Ex.new hl4)).le (by omega)⟩
    · obtain ⟨toll, rfl, t0, t1, eb5, hb5⟩ := hM
      refine q_asgL (el_lst ea_nil (by show 0 ≤ 100000; decide)) fun l5 H6 hl5 e6 h6 => ?_
      have hpl : p ≠ l5 := hb5.ne hl5
      have hl5H : H l5 = none := eb5.back hl5 (Ne.symm hpl)
      refine q_forR1 (n := 1 + r1) (ea_cons (ev_var rfl) ea_nil) (by omega) (fun i σ' H' => ∃ (y : Option V) (vs : List V) (rs : HH.Row), σ' = [some (.ref p), some (.int (m : Int)), some (.int (1 + r1)), some (.int way), some (.int rise), some (.int high), some (.int dear), some (.int bs), some (.int toll), some (.ref l5), y] ∧ rs.length = i ∧ H' l5 = some (.lst vs) ∧ Beasts K H' vs rs ∧ (∀ b ∈ rs, Tame b) ∧ Bx H' p (n + 4 + 2 * i) ∧ ExB p H H') (fun H7 e7 => ?_) (fun i σ' H7 hi hp => ?_) (fun σ' H7 hp => ?_)
      · exact ⟨none, [], [], rfl, rfl, e7 _ _ h6, Beasts.nil, (fun b h => by cases h), (hb5.ex (e6.trans e7)).le (by omega), eb5.trans (.of (e6.trans e7))⟩
      · obtain ⟨y, vs, rs, rfl, p1, p2, p3, p4, p5, p6⟩ := hp
        have hri := mul_bd hr0 hr1 (Int.natCast_nonneg i) (show (i : Int) ≤ 40 by omega)
        refine ⟨.ref l5, rfl, .inl ⟨rfl, _, sq_of p2⟩, .int bs, rfl, .int rise, rfl, .int (i : Int), rfl, rise, (i : Int), rfl, rfl, .inl ⟨by omega, by omega⟩, bs, rise * (i : Int), rfl, rfl, .ref p, rfl, .int high, rfl, p, high, n + 4 + 2 * i, rfl, by omega, by omega, p5, by omega, fun s1 H8 s10 s11 e8 hb8 => ?_⟩
        refine ⟨_, _, rfl, rfl, .int toll, rfl, .ref p, rfl, .int dear, rfl, p, dear, n + 4 + 2 * i + 1, rfl, by omega, by omega, hb8, by omega, fun s2 H9 s20 s21 e9 hb9 => ?_⟩
        refine ⟨toll, s2, rfl, rfl, by show 2 ≤ sizeLine; decide, fun T hT => ?_⟩
        have q8 := e8 _ _ (Ne.symm hpl) p2
        have q9 := e9 _ _ (Ne.symm hpl) q8
        have hlT : l5 ≠ T := ne_of_none q9 hT
        have q10 : (upd H9 T (.tup [.int (bs + rise * (i : Int) + s1), .int (toll + s2)])) l5 = some (.lst vs) := by
          rw [upd_ne hlT]
          exact q9
        obtain ⟨xs8, hx8⟩ := p5.lst
        obtain ⟨xs9, hx9⟩ := hb8.lst
        have b10 : Beasts K (upd H9 T (.tup [.int (bs + rise * (i : Int) + s1), .int (toll + s2)])) vs rs := ((p3.exB e8 hx8).exB e9 hx9).ex (Ex.new hT)
        have bt : BeastAt K (upd H9 T (.tup [.int (bs + rise * (i : Int) + s1), .int (toll + s2)])) (.ref T) (bs + rise * (i : Int) + s1, toll + s2) := ⟨T, rfl, st_of upd_same⟩
        refine ⟨l5, vs, .ref T, rfl, rfl, q10, sz_lt (by rw [p3.1]; omega), some (.int (i : Int)), vs ++ [.ref T], rs ++ [(bs + rise * (i : Int) + s1, toll + s2)], rfl, ?_, upd_same, ?_, ?_, ?_, ?_⟩
        · rw [List.length_append, p1]
          rfl
        · exact (b10.app (Beasts.one bt)).exB (ExB.refl _ _).upd q10
        · intro b hb
          rcases List.mem_append.mp hb with h | h
          · exact p4 b h
          · have e := List.mem_singleton.mp h
            subst e
            have e12 : (10 : Int) ^ 12 = 1000000000000 := by decide
            unfold Tame
            rw [e12]
            refine ⟨?_, ?_, ?_, ?_⟩ <;> dsimp only <;> omega
        · exact (((hb9.ex (Ex.new hT)).mut hpl).le (by omega))
        · exact ((((p6.trans e8).trans e9).new hT).mut hl5H)
      · obtain ⟨y, vs, rs, rfl, p1, p2, p3, p4, p5, p6⟩ := hp
        refine ⟨.ref l5, rfl, .inl ⟨l5, vs, rfl, sq_of p2, fun T hT => ?_⟩⟩
        exact q _ _ rs (p6.new hT) ((p5.ex (Ex.new hT)).le (by omega)) ⟨T, vs, rfl, st_of upd_same, p3.ex (Ex.new hT)⟩ (by omega) (by omega) p4
theorem ok_law_lets {f : Addr} {fd : FuncData} (F : FnP K "_law_lets" s_law_lets f fd) (g : mg "_law_lets" = some (.ref f)) (b : Binds K fd ["_law_row_now", "_law_place"] []) : Has P w K mg base 1 "_law_lets" ["_law_row_now", "_law_place"] (spCanPass K) f fd := by
  refine ⟨F.ok sc_law_lets (fun vs H Q E h => ?_) (fun cdv A outer s H vs Q E hr h => ?_), g, F.kp, b⟩
  · obtain ⟨v, rs, p, rfl, _⟩ := h
    rfl
  · obtain ⟨v, rs, p, rfl, hv, hp, q⟩ := h
    refine ⟨_, PSs.nox (pss_one (ps_ret (pe_and (pe_cmpR op_gt (pv 1) pe_int (nomark _)) (pe_one (pe_cmpR op_gt (pe_op op_sub (pe_ix ix_tup (pe_ix ix_tup (pv 0) (pv 1) (fun _ _ => rfl)) pe_int (fun _ _ => rfl)) (pe_ix ix_tup (pe_ix ix_tup (pv 0) (pe_op op_sub (pv 1) pe_int) (fun _ _ => rfl)) pe_int (fun _ _ => rfl))) (pe_ix ix_tup (pe_ix ix_tup (pv 0) (pe_op op_sub (pv 1) pe_int) (fun _ _ => rfl)) pe_int (fun _ _ => rfl)) (nomark _)))))), ?_⟩
    refine s_ret (v := .bl (decide ((p : Int) > 0) && decide (sS rs p - tS rs (p - 1) > sS rs (p - 1)))) (ev_andV (ev_op (ev_var rfl) ev_c rv_I0) fun hb => ?_) fun H1 e1 => ?_
    · have hp0 : 0 < p := by
        have := of_decide_eq_true hb
        omega
      refine ev_op (ev_op (ev_str (ev_var rfl) hv (ev_var rfl) rfl (row_get hp)) (ev_tol (ev_var rfl) hv (ev_op (ev_var rfl) ev_c rv_I0) (show (p : Int) - 1 = ((p - 1 : Nat) : Int) by omega) (row_get (by omega))) rv_I0) (ev_str (ev_var rfl) hv (ev_op (ev_var rfl) ev_c rv_I0) (show (p : Int) - 1 = ((p - 1 : Nat) : Int) by omega) (row_get (by omega))) rv_I0
    · have e : letsN rs p = (decide ((p : Int) > 0) && decide (sS rs p - tS rs (p - 1) > sS rs (p - 1))) := by
        unfold letsN
        congr 1
        exact decide_eq_decide.mpr (by omega)
      rw [← e]
      exact q H1 e1
theorem ok_law_passed {f : Addr} {fd : FuncData} (F : FnP K "_law_passed" s_law_passed f fd) (g : mg "_law_passed" = some (.ref f)) (b : Binds K fd ["_law_row_now", "_law_place"] []) : Has P w K mg base 1 "_law_passed" ["_law_row_now", "_law_place"] (spPassed K) f fd := by
  refine ⟨F.ok sc_law_passed (fun vs H Q E h => ?_) (fun cdv A outer s H vs Q E hr h => ?_), g, F.kp, b⟩
  · obtain ⟨v, rs, p, rfl, _⟩ := h
    rfl
  · obtain ⟨v, rs, p, rfl, hv, hl, ⟨h0, hp⟩, q⟩ := h
    refine ⟨_, PSs.nox (pss_cons (ps_asg (pe_tup (pa_cons (pe_ix ix_tup (pv 0) (pe_op op_sub (pv 1) pe_int) (fun _ _ => rfl)) (pa_cons (pe_ix ix_tup (pv 0) (pv 1) (fun _ _ => rfl)) pa_nil))) (pg_tup rfl (pgs_cons (pg_name (i := 2) sc_law_passed.nd rfl (Or.inl rfl)) (pgs_cons (pg_tup rfl (pgs_cons (pg_name (i := 3) sc_law_passed.nd rfl (Or.inl rfl)) (pgs_cons (pg_name (i := 4) sc_law_passed.nd rfl (Or.inl rfl)) pgs_nil))) pgs_nil))))
      (pss_one (ps_ret (pe_op op_catA (pe_op op_catA (pe_slice sl_tupA (pv 0) po_none (po_some (pe_op op_sub (pv 1) pe_int))) (pe_tup (pa_cons (pe_tup (pa_cons (pe_op op_sub (pv 3) (pe_ix ix_tup (pv 2) pe_int (fun _ _ => rfl))) (pa_cons (pv 4) pa_nil))) (pa_cons (pv 2) pa_nil)))) (pe_slice sl_tupA (pv 0) (po_some (pe_op op_add (pv 1) pe_int)) po_none))))), ?_⟩
    obtain ⟨a, h1, h2⟩ := ev_beast (te := tVar 0) (ti := tOp (rI0 fun i j => .int (i - j)) (tVar 1) (tC (.int 1))) (σ := start ["_law_row_now", "_law_place", "_law_ahead", "_law_strength", "_law_toll"] [v, .int (p : Int)]) (ev_var rfl) hv (ev_op (ev_var rfl) ev_c rv_I0) (show (p : Int) - 1 = ((p - 1 : Nat) : Int) by omega) (row_get (i := p - 1) (by omega))
    obtain ⟨c, g1, g2⟩ := ev_beast (te := tVar 0) (ti := tVar 1) (σ := start ["_law_row_now", "_law_place", "_law_ahead", "_law_strength", "_law_toll"] [v, .int (p : Int)]) (ev_var rfl) hv (ev_var rfl) rfl (row_get hp)
    refine q_asg12 h1 g1 g2 fun H1 e1 => ?_
    refine s_retR (rs := passR rs p) (er_cat (er_cat (er_to (er_val (ev_var rfl) (hv.ex e1)) (ev_op (ev_var rfl) ev_c rv_I0) (show (p : Int) - 1 = ((p - 1 : Nat) : Int) by omega)) (er_two (eb_tup (ev_op (ev_var rfl) (ev_op (ev_var rfl) ev_c (rv_ixT (ex_t e1 h2) rfl)) rv_I0) (ev_var rfl)) (eb_val (ev_var rfl) ⟨a, rfl, ex_t e1 h2⟩)) ?_) (er_from (er_val (ev_var rfl) (hv.ex e1)) (ev_op (ev_var rfl) ev_c rv_I0) (show (p : Int) + 1 = ((p + 1 : Nat) : Int) by omega)) ?_) fun v' H2 e2 h => q v' H2 (e1.trans e2) h
    · rw [List.length_take]
      show min (p - 1) rs.length + 2 ≤ 100000
      omega
    · rw [List.length_append, List.length_take, List.length_drop]
      show min (p - 1) rs.length + 2 + (rs.length - (p + 1)) ≤ 100000
      omega
theorem ok_law_fallen {f : Addr} {fd : FuncData} (F : FnP K "_law_fallen" s_law_fallen f fd) (g : mg "_law_fallen" = some (.ref f)) (b : Binds K fd ["_law_row_now", "_law_place"] []) : Has P w K mg base 1 "_law_fallen" ["_law_row_now", "_law_place"] (spFallen K) f fd := by
  refine ⟨F.ok sc_law_fallen (fun vs H Q E h => ?_) (fun cdv A outer s H vs Q E hr h => ?_), g, F.kp, b⟩
  · obtain ⟨v, rs, p, rfl, _⟩ := h
    rfl
  · obtain ⟨v, rs, p, rfl, hv, hl, hp, q⟩ := h
    refine ⟨_, PSs.nox (pss_cons (ps_asg (pe_tup (pa_cons (pe_ix ix_tup (pv 0) (pv 1) (fun _ _ => rfl)) (pa_cons (pe_ix ix_tup (pv 0) (pe_op op_add (pv 1) pe_int) (fun _ _ => rfl)) pa_nil))) (pg_tup rfl (pgs_cons (pg_tup rfl (pgs_cons (pg_name (i := 2) sc_law_fallen.nd rfl (Or.inl rfl)) (pgs_cons (pg_name (i := 3) sc_law_fallen.nd rfl (Or.inl rfl)) pgs_nil))) (pgs_cons (pg_name (i := 4) sc_law_fallen.nd rfl (Or.inl rfl)) pgs_nil))))
      (pss_one (ps_ret (pe_op op_catA (pe_op op_catA (pe_slice sl_tupA (pv 0) po_none (po_some (pv 1))) (pe_tup (pa_cons (pv 4) (pa_cons (pe_tup (pa_cons (pe_op op_add (pv 2) (pe_ix ix_tup (pv 4) pe_int (fun _ _ => rfl))) (pa_cons (pv 3) pa_nil))) pa_nil)))) (pe_slice sl_tupA (pv 0) (po_some (pe_op op_add (pv 1) pe_int)) po_none))))), ?_⟩
    obtain ⟨a, h1, h2⟩ := ev_beast (te := tVar 0) (ti := tOp (rI0 fun i j => .int (i + j)) (tVar 1) (tC (.int 1))) (σ := start ["_law_row_now", "_law_place", "_law_strength", "_law_toll", "_law_behind"] [v, .int (p : Int)]) (ev_var rfl) hv (ev_op (ev_var rfl) ev_c rv_I0) (show (p : Int) + 1 = ((p + 1 : Nat) : Int) by omega) (row_get hp)
    obtain ⟨c, g1, g2⟩ := ev_beast (te := tVar 0) (ti := tVar 1) (σ := start ["_law_row_now", "_law_place", "_law_strength", "_law_toll", "_law_behind"] [v, .int (p : Int)]) (ev_var rfl) hv (ev_var rfl) rfl (row_get (i := p) (by omega))
    refine q_asg21 g1 h1 g2 fun H1 e1 => ?_
    refine s_retR (rs := fallR rs p) (er_cat (er_cat (er_to (er_val (ev_var rfl) (hv.ex e1)) (ev_var rfl) rfl) (er_two (eb_val (ev_var rfl) ⟨a, rfl, ex_t e1 h2⟩) (eb_tup (ev_op (ev_var rfl) (ev_op (ev_var rfl) ev_c (rv_ixT (ex_t e1 h2) rfl)) rv_I0) (ev_var rfl))) ?_) (er_from (er_val (ev_var rfl) (hv.ex e1)) (ev_op (ev_var rfl) ev_c rv_I0) (show (p : Int) + 2 = ((p + 2 : Nat) : Int) by omega)) ?_) fun v' H2 e2 h => q v' H2 (e1.trans e2) h
    · rw [List.length_take]
      show min p rs.length + 2 ≤ 100000
      omega
    · rw [List.length_append, List.length_take, List.length_drop]
      show min p rs.length + 2 + (rs.length - (p + 2)) ≤ 100000
      omega
theorem ok_law_ended {f f1 f2 f3 : Addr} {fd fd1 fd2 fd3 : FuncData} (F : FnP K "_law_ended" s_law_ended f fd) (g : mg "_law_ended" = some (.ref f)) (b : Binds K fd ["_law_box", "_law_row_now"] []) (h_law_of : Has P w K mg base 2 "_law_of" ["_law_box", "_law_pool"] (spOf K) f1 fd1) (h_law_lets : Has P w K mg base 1 "_law_lets" ["_law_row_now", "_law_place"] (spCanPass K) f2 fd2) (h_law_passed : Has P w K mg base 1 "_law_passed" ["_law_row_now", "_law_place"] (spPassed K) f3 fd3)
    (m_range : mg "range" = none) (m_tuple : mg "tuple" = none) (m_list : mg "list" = none) (m_len : mg "len" = none) : Has P w K mg base 3 "_law_ended" ["_law_box", "_law_row_now"] (spEnded K) f fd := by
  refine ⟨F.ok sc_law_ended (fun vs H Q E h => ?_) (fun cdv A outer s H vs Q E hr h => ?_), g, F.kp, b⟩
  · obtain ⟨p, v, rs, n, rfl, _⟩ := h
    rfl
  · obtain ⟨p, v, rs, n, rfl, hv, hl, ht, hb, hn, q⟩ := h
    refine ⟨_, PSs.nox (pss_cons (ps_par (i := 2) (j := 3) (by rfl) sc_law_ended.nd rfl rfl (by decide) rfl rfl (pa_cons (pe_listRg rfl (by rfl) m_list (prg_1 (by rfl) m_range (pe_callB call_len_seq (by rfl) m_len PySem.boot_len (pa_cons (pv 1) pa_nil)))) (pa_cons (pe_lst pa_nil) pa_nil)) (by rfl))
      (pss_cons (ps_setLc (i := 5) (own := [("_law_place", 4)]) (g := gName 4) (by rfl) sc_law_ended.nd rfl rfl (sw_true rfl rfl rfl (by decide +kernel)) (pi_range1 (by rfl) m_range (pa_cons (pe_callB call_len_seq (by rfl) m_len PySem.boot_len (pa_cons (pv 1) pa_nil)) pa_nil)) (blkOk_by (own := [("_law_place", 4)]) (N := ["_law_box", "_law_row_now", "_law_queue", "_law_pairs_here", "_law_place", "_law_some"]) (sc := defScope s_law_ended) (by decide +kernel)) (fun _ _ _ _ _ => (pg_name (i := 4) sc_law_ended.nd rfl (Or.inl rfl))) (fun _ _ _ _ _ => (pts_one (pt_val (pe_call h_law_lets.G (hr.mono (by decide)) (by rfl) h_law_lets.g h_law_lets.kp h_law_lets.b .nil pass0 (pa_cons (pv 1) (pa_cons (pv 4) pa_nil)))))) (fun _ _ _ _ _ => (pv 4)))
      (pss_cons (ps_while PassesOwn.never (pt_cmpR (op_neD hr.units) (pv 5) (pe_lst pa_nil) (nomark _)) (pss_cons (ps_set (i := 4) sc_law_ended.nd rfl (.inl rfl) (pe_call h_law_of.G (hr.mono (by decide)) (by rfl) h_law_of.g h_law_of.kp h_law_of.b .nil pass0 (pa_cons (pv 0) (pa_cons (pv 5) pa_nil))))
      (pss_cons (ps_set (i := 1) sc_law_ended.nd rfl (.inr rfl) (pe_call h_law_passed.G (hr.mono (by decide)) (by rfl) h_law_passed.g h_law_passed.kp h_law_passed.b .nil pass0 (pa_cons (pv 1) (pa_cons (pv 4) pa_nil))))
      (pss_cons (ps_expr (pe_bm PySem.F.plainAttrs_list PySem.F.slot_list_append PySem.F.type_list_append mt_append (pv 3) (pa_cons (pe_tup (pa_cons (pe_ix ix_list (pv 2) (pe_op op_sub (pv 4) pe_int) (fun _ _ => rfl)) (pa_cons (pe_ix ix_list (pv 2) (pv 4) (fun _ _ => rfl)) pa_nil))) pa_nil)))
      (pss_cons (ps_asg (pe_lst (pa_cons (pe_ix ix_list (pv 2) (pv 4) (fun _ _ => rfl)) (pa_cons (pe_ix ix_list (pv 2) (pe_op op_sub (pv 4) pe_int) (fun _ _ => rfl)) pa_nil))) (pg_sl (pv 2) (pe_op op_sub (pv 4) pe_int) (pe_op op_add (pv 4) pe_int)))
      (pss_one (ps_setLc (i := 5) (own := [("_law_place", 4)]) (g := gName 4) (by rfl) sc_law_ended.nd rfl rfl (sw_true rfl rfl rfl (by decide +kernel)) (pi_range1 (by rfl) m_range (pa_cons (pe_callB call_len_seq (by rfl) m_len PySem.boot_len (pa_cons (pv 1) pa_nil)) pa_nil)) (blkOk_by (own := [("_law_place", 4)]) (N := ["_law_box", "_law_row_now", "_law_queue", "_law_pairs_here", "_law_place", "_law_some"]) (sc := defScope s_law_ended) (by decide +kernel)) (fun _ _ _ _ _ => (pg_name (i := 4) sc_law_ended.nd rfl (Or.inl rfl))) (fun _ _ _ _ _ => (pts_one (pt_val (pe_call h_law_lets.G (hr.mono (by decide)) (by rfl) h_law_lets.g h_law_lets.kp h_law_lets.b .nil pass0 (pa_cons (pv 1) (pa_cons (pv 4) pa_nil)))))) (fun _ _ _ _ _ => (pv 4)))))))))
      (pss_one (ps_ret (pe_tup (pa_cons (pv 1) (pa_cons (pe_tupleOf (by rfl) m_tuple (pv 2)) (pa_cons (pv 3) pa_nil))))))))), ?_⟩
    have hv0 := hv
    obtain ⟨a, vs, rfl, hta, hbs⟩ := hv0
    refine ⟨.ref a, rfl, a, vs, rfl, .inr hta, _, rfl, RgOk.of_le (by decide) (by rw [hbs.1]; omega) (by decide) (by omega), fun lo hlo => ⟨by show 0 ≤ sizeLine; decide, fun lp hlp => ⟨_, _, rfl, ?_⟩⟩⟩
    rw [hbs.1, ord_tag] at hlp ⊢
    have e1 : Ex H (upd H lo (.lst (ordL (tag 0 rs)))) := Ex.new hlo
    have hlpH : H lp = none := fresh_back e1 hlp
    have hlolp : lo ≠ lp := fun z => by
      subst z
      rw [upd_same] at hlp
      cases hlp
    have e2 : Ex H (upd (upd H lo (.lst (ordL (tag 0 rs)))) lp (.lst [])) := e1.trans (Ex.new hlp)
    have hlo2 : (upd (upd H lo (.lst (ordL (tag 0 rs)))) lp (.lst [])) lo = some (.lst (ordL (tag 0 rs))) := by
      rw [upd_ne hlolp, upd_same]
    have hlp2 : (upd (upd H lo (.lst (ordL (tag 0 rs)))) lp (.lst [])) lp = some (.lst []) := upd_same
    generalize upd (upd H lo (.lst (ordL (tag 0 rs)))) lp (.lst []) = H2 at e2 hlo2 hlp2 ⊢
    refine q_asgL (el_lcR1 (letsN rs) (fun i => .int (i : Int)) (ea_cons (ev_lenR (ev_var rfl) (hv.ex e2)) ea_nil) (by omega) (fun x => rfl) (fun i H1 e1 hi => et_B (ev_call (ea_cons (ev_var rfl) (ea_cons (ev_var rfl) ea_nil)) (sv_can_pass (hv.ex (e2.trans e1)) (by omega)))) (fun i H1 e1 hi _ => ev_var rfl)) fun ls H3 hls e3 h3 => ?_
    refine q_while (fun m σ' H' => ∃ (v' : V) (y4 : Option V) (ls : Addr) (L : List Cow) (ps : List (Int × Int)) (pvs : List V) (c : Nat), σ' = [some (.ref p), some v', some (.ref lo), some (.ref lp), y4, some (.ref ls)] ∧ m = asc (L.map (·.1)) ∧ RowAt K H' v' (HH.rowsOf L) ∧ PRun (tag 0 rs) L ps ∧ Facts rs.length L ps ∧ PInv L ∧ H' lo = some (.lst (ordL L)) ∧ H' lp = some (.lst pvs) ∧ Beasts K H' pvs ps ∧ H' ls = some (.lst (HH.passL (HH.rowsOf L))) ∧ ls ≠ p ∧ Bx H' p c ∧ c + m ≤ n + 900 ∧ ExB p H H') (asc ((tag 0 rs).map (·.1))) ?_ (fun m σ' H' hW => ?_)
    · have hf := facts_tag ht
      have hfew := hf.few
      have hll : rs.length * rs.length ≤ 30 * 30 := Nat.mul_le_mul hl hl
      have e23 := e2.trans e3
      refine ⟨_, none, ls, tag 0 rs, [], [], n, rfl, rfl, ?_, .nil, hf, pinv_tag 0 rs, e3 _ _ hlo2, e3 _ _ hlp2, Beasts.nil, ?_, ((hb.ex e2).ne hls).symm, hb.ex e23, ?_, .of e23⟩
      · rw [show HH.rowsOf (tag 0 rs) = rs from tag_snd 0 rs]
        exact hv.ex e23
      · rw [show HH.rowsOf (tag 0 rs) = rs from tag_snd 0 rs]
        exact h3
      · have : ([] : List (Int × Int)).length = 0 := rfl
        omega
    · obtain ⟨v', y4, ls, L, ps, pvs, c, rfl, rfl, w1, w2, w3, w4, w5, w6, w7, w8, hlsp, w9, w10, w11⟩ := hW
      have hLl : (HH.rowsOf L).length = rs.length := by rw [cow_len, w3.len]
      obtain ⟨ns, hns⟩ : ∃ ns : List Int, HH.passL (HH.rowsOf L) = ns.map V.int := by
        refine ⟨((List.range (HH.rowsOf L).length).filter (letsN (HH.rowsOf L))).map fun (i : Nat) => (i : Int), ?_⟩
        unfold HH.passL given
        rw [List.map_map]
        rfl
      have w8' := w8
      rw [hns] at w8'
      refine ⟨!(HH.passL (HH.rowsOf L)).isEmpty, by rw [hns]; exact et_neNil (ev_var rfl) (sq_of w8') (dp_ints ns) (nice_ints ns) (by decide), fun hd H1 e1 => ?_, fun hd H1 e1 => ?_⟩
      · have hne : 0 < (HH.passL (HH.rowsOf L)).length := by
          cases hz : HH.passL (HH.rowsOf L) with
          | nil =>
            rw [hz] at hd
            cases hd
          | cons x r => exact Nat.succ_pos _
        have hshort : (HH.passL (HH.rowsOf L)).length ≤ rs.length := by
          rw [← hLl]
          exact given_len ..
        refine ⟨fun σ2 H2 => ∃ m', m' < asc (L.map (·.1)) ∧ ∃ (v' : V) (y4 : Option V) (ls : Addr) (L : List Cow) (ps : List (Int × Int)) (pvs : List V) (c : Nat), σ2 = [some (.ref p), some v', some (.ref lo), some (.ref lp), y4, some (.ref ls)] ∧ m' = asc (L.map (·.1)) ∧ RowAt K H2 v' (HH.rowsOf L) ∧ PRun (tag 0 rs) L ps ∧ Facts rs.length L ps ∧ PInv L ∧ H2 lo = some (.lst (ordL L)) ∧ H2 lp = some (.lst pvs) ∧ Beasts K H2 pvs ps ∧ H2 ls = some (.lst (HH.passL (HH.rowsOf L))) ∧ ls ≠ p ∧ Bx H2 p c ∧ c + m' ≤ n + 900 ∧ ExB p H H2, fun σ2 H2 h => h, ?_⟩
        refine ⟨.ref p, rfl, .ref ls, rfl, p, ls, HH.passL (HH.rowsOf L), c, rfl, sq_of (e1 _ _ w8), hne, by omega, hlsp, w9.ex e1, by omega, fun r x H2 hx e2 hb2 => ?_⟩
        obtain ⟨k, rfl, hk, hlet⟩ := given_get hx
        obtain ⟨pre, post, ca, cb, rfl, rfl, hpp, hpr⟩ := cow_pass hk hlet
        have x2 : ExB p H' H2 := (ExB.of e1).trans e2
        obtain ⟨ys9, hys9⟩ := w9.lst
        have hplo : lo ≠ p := (hb.ne hlo).symm
        have hplp : lp ≠ p := (hb.ne hlpH).symm
        have r2 := w1.exB x2 w9
        have lo2 := x2 _ _ hplo w5
        have lp2 := x2 _ _ hplp w6
        have bs2 := w7.exB x2 hys9
        refine ⟨v', rfl, .int ((pre.length + 1 : Nat) : Int), rfl, v', _, pre.length + 1, rfl, r2, by omega, ⟨by omega, hk⟩, fun v2 H3 e3 hv2 => ?_⟩
        rw [hpr] at hv2
        have lo3 := e3 _ _ lo2
        have lp3 := e3 _ _ lp2
        have bs3 := bs2.ex e3
        have hb3 := hb2.ex e3
        have x3 : ExB p H H3 := (w11.trans x2).trans (.of e3)
        have hkk : ((pre.length + 1 : Nat) : Int) - 1 = (pre.length : Int) := by omega
        have i1 : atI (ordL (pre ++ ca :: cb :: post)) (((pre.length + 1 : Nat) : Int) - 1) = some (.int (ca.1 : Int)) := by
          rw [hkk]
          exact atI_nat ord_get.1
        have i2 : atI (ordL (pre ++ ca :: cb :: post)) ((pre.length + 1 : Nat) : Int) = some (.int (cb.1 : Int)) := atI_nat ord_get.2
        obtain ⟨f1, f2, f3⟩ := facts_pass (q := ((ca.1 : Int), (cb.1 : Int))) w3 w4 hpp
        have hll : rs.length * rs.length ≤ 30 * 30 := Nat.mul_le_mul hl hl
        have hfew := w3.few
        refine q_appU lp3 (ev_var rfl) (eu_tup (ea_cons (ev_op (ev_var rfl) (ev_op (ev_var rfl) ev_c rv_I0) (rv_ixL (sq_of lo3) i1)) (ea_cons (ev_op (ev_var rfl) (ev_var rfl) (rv_ixL (sq_of lo3) i2)) ea_nil)) (by show 2 ≤ 100000; decide)) (by rw [w7.1]; omega) fun T H4 hT e4 h4 => ?_
        have lp4 := e4 _ _ lp3
        have x5 : ExB lp H4 (upd H4 lp (.lst (pvs ++ [.ref T]))) := (ExB.refl _ _).upd
        have r5 := (hv2.ex e4).exL x5 lp4
        have lo5 := x5 _ _ hlolp (e4 _ _ lo3)
        have lp5 : (upd H4 lp (.lst (pvs ++ [.ref T]))) lp = some (.lst (pvs ++ [.ref T])) := upd_same
        have bs5 := ((bs3.ex e4).app (Beasts.one (b := ((ca.1 : Int), (cb.1 : Int))) ⟨T, rfl, st_of h4⟩)).exB x5 lp4
        have hb5 := (hb3.ex e4).mut (o := .lst (pvs ++ [.ref T])) (Ne.symm hplp)
        have z5 : ExB p H (upd H4 lp (.lst (pvs ++ [.ref T]))) := (x3.trans (.of e4)).mut hlpH
        generalize upd H4 lp (.lst (pvs ++ [.ref T])) = H5 at r5 lo5 lp5 bs5 hb5 z5 ⊢
        refine q_sl (i := pre.length) (j := pre.length + 2) (el_lst (ea_cons (ev_op (ev_var rfl) (ev_var rfl) (rv_ixL (sq_of lo5) i2)) (ea_cons (ev_op (ev_var rfl) (ev_op (ev_var rfl) ev_c rv_I0) (rv_ixL (sq_of lo5) i1)) ea_nil)) (by show 2 ≤ 100000; decide)) (ev_var rfl) (ev_op (ev_var rfl) ev_c rv_I0) (ev_op (ev_var rfl) ev_c rv_I0) hkk (by omega) lo5 (by omega) (by rw [ord_len, List.length_append, List.length_cons, List.length_cons]; omega) (by rw [ord_len, w3.len]; show rs.length + 2 ≤ 100000; omega) fun H6 e6 => ?_
        rw [ord_swap (u := (cb.2.1 - ca.2.2, cb.2.2)) (v := ca.2)]
        have lo6 := e6 _ _ lo5
        have x7 : ExB lo H6 (upd H6 lo (.lst (ordL (pre ++ (cb.1, (cb.2.1 - ca.2.2, cb.2.2)) :: (ca.1, ca.2) :: post)))) := (ExB.refl _ _).upd
        have r7 := (r5.ex e6).exL x7 lo6
        have lp7 := x7 _ _ (Ne.symm hlolp) (e6 _ _ lp5)
        have lo7 : (upd H6 lo (.lst (ordL (pre ++ (cb.1, (cb.2.1 - ca.2.2, cb.2.2)) :: (ca.1, ca.2) :: post)))) lo = some (.lst (ordL (pre ++ (cb.1, (cb.2.1 - ca.2.2, cb.2.2)) :: (ca.1, ca.2) :: post))) := upd_same
        have bs7 := (bs5.ex e6).exB x7 lo6
        have hb7 := (hb5.ex e6).mut (o := .lst (ordL (pre ++ (cb.1, (cb.2.1 - ca.2.2, cb.2.2)) :: (ca.1, ca.2) :: post))) (Ne.symm hplo)
        have z7 : ExB p H (upd H6 lo (.lst (ordL (pre ++ (cb.1, (cb.2.1 - ca.2.2, cb.2.2)) :: (ca.1, ca.2) :: post)))) := (z5.trans (.of e6)).mut hlo
        generalize upd H6 lo (.lst (ordL (pre ++ (cb.1, (cb.2.1 - ca.2.2, cb.2.2)) :: (ca.1, ca.2) :: post))) = H7 at r7 lp7 lo7 bs7 hb7 z7 ⊢
        have hL7 : (HH.rowsOf (pre ++ (cb.1, (cb.2.1 - ca.2.2, cb.2.2)) :: ca :: post)).length = rs.length := by rw [cow_len, f1.len]
        refine s_asgL (el_lcR1 (letsN (HH.rowsOf (pre ++ (cb.1, (cb.2.1 - ca.2.2, cb.2.2)) :: ca :: post))) (fun i => .int (i : Int)) (ea_cons (ev_lenR (ev_var rfl) r7) ea_nil) (by omega) (fun x => rfl) (fun i H1 e1 hi => et_B (ev_call (ea_cons (ev_var rfl) (ea_cons (ev_var rfl) ea_nil)) (sv_can_pass (r7.ex e1) (by omega)))) (fun i H1 e1 hi _ => ev_var rfl)) fun ls8 H8 hls8 e8 h8 => ?_
        exact ⟨_, f3, v2, some (.int ((pre.length + 1 : Nat) : Int)), ls8, pre ++ (cb.1, (cb.2.1 - ca.2.2, cb.2.2)) :: ca :: post, ps ++ [((ca.1 : Int), (cb.1 : Int))], pvs ++ [.ref T], c + 1, rfl, rfl, r7.ex e8, .step w2 hpp, f1, f2, e8 _ _ lo7, e8 _ _ lp7, bs7.ex e8, h8, (hb7.ne hls8).symm, hb7.ex e8, by omega, z7.trans (.of e8)⟩
      · -- return
        have hnil : HH.passL (HH.rowsOf L) = [] := by
          cases hz : HH.passL (HH.rowsOf L) with
          | nil => rfl
          | cons x r =>
            rw [hz] at hd
            cases hd
        refine ⟨v', rfl, .ref lo, rfl, .inl ⟨lo, _, rfl, sq_of (e1 _ _ w5), fun ot hot => ⟨.ref lp, rfl, by show 3 ≤ sizeLine; decide, fun qq hqq => ?_⟩⟩⟩
        have ee := (e1.trans (Ex.new (o := .tup (ordL L)) hot)).trans (Ex.new (o := .tup [v', .ref ot, .ref lp]) hqq)
        refine q qq v' ot lp pvs L ps _ ⟨w11.trans (.of ee), (w9.ex ee).le (by omega), upd_same, w1.ex ee, ?_, ee _ _ w6, w7.ex ee⟩ w2 w3 hnil
        exact Ex.new hqq _ _ upd_same
theorem ok_law_begun {f f1 f3 : Addr} {fd fd1 fd3 : FuncData} (F : FnP K "_law_begun" s_law_begun f fd) (g : mg "_law_begun" = some (.ref f)) (b : Binds K fd ["_law_box", "_law_row_now"] []) (h_law_of : Has P w K mg base 2 "_law_of" ["_law_box", "_law_pool"] (spOf K) f1 fd1) (h_law_fallen : Has P w K mg base 1 "_law_fallen" ["_law_row_now", "_law_place"] (spFallen K) f3 fd3)
    (m_range : mg "range" = none) (m_tuple : mg "tuple" = none) (m_list : mg "list" = none) (m_len : mg "len" = none) : Has P w K mg base 3 "_law_begun" ["_law_box", "_law_row_now"] (spBegun K) f fd := by
  refine ⟨F.ok sc_law_begun (fun vs H Q E h => ?_) (fun cdv A outer s H vs Q E hr h => ?_), g, F.kp, b⟩
  · obtain ⟨p, v, rs, n, rfl, _⟩ := h
    rfl
  · obtain ⟨p, v, rs, n, rfl, hv, hl0, hl, ht, hb, hn, q⟩ := h
    refine ⟨_, PSs.nox (pss_cons (ps_par (i := 2) (j := 3) (by rfl) sc_law_begun.nd rfl rfl (by decide) rfl rfl (pa_cons (pe_listRg rfl (by rfl) m_list (prg_1 (by rfl) m_range (pe_callB call_len_seq (by rfl) m_len PySem.boot_len (pa_cons (pv 1) pa_nil)))) (pa_cons (pe_lst pa_nil) pa_nil)) (by rfl))
      (pss_cons (ps_setLc (i := 5) (own := [("_law_place", 4)]) (g := gName 4) (by rfl) sc_law_begun.nd rfl rfl (sw_true rfl rfl rfl (by decide +kernel)) (pi_range1 (by rfl) m_range (pa_cons (pe_op op_sub (pe_callB call_len_seq (by rfl) m_len PySem.boot_len (pa_cons (pv 1) pa_nil)) pe_int) pa_nil)) (blkOk_by (own := [("_law_place", 4)]) (N := ["_law_box", "_law_row_now", "_law_queue", "_law_pairs_here", "_law_place", "_law_some"]) (sc := defScope s_law_begun) (by decide +kernel)) (fun _ _ _ _ _ => (pg_name (i := 4) sc_law_begun.nd rfl (Or.inl rfl))) (fun _ _ _ _ _ => (pts_one (pt_cmpR op_gt (pe_ix (ix_tupK (K := K)) (pe_ix (ix_tupK (K := K)) (pv 1) (pv 4) (fun _ _ => rfl)) pe_int (fun _ _ => rfl)) (pe_ix (ix_tupK (K := K)) (pe_ix (ix_tupK (K := K)) (pv 1) (pe_op op_add (pv 4) pe_int) (fun _ _ => rfl)) pe_int (fun _ _ => rfl)) (nomark _)))) (fun _ _ _ _ _ => (pv 4)))
      (pss_cons (ps_while PassesOwn.never (pt_cmpR (op_neD hr.units) (pv 5) (pe_lst pa_nil) (nomark _)) (pss_cons (ps_set (i := 4) sc_law_begun.nd rfl (.inl rfl) (pe_call h_law_of.G (hr.mono (by decide)) (by rfl) h_law_of.g h_law_of.kp h_law_of.b .nil pass0 (pa_cons (pv 0) (pa_cons (pv 5) pa_nil))))
      (pss_cons (ps_set (i := 1) sc_law_begun.nd rfl (.inr rfl) (pe_call h_law_fallen.G (hr.mono (by decide)) (by rfl) h_law_fallen.g h_law_fallen.kp h_law_fallen.b .nil pass0 (pa_cons (pv 1) (pa_cons (pv 4) pa_nil))))
      (pss_cons (ps_expr (pe_bm PySem.F.plainAttrs_list PySem.F.slot_list_append PySem.F.type_list_append mt_append (pv 3) (pa_cons (pe_tup (pa_cons (pe_ix ix_list (pv 2) (pv 4) (fun _ _ => rfl)) (pa_cons (pe_ix ix_list (pv 2) (pe_op op_add (pv 4) pe_int) (fun _ _ => rfl)) pa_nil))) pa_nil)))
      (pss_cons (ps_asg (pe_lst (pa_cons (pe_ix ix_list (pv 2) (pe_op op_add (pv 4) pe_int) (fun _ _ => rfl)) (pa_cons (pe_ix ix_list (pv 2) (pv 4) (fun _ _ => rfl)) pa_nil))) (pg_sl (pv 2) (pv 4) (pe_op op_add (pv 4) pe_int)))
      (pss_one (ps_setLc (i := 5) (own := [("_law_place", 4)]) (g := gName 4) (by rfl) sc_law_begun.nd rfl rfl (sw_true rfl rfl rfl (by decide +kernel)) (pi_range1 (by rfl) m_range (pa_cons (pe_op op_sub (pe_callB call_len_seq (by rfl) m_len PySem.boot_len (pa_cons (pv 1) pa_nil)) pe_int) pa_nil)) (blkOk_by (own := [("_law_place", 4)]) (N := ["_law_box", "_law_row_now", "_law_queue", "_law_pairs_here", "_law_place", "_law_some"]) (sc := defScope s_law_begun) (by decide +kernel)) (fun _ _ _ _ _ => (pg_name (i := 4) sc_law_begun.nd rfl (Or.inl rfl))) (fun _ _ _ _ _ => (pts_one (pt_cmpR op_gt (pe_ix (ix_tupK (K := K)) (pe_ix (ix_tupK (K := K)) (pv 1) (pv 4) (fun _ _ => rfl)) pe_int (fun _ _ => rfl)) (pe_ix (ix_tupK (K := K)) (pe_ix (ix_tupK (K := K)) (pv 1) (pe_op op_add (pv 4) pe_int) (fun _ _ => rfl)) pe_int (fun _ _ => rfl)) (nomark _)))) (fun _ _ _ _ _ => (pv 4)))))))))
      (pss_one (ps_ret (pe_tup (pa_cons (pv 1) (pa_cons (pe_tupleOf (by rfl) m_tuple (pv 2)) (pa_cons (pv 3) pa_nil))))))))), ?_⟩
    have hv0 := hv
    obtain ⟨a, vs, rfl, hta, hbs⟩ := hv0
    refine ⟨.ref a, rfl, a, vs, rfl, .inr hta, _, rfl, RgOk.of_le (by decide) (by rw [hbs.1]; omega) (by decide) (by omega), fun lo hlo => ⟨by show 0 ≤ sizeLine; decide, fun lp hlp => ⟨_, _, rfl, ?_⟩⟩⟩
    rw [hbs.1, ord_tag] at hlp ⊢
    have e1 : Ex H (upd H lo (.lst (ordL (tag 0 rs)))) := Ex.new hlo
    have hlpH : H lp = none := fresh_back e1 hlp
    have hlolp : lo ≠ lp := fun z => by
      subst z
      rw [upd_same] at hlp
      cases hlp
    have e2 : Ex H (upd (upd H lo (.lst (ordL (tag 0 rs)))) lp (.lst [])) := e1.trans (Ex.new hlp)
    have hlo2 : (upd (upd H lo (.lst (ordL (tag 0 rs)))) lp (.lst [])) lo = some (.lst (ordL (tag 0 rs))) := by
      rw [upd_ne hlolp, upd_same]
    have hlp2 : (upd (upd H lo (.lst (ordL (tag 0 rs)))) lp (.lst [])) lp = some (.lst []) := upd_same
    generalize upd (upd H lo (.lst (ordL (tag 0 rs)))) lp (.lst []) = H2 at e2 hlo2 hlp2 ⊢
    refine q_asgL (el_lcR1 (fallsN rs) (fun i => .int (i : Int)) (n := ((rs.length - 1 : Nat) : Int)) (ea_cons (ev_is (ev_op (ev_lenR (ev_var rfl) (hv.ex e2)) ev_c rv_I0) (by rw [show ((rs.length : Nat) : Int) - 1 = ((rs.length - 1 : Nat) : Int) by omega])) ea_nil) (by omega) (fun x => rfl) (fun i H1 e1 hi => et_test (ev_op (ev_str (ev_var rfl) (hv.ex (e2.trans e1)) (ev_var rfl) rfl (row_get (i := i) (by omega))) (ev_str (ev_var rfl) (hv.ex (e2.trans e1)) (ev_op (ev_var rfl) ev_c rv_I0) (show (i : Int) + 1 = ((i + 1 : Nat) : Int) by omega) (row_get (i := i + 1) (by omega))) rv_I0)) (fun i H1 e1 hi _ => ev_var rfl)) fun ls H3 hls e3 h3 => ?_
    refine q_while (fun m σ' H' => ∃ (v' : V) (y4 : Option V) (ls : Addr) (L : List Cow) (ps : List (Int × Int)) (pvs : List V) (c : Nat), σ' = [some (.ref p), some v', some (.ref lo), some (.ref lp), y4, some (.ref ls)] ∧ m = asc (L.map (·.1)) ∧ RowAt K H' v' (HH.rowsOf L) ∧ FRun (tag 0 rs) L ps ∧ Facts rs.length L ps ∧ FInv L ∧ H' lo = some (.lst (ordL L)) ∧ H' lp = some (.lst pvs) ∧ Beasts K H' pvs ps ∧ H' ls = some (.lst (HH.fallG (HH.rowsOf L))) ∧ ls ≠ p ∧ Bx H' p c ∧ c + m ≤ n + 900 ∧ ExB p H H') (asc ((tag 0 rs).map (·.1))) ?_ (fun m σ' H' hW => ?_)
    · have hf := facts_tag ht
      have hfew := hf.few
      have hll : rs.length * rs.length ≤ 30 * 30 := Nat.mul_le_mul hl hl
      have e23 := e2.trans e3
      refine ⟨_, none, ls, tag 0 rs, [], [], n, rfl, rfl, ?_, .nil, hf, finv_tag 0 rs, e3 _ _ hlo2, e3 _ _ hlp2, Beasts.nil, ?_, ((hb.ex e2).ne hls).symm, hb.ex e23, ?_, .of e23⟩
      · rw [show HH.rowsOf (tag 0 rs) = rs from tag_snd 0 rs]
        exact hv.ex e23
      · rw [show HH.rowsOf (tag 0 rs) = rs from tag_snd 0 rs]
        exact h3
      · have : ([] : List (Int × Int)).length = 0 := rfl
        omega
    · obtain ⟨v', y4, ls, L, ps, pvs, c, rfl, rfl, w1, w2, w3, w4, w5, w6, w7, w8, hlsp, w9, w10, w11⟩ := hW
      have hLl : (HH.rowsOf L).length = rs.length := by rw [cow_len, w3.len]
      obtain ⟨ns, hns⟩ : ∃ ns : List Int, HH.fallG (HH.rowsOf L) = ns.map V.int := by
        refine ⟨((List.range ((HH.rowsOf L).length - 1)).filter (fallsN (HH.rowsOf L))).map fun (i : Nat) => (i : Int), ?_⟩
        unfold HH.fallG given
        rw [List.map_map]
        rfl
      have w8' := w8
      rw [hns] at w8'
      refine ⟨!(HH.fallG (HH.rowsOf L)).isEmpty, by rw [hns]; exact et_neNil (ev_var rfl) (sq_of w8') (dp_ints ns) (nice_ints ns) (by decide), fun hd H1 e1 => ?_, fun hd H1 e1 => ?_⟩
      · have hne : 0 < (HH.fallG (HH.rowsOf L)).length := by
          cases hz : HH.fallG (HH.rowsOf L) with
          | nil =>
            rw [hz] at hd
            cases hd
          | cons x r => exact Nat.succ_pos _
        have hshort : (HH.fallG (HH.rowsOf L)).length ≤ rs.length := by
          have := given_len ((HH.rowsOf L).length - 1) (fallsN (HH.rowsOf L)) (fun i => V.int (i : Int))
          have e : (HH.fallG (HH.rowsOf L)).length ≤ (HH.rowsOf L).length - 1 := this
          omega
        refine ⟨fun σ2 H2 => ∃ m', m' < asc (L.map (·.1)) ∧ ∃ (v' : V) (y4 : Option V) (ls : Addr) (L : List Cow) (ps : List (Int × Int)) (pvs : List V) (c : Nat), σ2 = [some (.ref p), some v', some (.ref lo), some (.ref lp), y4, some (.ref ls)] ∧ m' = asc (L.map (·.1)) ∧ RowAt K H2 v' (HH.rowsOf L) ∧ FRun (tag 0 rs) L ps ∧ Facts rs.length L ps ∧ FInv L ∧ H2 lo = some (.lst (ordL L)) ∧ H2 lp = some (.lst pvs) ∧ Beasts K H2 pvs ps ∧ H2 ls = some (.lst (HH.fallG (HH.rowsOf L))) ∧ ls ≠ p ∧ Bx H2 p c ∧ c + m' ≤ n + 900 ∧ ExB p H H2, fun σ2 H2 h => h, ?_⟩
        refine ⟨.ref p, rfl, .ref ls, rfl, p, ls, HH.fallG (HH.rowsOf L), c, rfl, sq_of (e1 _ _ w8), hne, by omega, hlsp, w9.ex e1, by omega, fun r x H2 hx e2 hb2 => ?_⟩
        obtain ⟨k, rfl, hk, hlet⟩ := given_get hx
        obtain ⟨pre, post, ca, cb, rfl, rfl, hpp, hpr⟩ := cow_fall (by omega) hlet
        have x2 : ExB p H' H2 := (ExB.of e1).trans e2
        obtain ⟨ys9, hys9⟩ := w9.lst
        have hplo : lo ≠ p := (hb.ne hlo).symm
        have hplp : lp ≠ p := (hb.ne hlpH).symm
        have r2 := w1.exB x2 w9
        have lo2 := x2 _ _ hplo w5
        have lp2 := x2 _ _ hplp w6
        have bs2 := w7.exB x2 hys9
        refine ⟨v', rfl, .int (pre.length : Int), rfl, v', _, pre.length, rfl, r2, by omega, by show pre.length + 1 < _; omega, fun v2 H3 e3 hv2 => ?_⟩
        rw [hpr] at hv2
        have lo3 := e3 _ _ lo2
        have lp3 := e3 _ _ lp2
        have bs3 := bs2.ex e3
        have hb3 := hb2.ex e3
        have x3 : ExB p H H3 := (w11.trans x2).trans (.of e3)
        have hkk : (pre.length : Int) + 1 = ((pre.length + 1 : Nat) : Int) := by omega
        have i1 : atI (ordL (pre ++ ca :: cb :: post)) (pre.length : Int) = some (.int (ca.1 : Int)) := atI_nat ord_get.1
        have i2 : atI (ordL (pre ++ ca :: cb :: post)) ((pre.length : Int) + 1) = some (.int (cb.1 : Int)) := by
          rw [hkk]
          exact atI_nat ord_get.2
        obtain ⟨f1, f2, f3⟩ := facts_fall (q := ((ca.1 : Int), (cb.1 : Int))) w3 w4 hpp
        have hll : rs.length * rs.length ≤ 30 * 30 := Nat.mul_le_mul hl hl
        have hfew := w3.few
        refine q_appU lp3 (ev_var rfl) (eu_tup (ea_cons (ev_op (ev_var rfl) (ev_var rfl) (rv_ixL (sq_of lo3) i1)) (ea_cons (ev_op (ev_var rfl) (ev_op (ev_var rfl) ev_c rv_I0) (rv_ixL (sq_of lo3) i2)) ea_nil)) (by show 2 ≤ 100000; decide)) (by rw [w7.1]; omega) fun T H4 hT e4 h4 => ?_
        have lp4 := e4 _ _ lp3
        have x5 : ExB lp H4 (upd H4 lp (.lst (pvs ++ [.ref T]))) := (ExB.refl _ _).upd
        have r5 := (hv2.ex e4).exL x5 lp4
        have lo5 := x5 _ _ hlolp (e4 _ _ lo3)
        have lp5 : (upd H4 lp (.lst (pvs ++ [.ref T]))) lp = some (.lst (pvs ++ [.ref T])) := upd_same
        have bs5 := ((bs3.ex e4).app (Beasts.one (b := ((ca.1 : Int), (cb.1 : Int))) ⟨T, rfl, st_of h4⟩)).exB x5 lp4
        have hb5 := (hb3.ex e4).mut (o := .lst (pvs ++ [.ref T])) (Ne.symm hplp)
        have z5 : ExB p H (upd H4 lp (.lst (pvs ++ [.ref T]))) := (x3.trans (.of e4)).mut hlpH
        generalize upd H4 lp (.lst (pvs ++ [.ref T])) = H5 at r5 lo5 lp5 bs5 hb5 z5 ⊢
        refine q_sl (i := pre.length) (j := pre.length + 2) (el_lst (ea_cons (ev_op (ev_var rfl) (ev_op (ev_var rfl) ev_c rv_I0) (rv_ixL (sq_of lo5) i2)) (ea_cons (ev_op (ev_var rfl) (ev_var rfl) (rv_ixL (sq_of lo5) i1)) ea_nil)) (by show 2 ≤ 100000; decide)) (ev_var rfl) (ev_var rfl) (ev_op (ev_var rfl) ev_c rv_I0) rfl (show (pre.length : Int) + 2 = ((pre.length + 2 : Nat) : Int) by omega) lo5 (by omega) (by rw [ord_len, List.length_append, List.length_cons, List.length_cons]; omega) (by rw [ord_len, w3.len]; show rs.length + 2 ≤ 100000; omega) fun H6 e6 => ?_
        rw [ord_swap (u := cb.2) (v := (ca.2.1 + cb.2.2, ca.2.2))]
        have lo6 := e6 _ _ lo5
        have x7 : ExB lo H6 (upd H6 lo (.lst (ordL (pre ++ (cb.1, cb.2) :: (ca.1, (ca.2.1 + cb.2.2, ca.2.2)) :: post)))) := (ExB.refl _ _).upd
        have r7 := (r5.ex e6).exL x7 lo6
        have lp7 := x7 _ _ (Ne.symm hlolp) (e6 _ _ lp5)
        have lo7 : (upd H6 lo (.lst (ordL (pre ++ (cb.1, cb.2) :: (ca.1, (ca.2.1 + cb.2.2, ca.2.2)) :: post)))) lo = some (.lst (ordL (pre ++ (cb.1, cb.2) :: (ca.1, (ca.2.1 + cb.2.2, ca.2.2)) :: post))) := upd_same
        have bs7 := (bs5.ex e6).exB x7 lo6
        have hb7 := (hb5.ex e6).mut (o := .lst (ordL (pre ++ (cb.1, cb.2) :: (ca.1, (ca.2.1 + cb.2.2, ca.2.2)) :: post))) (Ne.symm hplo)
        have z7 : ExB p H (upd H6 lo (.lst (ordL (pre ++ (cb.1, cb.2) :: (ca.1, (ca.2.1 + cb.2.2, ca.2.2)) :: post)))) := (z5.trans (.of e6)).mut hlo
        generalize upd H6 lo (.lst (ordL (pre ++ (cb.1, cb.2) :: (ca.1, (ca.2.1 + cb.2.2, ca.2.2)) :: post))) = H7 at r7 lp7 lo7 bs7 hb7 z7 ⊢
        have hL7 : (HH.rowsOf (pre ++ cb :: (ca.1, (ca.2.1 + cb.2.2, ca.2.2)) :: post)).length = rs.length := by rw [cow_len, f1.len]
        refine s_asgL (el_lcR1 (fallsN (HH.rowsOf (pre ++ cb :: (ca.1, (ca.2.1 + cb.2.2, ca.2.2)) :: post))) (fun i => .int (i : Int)) (n := (((HH.rowsOf (pre ++ cb :: (ca.1, (ca.2.1 + cb.2.2, ca.2.2)) :: post)).length - 1 : Nat) : Int)) (ea_cons (ev_is (ev_op (ev_lenR (ev_var rfl) r7) ev_c rv_I0) (by rw [show (((HH.rowsOf (pre ++ cb :: (ca.1, (ca.2.1 + cb.2.2, ca.2.2)) :: post)).length : Nat) : Int) - 1 = (((HH.rowsOf (pre ++ cb :: (ca.1, (ca.2.1 + cb.2.2, ca.2.2)) :: post)).length - 1 : Nat) : Int) by omega])) ea_nil) (by omega) (fun x => rfl) (fun i H1 e1 hi => et_test (ev_op (ev_str (ev_var rfl) (r7.ex e1) (ev_var rfl) rfl (row_get (i := i) (by omega))) (ev_str (ev_var rfl) (r7.ex e1) (ev_op (ev_var rfl) ev_c rv_I0) (show (i : Int) + 1 = ((i + 1 : Nat) : Int) by omega) (row_get (i := i + 1) (by omega))) rv_I0)) (fun i H1 e1 hi _ => ev_var rfl)) fun ls8 H8 hls8 e8 h8 => ?_
        exact ⟨_, f3, v2, some (.int (pre.length : Int)), ls8, pre ++ cb :: (ca.1, (ca.2.1 + cb.2.2, ca.2.2)) :: post, ps ++ [((ca.1 : Int), (cb.1 : Int))], pvs ++ [.ref T], c + 1, rfl, rfl, r7.ex e8, .step w2 hpp, f1, f2, e8 _ _ lo7, e8 _ _ lp7, bs7.ex e8, h8, (hb7.ne hls8).symm, hb7.ex e8, by omega, z7.trans (.of e8)⟩
      · -- return
        have hnil : HH.fallG (HH.rowsOf L) = [] := by
          cases hz : HH.fallG (HH.rowsOf L) with
          | nil => rfl
          | cons x r =>
            rw [hz] at hd
            cases hd
        refine ⟨v', rfl, .ref lo, rfl, .inl ⟨lo, _, rfl, sq_of (e1 _ _ w5), fun ot hot => ⟨.ref lp, rfl, by show 3 ≤ sizeLine; decide, fun qq hqq => ?_⟩⟩⟩
        have ee := (e1.trans (Ex.new (o := .tup (ordL L)) hot)).trans (Ex.new (o := .tup [v', .ref ot, .ref lp]) hqq)
        refine q qq v' ot lp pvs L ps _ ⟨w11.trans (.of ee), (w9.ex ee).le (by omega), upd_same, w1.ex ee, ?_, ee _ _ w6, w7.ex ee⟩ w2 w3 hnil
        exact Ex.new hqq _ _ upd_same
theorem ok_law_pairs {f : Addr} {fd : FuncData} (F : FnP K "_law_pairs" s_law_pairs f fd) (g : mg "_law_pairs" = some (.ref f)) (b : Binds K fd ["_law_many"] []) (m_range : mg "range" = none) : Has P w K mg base 1 "_law_pairs" ["_law_many"] (spAllPairs K) f fd := by
  refine ⟨F.ok sc_law_pairs (fun vs H Q E h => ?_) (fun cdv A outer s H vs Q E hr h => ?_), g, F.kp, b⟩
  · obtain ⟨n, rfl, _⟩ := h
    rfl
  · obtain ⟨n, rfl, hn, q⟩ := h
    refine ⟨_, PSs.nox (pss_cons (ps_set (i := 1) sc_law_pairs.nd rfl (.inl rfl) (pe_lst pa_nil))
      (pss_cons (ps_for PassesOwn.never rfl (pi_range1 (by rfl) m_range (pa_cons (pv 0) pa_nil)) (pg_name (i := 2) sc_law_pairs.nd rfl (Or.inr rfl))
        (pss_one (ps_set (i := 1) sc_law_pairs.nd rfl (.inl rfl) (pe_op op_cat (pv 1) (pe_lc (own := [("_law_other", 3)]) (g := gName 3) (by rfl) sc_law_pairs.nd (pi_range2 (by rfl) m_range (pa_cons (pe_op op_add (pv 2) pe_int) (pa_cons (pv 0) pa_nil))) (blkOk_by (own := [("_law_other", 3)]) (N := ["_law_many", "_law_found", "_law_one", "_law_other"]) (sc := defScope s_law_pairs) (by decide +kernel)) (fun _ _ _ _ _ => (pg_name (i := 3) sc_law_pairs.nd rfl (Or.inl rfl))) (fun _ _ _ _ _ => pts_nil) (fun _ _ _ _ _ => (pe_tup (pa_cons (pv 2) (pa_cons (pv 3) pa_nil)))))))))
      (pss_one (ps_ret (pv 1))))), ?_⟩
    refine q_asgL (el_lst ea_nil (by show 0 ≤ 100000; decide)) fun l0 H1 hl0 e1 h1 => ?_
    refine q_forR1 (n := (n : Int)) (ea_cons (ev_var rfl) ea_nil) (by omega) (fun i σ' H' => ∃ (y2 y3 : Option V) (l : Addr) (us : List V), σ' = [some (.int (n : Int)), some (.ref l), y2, y3] ∧ H' l = some (.lst us) ∧ BeastsT H' us (tabP (fun _ _ => true) n i) ∧ Ex H H' ∧ H l = none) (fun H2 e2 => ⟨none, none, l0, [], rfl, e2 _ _ h1, .nil, e1.trans e2, hl0⟩) (fun i σ' H2 hi hW => ?_) (fun σ' H2 hW => ?_)
    · obtain ⟨y2, y3, l, us, rfl, w1, w2, w3, w4⟩ := hW
      have hi' : i < n := by omega
      refine ⟨.ref l, rfl, ?_⟩
      refine (ept_row (i := i) (n := n) (ko := 2) (σ := [some (.int (n : Int)), some (.ref l), some (.int (i : Int)), y3]) (ea_cons (ev_op (ev_var rfl) ev_c rv_I0) (ea_cons (ev_var rfl) ea_nil)) ⟨hi', by omega⟩ (fun x => rfl) (fun x => rfl) (fun x => rfl)) H2 (Ex.refl H2) _ fun c uc H3 hc e3 g3 b3 => ?_
      refine ⟨l, c, us, uc, rfl, rfl, e3 _ _ w1, g3, sz_of ?_, fun d hd => ?_⟩
      · rw [All2.len w2, All2.len b3]
        have h1 := tabP_len (fun _ _ => true) n i
        have h2 := tabPR_len (fun _ _ => true) i (n - (i + 1))
        have h3 : i * n ≤ 30 * 30 := Nat.mul_le_mul (by omega) hn
        omega
      · have nd := Ex.new (o := .lst (us ++ uc)) hd
        refine ⟨_, y3, d, us ++ uc, rfl, upd_same, ?_, w3.trans (e3.trans nd), fresh_back (w3.trans e3) hd⟩
        rw [tabP_succ]
        exact All2.app (BeastsT.ex' w2 (e3.trans nd)) (BeastsT.ex' b3 nd)
    · obtain ⟨y2, y3, l, us, rfl, w1, w2, w3, w4⟩ := hW
      exact ⟨.ref l, rfl, q l us H2 w4 w3 w1 w2⟩
theorem ok_law_turned {f f1 : Addr} {fd fd1 : FuncData} (F : FnP K "_law_turned" s_law_turned f fd) (g : mg "_law_turned" = some (.ref f)) (b : Binds K fd ["_law_queue"] []) (h_law_pairs : Has P w K mg base 1 "_law_pairs" ["_law_many"] (spAllPairs K) f1 fd1) (m_dict : mg "dict" = none) (m_enumerate : mg "enumerate" = none) (m_len : mg "len" = none) : Has P w K mg base 2 "_law_turned" ["_law_queue"] (spTurnedT K) f fd := by
  refine ⟨F.ok sc_law_turned (fun vs H Q E h => ?_) (fun cdv A outer s H vs Q E hr h => ?_), g, F.kp, b⟩
  · obtain ⟨o, l, rfl, _⟩ := h
    rfl
  · obtain ⟨o, l, rfl, ho, nd, hall, hl, q⟩ := h
    have hu := room_u1 hr
    refine ⟨_, PSs.nox (pss_cons (ps_set (i := 1) sc_law_turned.nd rfl (.inr rfl) (pe_callTy (call_dictPK (K := K) rfl) (by rfl) m_dict (by decide +kernel) (pa_cons (pe_lc (own := [("_law_at", 4), ("_law_who", 5)]) (g := gTup K 2 (gCons (gName 4) (gCons (gName 5) gNil))) (by rfl) sc_law_turned.nd (pi_enumT (by rfl) m_enumerate (pa_cons (pv 0) pa_nil)) (blkOk_by (own := [("_law_at", 4), ("_law_who", 5)]) (N := ["_law_queue", "_law_spots", "_law_one", "_law_other", "_law_at", "_law_who"]) (sc := defScope s_law_turned) (by decide +kernel)) (fun _ _ _ _ _ => (pg_tup rfl (pgs_cons (pg_name (i := 4) sc_law_turned.nd rfl (Or.inl rfl)) (pgs_cons (pg_name (i := 5) sc_law_turned.nd rfl (Or.inl rfl)) pgs_nil)))) (fun _ _ _ _ _ => pts_nil) (fun _ _ _ _ _ => (pe_tup (pa_cons (pv 5) (pa_cons (pv 4) pa_nil))))) pa_nil)))
      (pss_one (ps_ret (pe_lc (own := [("_law_one", 2), ("_law_other", 3)]) (g := gTup K 2 (gCons (gName 2) (gCons (gName 3) gNil))) (by rfl) sc_law_turned.nd (pi_list (pe_call h_law_pairs.G (hr.mono (by decide)) (by rfl) h_law_pairs.g h_law_pairs.kp h_law_pairs.b .nil pass0 (pa_cons (pe_callB call_len_seq (by rfl) m_len PySem.boot_len (pa_cons (pv 0) pa_nil)) pa_nil))) (blkOk_by (own := [("_law_one", 2), ("_law_other", 3)]) (N := ["_law_queue", "_law_spots", "_law_one", "_law_other", "_law_at", "_law_who"]) (sc := defScope s_law_turned) (by decide +kernel)) (fun _ _ _ _ _ => (pg_tup rfl (pgs_cons (pg_name (i := 2) sc_law_turned.nd rfl (Or.inl rfl)) (pgs_cons (pg_name (i := 3) sc_law_turned.nd rfl (Or.inl rfl)) pgs_nil)))) (fun _ _ _ _ _ => (pts_one (pt_cmpR op_lt (pe_dget hu (pv 1) (pv 3) (fun _ _ => rfl)) (pe_dget hu (pv 1) (pv 2) (fun _ _ => rfl)) (nomark _)))) (fun _ _ _ _ _ => (pe_tup (pa_cons (pv 2) (pa_cons (pv 3) pa_nil)))))))), ?_⟩
    refine q_run ?_
    refine dict_enum (K := K) (ev_var rfl) ho nd (by omega) (fun x y => rfl) (fun x y => rfl) (fun x y => rfl) fun d kvs H1 hd e1 g1 pd => ?_
    have ho1 := ex_t e1 ho
    have hpl : ∀ j : Nat, j < l.length → ∃ p : Nat, l[p]? = some j ∧ valV kvs (.inl (j : Int)) = some (.int (p : Int)) := fun j hj => by
      obtain ⟨p, hp⟩ := List.getElem?_of_mem (hall j hj)
      exact ⟨p, hp, pd.at' p j (List.getElem?_eq_some_iff.mp hp).1 hp⟩
    have src : Src K PairT (tCall (spAllPairs K) [] E0 (tCons (tCB (rLenS K) (tCons (tVar 0) tNil)) tNil)) [some (.ref o), some (.ref d), none, none, none, none] H1 (tabP (fun _ _ => true) l.length l.length) := src_new fun H7 e7 Q7 k7 => by
      refine (ev_lenT (K := K) (ev_var rfl) (ex_t e7 ho1) : Ev (tCB (rLenS K) (tCons (tVar 0) tNil)) _ H7 (.int ((natsV l).length : Int))) H7 (Ex.refl H7) _ fun H8 e8 => ?_
      rw [natsV_len]
      exact ⟨l.length, rfl, hl, fun a us H9 ha e9 g9 b9 => k7 a us H9 (fresh_back e8 ha) (e8.trans e9) g9 b9⟩
    have key := ept_sel (K := K) (i := 2) (j := 3) (vs := [2, 3]) (ta := tVar 2) (tb := tVar 3) (fun b => bef l b.2.toNat b.1.toNat) (fun b => b) (src_T src) (by have := tabP_small (fun _ _ => true) hl; omega) (fun x y => rfl) (t := tTest (tOp (rI0 fun i j => .bl (decide (i < j))) (tDGet (tVar 1) (tVar 3)) (tDGet (tVar 1) (tVar 2)))) (fun b H2 e2 mb => ?_) (fun b H2 e2 mb _ => ev_var rfl) (fun b H2 e2 mb _ => ev_var rfl)
    · refine key H1 (Ex.refl H1) _ fun a us H2 ha e2 g2 b2 => ?_
      refine q a us H2 (fresh_back e1 ha) (e1.trans e2) g2 ?_
      have e : ((tabP (fun _ _ => true) l.length l.length).filter fun b => bef l b.2.toNat b.1.toNat).map (fun b => b) = tab l l.length l.length := by
        rw [List.map_id']
        refine pw_same (List.Pairwise.filter _ (pw_tabP _ _ _)) (pw_tab _ _ _) fun x => ?_
        rw [List.mem_filter, mem_tabP, mem_tab]
        constructor
        · rintro ⟨⟨i, j, h1, h2, rfl, _⟩, h3⟩
          exact ⟨i, j, h1, h2, rfl, by simpa using h3⟩
        · rintro ⟨i, j, h1, h2, rfl, h3⟩
          exact ⟨⟨i, j, h1, h2, rfl, rfl⟩, by simpa using h3⟩
      rw [e] at b2
      exact b2
    · obtain ⟨i, j, h1, h2, rfl, _⟩ := mem_tabP.mp mb
      obtain ⟨pi, hpi, hvi⟩ := hpl i (by omega)
      obtain ⟨pj, hpj, hvj⟩ := hpl j h2
      have d2 := e2 _ _ g1
      refine et_is (et_test (ev_op (ev_dget (k := .inl (j : Int)) (ev_var rfl) (ev_var rfl) d2 hvj) (ev_dget (k := .inl (i : Int)) (ev_var rfl) (ev_var rfl) d2 hvi) rv_I0)) ?_
      dsimp only
      rw [Int.toNat_natCast, Int.toNat_natCast, bef_iff nd hpj hpi]
      exact decide_eq_decide.mpr (by omega)
theorem ok_law_kept {f f1 f2 f3 : Addr} {fd fd1 fd2 fd3 : FuncData} (F : FnP K "_law_kept" s_law_kept f fd) (g : mg "_law_kept" = some (.ref f)) (b : Binds K fd ["_law_box", "_law_row_now"] []) (h_law_ended : Has P w K mg base 3 "_law_ended" ["_law_box", "_law_row_now"] (spEnded K) f1 fd1) (h_law_begun : Has P w K mg base 3 "_law_begun" ["_law_box", "_law_row_now"] (spBegun K) f2 fd2) (h_law_pairs : Has P w K mg base 1 "_law_pairs" ["_law_many"] (spAllPairs K) f3 fd3) (m_len : mg "len" = none) :
    Has P w K mg base 4 "_law_kept" ["_law_box", "_law_row_now"] (spKeptBy K) f fd := by
  refine ⟨F.ok sc_law_kept (fun vs H Q E h => ?_) (fun cdv A outer s H vs Q E hr h => ?_), g, F.kp, b⟩
  · obtain ⟨p, v, rs, n, rfl, _⟩ := h
    rfl
  · obtain ⟨p, v, rs, n, rfl, hv, h0, hl, ht, hb, hn, q⟩ := h
    refine ⟨_, PSs.nox (pss_cons (ps_set (i := 2) sc_law_kept.nd rfl (.inr rfl) (pe_op op_cat (pe_ix ix_tup (pe_call h_law_ended.G (hr.mono (by decide)) (by rfl) h_law_ended.g h_law_ended.kp h_law_ended.b .nil pass0 (pa_cons (pv 0) (pa_cons (pv 1) pa_nil))) pe_int (fun _ _ => rfl)) (pe_ix ix_tup (pe_call h_law_begun.G (hr.mono (by decide)) (by rfl) h_law_begun.g h_law_begun.kp h_law_begun.b .nil pass0 (pa_cons (pv 0) (pa_cons (pv 1) pa_nil))) pe_int (fun _ _ => rfl))))
      (pss_one (ps_ret (pe_lc (own := [("_law_pair", 3)]) (g := gName 3) (by rfl) sc_law_kept.nd (pi_list (pe_call h_law_pairs.G (hr.mono (by decide)) (by rfl) h_law_pairs.g h_law_pairs.kp h_law_pairs.b .nil pass0 (pa_cons (pe_callB call_len_seq (by rfl) m_len PySem.boot_len (pa_cons (pv 1) pa_nil)) pa_nil))) (blkOk_by (own := [("_law_pair", 3)]) (N := ["_law_box", "_law_row_now", "_law_moved", "_law_pair"]) (sc := defScope s_law_kept) (by decide +kernel)) (fun _ _ _ _ _ => (pg_name (i := 3) sc_law_kept.nd rfl (Or.inl rfl))) (fun _ _ _ _ _ => (pts_one (pt_cmpR (op_notInDK (K := K) (room_u65 hr)) (pv 3) (pv 2) (by with_unfolding_all rfl)))) (fun _ _ _ _ _ => (pv 3)))))), ?_⟩
    refine ⟨.ref p, rfl, v, rfl, p, v, rs, n, rfl, hv, hl, ht, hb, by omega, fun q4 v4 ot4 lp4 pvs4 L4 ps4 H4 E4 run4 f4 nil4 => ?_⟩
    refine ⟨q4, _, 2, .ref lp4, rfl, rfl, st_of E4.q, rfl, ?_⟩
    refine ⟨.ref p, rfl, v, rfl, p, v, rs, n + 1000, rfl, hv.exB E4.ex hb, h0, hl, ht, E4.bx, by omega, fun q5 v5 ot5 lp5 pvs5 L5 ps5 H5 E5 run5 f5 nil5 => ?_⟩
    refine ⟨q5, _, 2, .ref lp5, rfl, rfl, st_of E5.q, rfl, ?_⟩
    obtain ⟨bl, hbl⟩ := hb.lst
    obtain ⟨bl4, hbl4⟩ := E4.bx.lst
    have t4 := (run4.told ht).1
    have t5 := (run5.told ht).1
    have np4 : lp4 ≠ p := fun z => by
      have a := E4.lst
      have c := E4.prs
      rw [z, hbl4] at a
      cases a
      obtain ⟨x, y, z', e, _⟩ := E4.bx
      rw [hbl4] at e
      cases e
      match ps4, c with
      | [], c => exact absurd c.1 (by simp)
      | b0 :: _, c =>
        obtain ⟨u, hu, pp, rfl, _⟩ := c.2 0 b0 rfl
        cases hu
    have g4 := E5.ex _ _ np4 E4.lst
    have b4 := E4.prs.exB E5.ex hbl4
    have lps : ps4.length ≤ 900 ∧ ps5.length ≤ 900 := by
      have a1 := (told_tab t4 (ids_lt (rs := rs) run4.steps.idsT (Nat.le_refl _))).length_eq
      have a2 := (told_tab t5 (ids_lt (rs := rs) run5.steps.idsT (Nat.le_refl _))).length_eq
      have c1 := tab_small (L4.map (·.1)) hl
      have c2 := tab_small (L5.map (·.1)) hl
      omega
    refine ⟨lp4, lp5, pvs4, pvs5, rfl, rfl, g4, E5.lst, sz_of (by rw [b4.1, E5.prs.1]; omega), fun mv hmv => ?_⟩
    have nm := Ex.new (o := .lst (pvs4 ++ pvs5)) hmv
    have gm : (upd H5 mv (.lst (pvs4 ++ pvs5))) mv = some (.lst (pvs4 ++ pvs5)) := upd_same
    have bm : All2 (BeastAt K (upd H5 mv (.lst (pvs4 ++ pvs5)))) (pvs4 ++ pvs5) (ps4 ++ ps5) := beasts_2 ((b4.ex nm).app (E5.prs.ex nm))
    have hv6 := ((hv.exB E4.ex hb).exB E5.ex E4.bx).ex nm
    have b6 := E5.bx.ex nm
    have x6 : ExB p H (upd H5 mv (.lst (pvs4 ++ pvs5))) := (E4.ex.trans E5.ex).trans (.of nm)
    generalize upd H5 mv (.lst (pvs4 ++ pvs5)) = H6 at gm bm hv6 b6 x6 ⊢
    have src : Src K PairT (tCall (spAllPairs K) [] E0 (tCons (tCB (rLenS K) (tCons (tVar 1) tNil)) tNil)) [some (.ref p), some v, some (.ref mv), none] H6 (tabP (fun _ _ => true) rs.length rs.length) := src_new fun H7 e7 Q7 k7 => by
      refine (ev_lenR (K := K) (ev_var rfl) (hv6.ex e7) : Ev (tCB (rLenS K) (tCons (tVar 1) tNil)) _ H7 (.int (rs.length : Int))) H7 (Ex.refl H7) _ fun H8 e8 => ⟨rs.length, rfl, hl, fun a us H9 ha e9 g9 b9 => k7 a us H9 (fresh_back e8 ha) (e8.trans e9) g9 b9⟩
    have fl := ep_filt (K := K) (vs := [3]) (j := 3) (t := tTest (tOp (rNotInD K) (tVar 3) (tVar 2))) (fun x => !decide (x ∈ ps4 ++ ps5)) stb_T src (by have := tabP_small (fun _ _ => true) hl; omega) (fun x => rfl) (fun x => rfl) (fun b x H7 e7 rb mb => et_notinL (K := K) (ev_var rfl) (by obtain ⟨pp, rfl, hp⟩ := rb; exact ⟨pp, rfl, st_of hp⟩) (ev_var rfl) (sq_of (e7 _ _ gm)) ((stb_B K).all e7 bm))
    rw [keep_filter t4 t5] at fl
    refine fl H6 (Ex.refl H6) _ fun a us H7 ha e7 g7 b7 => ?_
    obtain ⟨bl6, hbl6⟩ := b6.lst
    exact q a us L4 L5 H7 run4.steps (nf_of nil4) run5.steps (ff_of (by rw [run5.steps.len, tag_len]; exact h0) nil5) (fresh_backB x6 hbl6 ha) (x6.trans (.of e7)) (b6.ex e7) g7 b7
theorem ok_law_near {f f1 : Addr} {fd fd1 : FuncData} (F : FnP K "_law_near" s_law_near f fd) (g : mg "_law_near" = some (.ref f)) (b : Binds K fd ["_law_box", "_law_queue", "_law_kept_here", "_law_many"] []) (h_law_take : Has P w K mg base 1 "_law_take" ["_law_box", "_law_many"] spTake f1 fd1) (m_list : mg "list" = none) (m_range : mg "range" = none) (m_max : mg "max" = none) (m_len : mg "len" = none) (m_tuple : mg "tuple" = none) (m_sorted : mg "sorted" = none) : Has P w K mg base 2 "_law_near" ["_law_box", "_law_queue", "_law_kept_here", "_law_many"] (spNear K) f fd := by
  refine ⟨F.ok sc_law_near (fun vs H Q E h => ?_) (fun cdv A outer s H vs Q E hr h => ?_), g, F.kp, b⟩
  · obtain ⟨p, q, kp, l, ks, us, m, n, G, rfl, _⟩ := h
    rfl
  · obtain ⟨p, qa, kp, l, ks, us, m, n, G, rfl, hq, hk, bs, nkp, l0, hl, hm, hb, hlim, g0, gs, q⟩ := h
    refine ⟨_, PSs.nox (pss_cons (ps_set (i := 4) sc_law_near.nd rfl (.inl rfl) (pe_callTy call_list_of (by rfl) m_list (by decide +kernel) (pa_cons (pv 1) pa_nil)))
      (pss_cons (ps_for PassesOwn.never rfl (pi_range1 (by rfl) m_range (pa_cons (pv 3) pa_nil)) (pg_name (i := 5) sc_law_near.nd rfl (Or.inl rfl))
        (pss_cons (ps_set (i := 6) sc_law_near.nd rfl (.inl rfl) (pe_call h_law_take.G (hr.mono (by decide)) (by rfl) h_law_take.g h_law_take.kp h_law_take.b .nil pass0 (pa_cons (pv 0) (pa_cons (pe_callB (call_max2 rfl) (by rfl) m_max (by decide +kernel) (pa_cons pe_int (pa_cons (pe_op op_sub (pe_callB call_len_seq (by rfl) m_len PySem.boot_len (pa_cons (pv 4) pa_nil)) pe_int) pa_nil))) pa_nil))))
      (pss_cons (ps_set (i := 7) sc_law_near.nd rfl (.inl rfl) (pe_tupleOf (by rfl) m_tuple (pe_callB cr_sortedI (by rfl) m_sorted (by decide +kernel) (pa_cons (pe_slice sl_list (pv 4) (po_some (pv 6)) (po_some (pe_op op_add (pv 6) pe_int))) pa_nil))))
      (pss_one (ps_if (PW.pt (pw_and (pt_cmpR op_eq (pe_callB call_len_seq (by rfl) m_len PySem.boot_len (pa_cons (pv 7) pa_nil)) pe_int (nomark _)) (pw_and1 (pt_cmpR (op_notInD (room_u65 hr)) (pv 7) (pv 2) (by with_unfolding_all rfl))))) (pss_one (ps_asg (pe_revL (pe_slice sl_list (pv 4) (po_some (pv 6)) (po_some (pe_op op_add (pv 6) pe_int)))) (pg_sl (pv 4) (pv 6) (pe_op op_add (pv 6) pe_int)))) pss_nil)))))
      (pss_one (ps_ret (pe_tupleOf (by rfl) m_tuple (pv 4)))))), ?_⟩
    refine ⟨.ref qa, rfl, qa, natsV l, rfl, hq, fun fa hfa => ?_⟩
    have n1 := Ex.new (o := .lst (natsV l)) hfa
    have gf : (upd H fa (.lst (natsV l))) fa = some (.lst (natsV l)) := upd_same
    have npf : fa ≠ p := (hb.ne hfa).symm
    generalize upd H fa (.lst (natsV l)) = H1 at n1 gf ⊢
    have hb1 := hb.ex n1
    obtain ⟨bl, hbl⟩ := hb.lst
    have nkf : kp ≠ fa := ne_of_none hk hfa
    dsimp only
    refine g_at [some (.ref p), some (.ref qa), some (.ref kp), some (.int (m : Int)), some (.ref fa), none, none, none] rfl ?_
    refine q_forR1 (n := (m : Int)) (ea_cons (ev_var rfl) ea_nil) ⟨by omega, by omega⟩ (fun i σ' H' => ∃ (y5 y6 y7 : Option V) (l' : List Nat), σ' = [some (.ref p), some (.ref qa), some (.ref kp), some (.int (m : Int)), some (.ref fa), y5, y6, y7] ∧ H' fa = some (.lst (natsV l')) ∧ l'.length = l.length ∧ G l' ∧ Bx H' p (n + i) ∧ ExB p H H' ∧ H' kp = some (.lst us) ∧ BeastsT H' us ks)
      (fun H2 e2 => ⟨none, none, none, l, rfl, e2 _ _ gf, rfl, g0, hb1.ex e2, .of (n1.trans e2), (n1.trans e2) _ _ hk, BeastsT.ex' bs (n1.trans e2)⟩) (fun i σ' H2 hi hW => ?_) (fun σ' H2 hW => ?_)
    · obtain ⟨y5, y6, y7, l', rfl, w1, w2, w3, w4, w5, w6, w7⟩ := hW
      have hmx : (0 : Int) < (if ((natsV l').length : Int) - 1 > 1 then ((natsV l').length : Int) - 1 else 1) ∧ (if ((natsV l').length : Int) - 1 > 1 then ((natsV l').length : Int) - 1 else 1) < 1073741824 ∧ (if ((natsV l').length : Int) - 1 > 1 then ((natsV l').length : Int) - 1 else 1) ≤ (if l'.length ≤ 1 then 1 else (l'.length : Int) - 1) := by
        rw [natsV_len]
        split <;> split <;> omega
      refine ⟨.ref p, rfl, (ev_max2 ev_c (ev_op (ev_len (K := K) (ev_var rfl) (sq_of w1)) ev_c rv_I0) : Ev (tCB rMax2 (tCons (tC (.int 1)) (tCons (tOp (rI0 fun i j => .int (i - j)) (tCB (rLenS K) (tCons (tVar 4) tNil)) (tC (.int 1))) tNil))) [some (.ref p), some (.ref qa), some (.ref kp), some (.int (m : Int)), some (.ref fa), some (.int (i : Int)), y6, y7] H2 _) H2 (Ex.refl H2) _ fun H3 e3 => ?_⟩
      refine ⟨p, _, n + i, rfl, hmx.1, hmx.2.1, w4.ex e3, by omega, fun r H4 r0 r1 x4 b4 => ?_⟩
      obtain ⟨k, rfl⟩ := Int.eq_ofNat_of_zero_le r0
      have nkp' := nkp
      have w14 := x4 _ _ npf (e3 _ _ w1)
      have w64 := x4 _ _ nkp (e3 _ _ w6)
      obtain ⟨bl3, hbl3⟩ := (w4.ex e3).lst
      have w74 := BeastsT.exB' (BeastsT.ex' w7 e3) x4 hbl3
      have w54 : ExB p H H4 := w5.trans ((ExB.of e3).trans x4)
      refine g_at [some (.ref p), some (.ref qa), some (.ref kp), some (.int (m : Int)), some (.ref fa), some (.int (i : Int)), some (.int (k : Int)), y7] rfl ?_
      by_cases c2 : k + 1 < l'.length
      · obtain ⟨A, a, b, B, rfl, hA⟩ := split_at c2
        subst hA
        have sl : EvL (tSl (rSlL K) (tVar 4) (tPart (tVar 6)) (tPart (tOp (rI0 fun i j => .int (i + j)) (tVar 6) (tC (.int 2))))) [some (.ref p), some (.ref qa), some (.ref kp), some (.int (m : Int)), some (.ref fa), some (.int (i : Int)), some (.int (A.length : Int)), y7] H4 (natsV [a, b]) := by
          rw [← cut_midN (A := A) (B := B)]
          exact el_sl (ev_var rfl) (eo_some (ev_var rfl)) (eo_some (ev_op (ev_var rfl) ev_c rv_I0)) (sq_of w14)
        refine q_asgU (eu_tupL (K := K) (el_sortedI (K := K) (ns := [(a : Int), (b : Int)]) sl sort2N.1 sort2N.2)) fun T H5 hT e5 g5 => ?_
        have w15 := e5 _ _ w14
        have w65 := e5 _ _ w64
        have w75 := BeastsT.ex' w74 e5
        have bT : BeastAt K H5 (.ref T) (((if a ≤ b then a else b : Nat) : Int), ((if a ≤ b then b else a : Nat) : Int)) := ⟨T, rfl, st_of g5⟩
        refine s_at [some (.ref p), some (.ref qa), some (.ref kp), some (.int (m : Int)), some (.ref fa), some (.int (i : Int)), some (.int (A.length : Int)), some (.ref T)] rfl ?_
        refine s_when (b := true && !decide ((((if a ≤ b then a else b : Nat) : Int), ((if a ≤ b then b else a : Nat) : Int)) ∈ ks)) (et_and (a := true) (et_is (et_test (ev_op (ev_lenT (K := K) (ev_var rfl) (st_of g5)) ev_c (rv_eq rfl))) (decide_eq_true rfl)) fun _ => et_notinL (K := K) (ev_var rfl) bT (ev_var rfl) (sq_of w65) (beasts_2 (BeastsT.be w75))) (fun z H6 e6 => ?_) (fun z H6 e6 => ?_)
        · have hn : ¬ (((if a ≤ b then a else b : Nat) : Int), ((if a ≤ b then b else a : Nat) : Int)) ∈ ks := by
            rw [Bool.true_and] at z
            simpa using z
          have sl6 : EvL (tSl (rSlL K) (tVar 4) (tPart (tVar 6)) (tPart (tOp (rI0 fun i j => .int (i + j)) (tVar 6) (tC (.int 2))))) [some (.ref p), some (.ref qa), some (.ref kp), some (.int (m : Int)), some (.ref fa), some (.int (i : Int)), some (.int (A.length : Int)), some (.ref T)] H6 (natsV [a, b]) := by
            rw [← cut_midN (A := A) (B := B)]
            exact el_sl (ev_var rfl) (eo_some (ev_var rfl)) (eo_some (ev_op (ev_var rfl) ev_c rv_I0)) (sq_of (e6 _ _ w15))
          have lnl : (natsV (A ++ a :: b :: B)).length = A.length + (B.length + 2) := by rw [natsV_len, List.length_append]; rfl
          have lnl2 : A.length + (B.length + 2) = l.length := by rw [← w2, List.length_append]; rfl
          refine s_sl2 (i := A.length) (j := A.length + 2) (el_revL (K := K) sl6) (ev_var rfl) (ev_var rfl) (ev_op (ev_var rfl) ev_c rv_I0) rfl (by omega) (e6 _ _ w15) (by omega) (by omega) (by rw [lnl, List.length_reverse, natsV_len]; show A.length + (B.length + 2) + 2 ≤ 100000; omega) fun H7 e7 => ?_
          rw [take_pair]
          have e47 := (e5.trans e6).trans e7
          refine ⟨_, _, _, A ++ b :: a :: B, rfl, ?_, by rw [← w2, List.length_append, List.length_append]; rfl, gs A a b B w3 hn, (b4.ex e47).mut (Ne.symm npf), (w54.trans (.of e47)).mut hfa, ?_, ?_⟩
          · rw [upd_same, natsV_app, List.append_assoc]
            rfl
          · rw [upd_ne nkf]
            exact e47 _ _ w64
          · exact BeastsT.exB' (BeastsT.ex' w74 e47) (ExB.refl _ _).upd (e47 _ _ w14)
        · have e46 := e5.trans e6
          exact ⟨_, _, _, A ++ a :: b :: B, rfl, e46 _ _ w14, w2, w3, b4.ex e46, w54.trans (.of e46), e46 _ _ w64, BeastsT.ex' w74 e46⟩
      · have l1 : l'.length = 1 := by
          have := hmx.2.2
          split at this <;> omega
        obtain ⟨a, rfl⟩ := List.length_eq_one_iff.mp l1
        have hk0 : k = 0 := by
          have h3 : (if (([a] : List Nat)).length ≤ 1 then (1 : Int) else ((([a] : List Nat)).length : Int) - 1) = 1 := if_pos (Nat.le_refl 1)
          have h4 := hmx.2.2
          rw [h3] at h4
          omega
        subst hk0
        have sl : EvL (tSl (rSlL K) (tVar 4) (tPart (tVar 6)) (tPart (tOp (rI0 fun i j => .int (i + j)) (tVar 6) (tC (.int 2))))) [some (.ref p), some (.ref qa), some (.ref kp), some (.int (m : Int)), some (.ref fa), some (.int (i : Int)), some (.int ((0 : Nat) : Int)), y7] H4 (natsV [a]) := by
          have : cutV (natsV [a]) (some ((0 : Nat) : Int)) (some (((0 : Nat) : Int) + 2)) = natsV [a] := rfl
          rw [← this]
          exact el_sl (ev_var rfl) (eo_some (ev_var rfl)) (eo_some (ev_op (ev_var rfl) ev_c rv_I0)) (sq_of w14)
        refine q_asgU (eu_tupL (K := K) (el_sortedI (K := K) (ns := [(a : Int)]) (ms := [(a : Int)]) sl (.refl _) (List.Pairwise.cons (fun x hx => by cases hx) .nil))) fun T H5 hT e5 g5 => ?_
        refine s_at [some (.ref p), some (.ref qa), some (.ref kp), some (.int (m : Int)), some (.ref fa), some (.int (i : Int)), some (.int ((0 : Nat) : Int)), some (.ref T)] rfl ?_
        refine s_when (b := false) (et_and (a := false) (b := false) (et_is (et_test (ev_op (ev_lenT (K := K) (ev_var rfl) (st_of g5)) ev_c (rv_eq rfl))) (decide_eq_false fun z => by cases z)) (fun z => by cases z)) (fun z => by cases z) (fun z H6 e6 => ?_)
        have e46 := e5.trans e6
        exact ⟨_, _, _, [a], rfl, e46 _ _ w14, w2, w3, b4.ex e46, w54.trans (.of e46), e46 _ _ w64, BeastsT.ex' w74 e46⟩
    · obtain ⟨y5, y6, y7, l', rfl, w1, w2, w3, w4, w5, w6, w7⟩ := hW
      rw [Int.toNat_natCast] at w4
      refine (eu_tupV (K := K) (te := tVar 4) (ev_var rfl) (sq_of w1)) H2 (Ex.refl H2) _ fun o H3 ho e3 g3 => ?_
      obtain ⟨bl2, hbl2⟩ := w4.lst
      exact q o l' H3 (w5.trans (.of e3)) (w4.ex e3) (fresh_backB w5 hbl2 ho) g3 w2 w3
end
end K29
set_option maxHeartbeats 4000000
namespace K29
open PySem PySem.Spec PyProof.Rows L2 Evl HH RZ
section
variable {P : Program} {w : World} {K : PySem.W.Frag} {mg : Str → Option Value} {base : Heap}
theorem ok_is_deed {f f1 : Addr} {fd fd1 : FuncData} (F : FnP K "is_deed" s_is_deed f fd) (g : mg "is_deed" = some (.ref f)) (b : Binds K fd ["thing"] []) (h_is_number : Has P w K mg base 1 "is_number" ["thing"] (spAnyB K isNumD) f1 fd1) (m_isinstance : mg "isinstance" = none) (m_tuple : mg "tuple" = none) (m_len : mg "len" = none) : Has P w K mg base 2 "is_deed" ["thing"] (spAnyK K isDeedD) f fd := by
  refine ⟨F.ok sc_is_deed (fun vs H Q E h => ?_) (fun cdv A outer s H vs Q E hr h => ?_), g, F.kp, b⟩
  · obtain ⟨P', v, d, c, k, rfl, _⟩ := h
    rfl
  · obtain ⟨P', v, d, c, k, rfl, hd, hw, hk, q⟩ := h
    refine ⟨_, PSs.nox (pss_cons (ps_if (PW.pt (pw_or (pt_not (pt_val (pe_callB call_isi (by rfl) m_isinstance (by decide +kernel) (pa_cons (pv 0) (pa_cons (pe_bltn (v := .ty "tuple") (by rfl) m_tuple (by decide +kernel) rfl) pa_nil))))) (pw_or1 (pt_cmpR op_ne (pe_callB call_len_seq (by rfl) m_len PySem.boot_len (pa_cons (pv 0) pa_nil)) pe_int (nomark _))))) (pss_one (ps_ret pe_bl)) pss_nil)
      (pss_one (ps_ret (pe_and (pe_cmpR (op_inT (room_u65 hr)) (pe_ix ix_tup (pv 0) pe_int (fun _ _ => rfl)) (pe_tup (pa_cons pe_str (pa_cons pe_str pa_nil))) (by with_unfolding_all rfl)) (pe_one (pe_call h_is_number.G (hr.mono (by decide)) (by rfl) h_is_number.g h_is_number.kp h_is_number.b .nil pass0 (pa_cons (pe_ix ix_tup (pv 0) pe_int (fun _ _ => rfl)) pa_nil))))))), ?_⟩
    have t1 : EvT (tNot (tB (tCB (rIsi K) (tCons (tVar 0) (tCons (tC (.ty "tuple")) tNil))))) [some v] H (!(isTupB d)) := et_not (et_B (ev_isiD (ev_var rfl) hd (kitT d)))
    by_cases ht : isTupB d = true
    · obtain ⟨es, rfl⟩ := tup_isA ht
      obtain ⟨k', a, xs, rfl, rfl, sa, ds⟩ := hd.tupAt
      rw [ht] at t1
      refine q_when (b := false || !decide (V.int (xs.length : Int) = V.int 2)) (et_or (et_is t1 rfl) fun _ => et_test (ev_op (ev_lenT (K := K) (ev_var rfl) sa) ev_c (rv_ne rfl))) (fun hb H1 e1 => ?_) (fun hb H1 e1 => ?_)
      · refine s_ret (v := .bl (isDeedD (.tuple es))) (ev_is ev_c ?_) fun H2 e2 => q H2 (e1.trans e2)
        rw [isDeed_len fun z => ?_]
        rw [ds.1, z] at hb
        exact absurd hb (by decide)
      · have h2 : xs.length = 2 := by
          rw [Bool.false_or, Bool.not_eq_false', decide_eq_true_iff] at hb
          injection hb with hb
          omega
        have h2' : es.length = 2 := by rw [← ds.1]; exact h2
        match xs, es, h2, h2' with
        | [x, y], [dx, dy], _, _ =>
        have hx := ds.2 0 x dx rfl rfl
        have hy := ds.2 1 y dy rfl rfl
        have wy := wtD_at (ds := [dx, dy]) (i := 1) (e := dy) rfl
        have sa1 := ex_t e1 sa
        refine s_ret (v := .bl (isDeedD (.tuple [dx, dy]))) ?_ fun H2 e2 => q H2 (e1.trans e2)
        rw [isDeed_pair]
        refine ev_andV (fun H2 e2 Q2 k2 => ?_) fun _ => ev_call (ea_cons (ev_op (ev_var rfl) ev_c (rv_ixT (K := K) sa1 (atI_nat (j := 1) rfl))) ea_nil) (sv_any (hy.ex e1) (by omega))
        refine (ev_op (ev_var (i := 0) rfl) (ev_c (v := .int 0)) (rv_ixT (K := K) sa1 (atI_nat (j := 0) (v := x) rfl)) : Ev _ _ H1 x) H2 e2 _ fun H3 e3 => ⟨by show 2 ≤ sizeLine; decide, fun tp htp => ?_⟩
        have nT := Ex.new (o := .tup [V.str "pass", .str "fall"]) htp
        have hx3 := hx.ex (((e1.trans e2).trans e3).trans nT)
        refine ⟨dx, [.str "pass", .str "fall"], hx3.dp, .tup (st_of upd_same) (.cons (.str _) (.cons (.str _) .nil)), (hx3.nice).shaped (by omega), by decide +kernel, ?_⟩
        rw [word_any]
        exact k2 _ (e3.trans nT)
    · have hf : isTupB d = false := Bool.eq_false_iff.mpr ht
      rw [hf] at t1
      refine q_when (b := true || false) (et_or (a := true) (et_is t1 rfl) fun z => by cases z) (fun _ H1 e1 => ?_) (fun z => by cases z)
      exact s_ret (v := .bl (isDeedD d)) (ev_is ev_c (by rw [isDeed_not hf])) fun H2 e2 => q H2 (e1.trans e2)
theorem ok_leads_to {f f1 f2 C2 : Addr} {fd fd1 fd2 : FuncData} (F : FnP K "leads_to" s_leads_to f fd) (g : mg "leads_to" = some (.ref f)) (b : Binds K fd ["row", "order", "deeds"] []) (x_NotLet : HasE P w K mg base .run "NotLet" "number" C2 f2 fd2) (h_led : HasX P w K mg base 4 "led" ["row", "deeds"] (spLedX K C2) f1 fd1) (k1 : PySem.W.exmOne K (.ref C2) (.ref C2) = some true) : Has P w K mg base 5 "leads_to" ["row", "order", "deeds"] (spLeadsZ K) f fd := by
  refine ⟨F.ok sc_leads_to (fun vs H Q E h => ?_) (fun cdv A outer s H vs Q E hr h => ?_), g, F.kp, b⟩
  · obtain ⟨v, o, c, rs, l, us, ds, rfl, _⟩ := h
    rfl
  · obtain ⟨v, o, c, rs, l, us, ds, rfl, hv, hl, ho, hc, hd, dl, q⟩ := h
    refine ⟨_, PSs.nox (pss_one (ps_try_only rfl rfl ⟨rfl, by decide, .inl x_NotLet.g⟩ takes_no (fun W pn xe tk _ => (pss_one (ps_ret (pe_cmpR (op_eqDK (K := K) (by exact hr.units)) (pe_ix (ix_tupK (K := K)) (pe_callS h_led.G (hr.mono (by decide)) (by rfl) h_led.g h_led.kp h_led.b (fun σ => passAt tk σ) (pa_cons (pv 0) (pa_cons (pv 2) pa_nil))) pe_int (fun _ _ => rfl)) (pv 1) (nomark _))))) (fun a oe cls d pn _ _ => (pss_one (ps_ret pe_bl))))), ?_⟩
    refine ⟨v, rfl, .ref c, rfl, v, rs, c, us, ds, rfl, hv, hl, hc, hd, dl, fun s hs qq v' t H1 e1 gq hv' ht => ?_, fun k hk d H1 e1 hdn => ⟨true, k1, fun _ a ha => ?_, fun z => by cases z⟩⟩
    · have el : leadsB rs l ds = decide (s.2 = l) := by
        unfold leadsB
        rw [hs]
      rw [el] at q
      refine ⟨qq, _, 1, .ref t, rfl, rfl, st_of gq, rfl, .ref o, rfl, natsD s.2, natsD l, dp_nats ht, dp_nats (ex_t e1 ho), (nice_nats _).shaped (by decide), (nice_nats _).shaped (by decide), ?_⟩
      rw [eqv_natsD]
      exact q H1 e1
    · have el : leadsB rs l ds = false := by
        unfold leadsB
        rw [hk]
      rw [el] at q
      exact q _ (e1.trans (Ex.new hdn))
theorem ok_shows_way {f f1 f2 f3 : Addr} {fd fd1 fd2 fd3 : FuncData} (F : FnP K "shows_way" s_shows_way f fd) (g : mg "shows_way" = some (.ref f)) (b : Binds K fd ["row", "order", "thing"] []) (h_turned_about : Has P w K mg base 2 "turned_about" ["order"] (spTurnedT K) f1 fd1) (h_is_deed : Has P w K mg base 2 "is_deed" ["thing"] (spAnyK K isDeedD) f2 fd2) (h_leads_to : Has P w K mg base 5 "leads_to" ["row", "order", "deeds"] (spLeadsZ K) f3 fd3)
    (m_isinstance : mg "isinstance" = none) (m_list : mg "list" = none) (m_len : mg "len" = none) (m_all : mg "all" = none) : Has P w K mg base 6 "shows_way" ["row", "order", "thing"] (spShowsA K) f fd := by
  refine ⟨F.ok sc_shows_way (fun vs H Q E h => ?_) (fun cdv A outer s H vs Q E hr h => ?_), g, F.kp, b⟩
  · obtain ⟨P', v, x, o, rs, l, d, c, k, rfl, _⟩ := h
    rfl
  · obtain ⟨P', v, x, o, rs, l, d, c, k, rfl, hv, hl, ho, pl, hd, hk, hw, q⟩ := h
    refine ⟨_, PSs.nox (pss_cons (ps_if (PW.pt (pw_or (pt_not (pt_val (pe_callB call_isi (by rfl) m_isinstance (by decide +kernel) (pa_cons (pv 2) (pa_cons (pe_bltn (v := .ty "list") (by rfl) m_list (by decide +kernel) rfl) pa_nil))))) (pw_or1 (pt_cmpR op_ne (pe_callB call_len_seq (by rfl) m_len PySem.boot_len (pa_cons (pv 2) pa_nil)) (pe_callB call_len_seq (by rfl) m_len PySem.boot_len (pa_cons (pe_call h_turned_about.G (hr.mono (by decide)) (by rfl) h_turned_about.g h_turned_about.kp h_turned_about.b .nil pass0 (pa_cons (pv 1) pa_nil)) pa_nil)) (nomark _))))) (pss_one (ps_ret pe_bl)) pss_nil)
      (pss_one (ps_ret (pe_and (pe_callB (cr_all rfl) (by rfl) m_all (by decide +kernel) (pa_cons (pe_lc (own := [("part", 3)]) (g := gName 3) (by rfl) sc_shows_way.nd (pi_list (pv 2)) (blkOk_by (own := [("part", 3)]) (N := ["row", "order", "thing", "part"]) (sc := defScope s_shows_way) (by decide +kernel)) (fun _ _ _ _ _ => (pg_name (i := 3) sc_shows_way.nd rfl (Or.inl rfl))) (fun _ _ _ _ _ => pts_nil) (fun _ _ _ _ _ => (pe_call h_is_deed.G (hr.mono (by decide)) (by rfl) h_is_deed.g h_is_deed.kp h_is_deed.b .nil pass0 (pa_cons (pv 3) pa_nil)))) pa_nil)) (pe_one (pe_call h_leads_to.G (hr.mono (by decide)) (by rfl) h_leads_to.g h_leads_to.kp h_leads_to.b .nil pass0 (pa_cons (pv 0) (pa_cons (pv 1) (pa_cons (pv 2) pa_nil))))))))), ?_⟩
    have ll : l.length = rs.length := by rw [pl.length_eq, List.length_range]
    have t1 : EvT (tNot (tB (tCB (rIsi K) (tCons (tVar 2) (tCons (tC (.ty "list")) tNil))))) [some v, some (.ref o), some x, none] H (!(isListB d)) := et_not (et_B (ev_isiD (ev_var rfl) hd (kitL d)))
    by_cases ht : isListB d = true
    · obtain ⟨es, rfl⟩ := list_isA ht
      obtain ⟨k', a, xs, rfl, rfl, ga, ds⟩ := listAt hd
      have xl : xs.length = es.length := ds.1
      have wl := wtD_len es
      have t9 := tab_small l hl
      rw [ht] at t1
      have t2 : EvT (tTest (tOp rNe (tCB (rLenS K) (tCons (tVar 2) tNil)) (tCB (rLenS K) (tCons (tCall (spTurnedT K) [] E0 (tCons (tVar 1) tNil)) tNil)))) [some v, some (.ref o), some (.ref a), none] H (!decide (V.int (xs.length : Int) = V.int ((tab l rs.length rs.length).length : Int))) := by
        refine et_test (ev_op (ev_len (K := K) (ev_var rfl) (sq_of ga)) (fun H11 e11 Q k => (⟨.ref o, rfl, o, l, rfl, ex_t e11 ho, pl.nodup_iff.mpr List.nodup_range, fun y hy => pl.mem_iff.mpr (List.mem_range.mpr (by omega)), by omega, fun uq uus H12 huq e12 g12 bs12 => ⟨uq, uus, rfl, .inl (sq_of g12), by rw [All2.len bs12, ll]; exact k H12 e12⟩⟩ : (tCB (rLenS K) (tCons (tCall (spTurnedT K) [] E0 (tCons (tVar 1) tNil)) tNil)) [some v, some (.ref o), some (.ref a), none] H11 Q)) (rv_ne rfl))
      refine q_when (b := false || !decide (V.int (xs.length : Int) = V.int ((tab l rs.length rs.length).length : Int))) (et_or (et_is t1 rfl) fun _ => t2) (fun hb H1 e1 => ?_) (fun hb H1 e1 => ?_)
      · refine s_ret (v := .bl (showsD rs l (.list es))) (ev_is ev_c ?_) fun H2 e2 => q H2 (e1.trans e2)
        have hne : ¬ es.length = (tab l rs.length rs.length).length := fun z => by
          rw [xl, z] at hb
          exact absurd hb (by simp)
        rw [showsD_list, decide_eq_false hne, Bool.false_and]
      · have hlen : es.length = (tab l rs.length rs.length).length := by
          rw [Bool.false_or, Bool.not_eq_false', decide_eq_true_iff] at hb
          injection hb with hb
          omega
        have ga1 := e1 _ _ ga
        have ds1 := ds.ex e1
        refine s_ret (v := .bl (showsD rs l (.list es))) ?_ fun H2 e2 => q H2 (e1.trans e2)
        have bl1 := el_dsL (K := K) (σ := [some v, some (.ref o), some (.ref a), none]) (H := H1) (te := tVar 2) (te2 := tCall (spAnyK K isDeedD) [] E0 (tCons (tVar 3) tNil)) (j := 3) (vs := [3]) isDeedD (ev_var rfl) ga1 ds1 (by omega) (fun x => rfl) (fun i x d hx hd' H2 e2 => ev_call (ea_cons (ev_var rfl) ea_nil) (sv_anyK ((ds1.2 i x d hx hd').ex e2) (by have := wtD_at (ds := es) hd'; omega) (by omega)))
        have a1 := ev_allB (K := K) bl1
        have ea : (es.map isDeedD).all id = es.all isDeedD := by rw [List.all_map]; rfl
        rw [ea] at a1
        have fin : showsD rs l (.list es) = (es.all isDeedD && leadsB rs l (es.filterMap deedOf)) := by
          rw [showsD_list, decide_eq_true hlen, Bool.true_and]
        rw [fin]
        refine ev_andV a1 fun hall => ev_call (ea_cons (ev_var rfl) (ea_cons (ev_var rfl) (ea_cons (ev_var rfl) ea_nil))) (fun H2 e2 Q2 k2 E2 => ⟨v, o, a, rs, l, xs, es.filterMap deedOf, rfl, hv.ex (e1.trans e2), by omega, ex_t (e1.trans e2) ho, .inl (sq_of (e2 _ _ ga1)), (deeds_at ds1 hall).ex' e2, by have := List.length_filterMap_le deedOf es; omega, fun H3 e3 => k2 H3 e3⟩)
    · have hf : isListB d = false := Bool.eq_false_iff.mpr ht
      rw [hf] at t1
      refine q_when (b := true || false) (et_or (a := true) (et_is t1 rfl) fun z => by cases z) (fun _ H1 e1 => ?_) (fun z => by cases z)
      refine s_ret (v := .bl (showsD rs l d)) (ev_is ev_c ?_) fun H2 e2 => q H2 (e1.trans e2)
      cases d with
      | list es => exact absurd rfl ht
      | _ => rfl
end
end K29
set_option maxHeartbeats 4000000
namespace K29
open PySem PySem.Spec PyProof.Rows L2 Evl HH RZ
section
variable {P : Program} {w : World} {K : PySem.W.Frag} {mg : Str → Option Value} {base : Heap}
theorem bent_all {f f1 f2 : Addr} {fd fd1 fd2 : FuncData} (F : FnP K "_law_bent" s_law_bent f fd) (g : mg "_law_bent" = some (.ref f)) (b : Binds K fd ["_law_box", "_law_odd_thing"] []) (h_law_take : Has P w K mg base 1 "_law_take" ["_law_box", "_law_many"] spTake f1 fd1) (h_law_of : Has P w K mg base 2 "_law_of" ["_law_box", "_law_pool"] (spOf K) f2 fd2) (m_isinstance : mg "isinstance" = none) (m_list : mg "list" = none) (m_tuple : mg "tuple" = none) (m_int : mg "int" = none) (m_bool : mg "bool" = none) (m_len : mg "len" = none) :
    ∀ j, Has P w K mg base (j + 3) "_law_bent" ["_law_box", "_law_odd_thing"] (spBentA K j) f fd
  | 0 => ⟨⟨fun _ _ _ _ h => h.elim, fun _ _ _ _ _ _ _ _ _ _ _ _ _ h => h.elim⟩, g, F.kp, b⟩
  | j + 1 => by
    have h_law_bent := bent_all F g b h_law_take h_law_of m_isinstance m_list m_tuple m_int m_bool m_len j
    refine ⟨F.ok sc_law_bent (fun vs H Q E h => ?_) (fun cdv A outer s H vs Q E hr h => ?_), g, F.kp, b⟩
    · obtain ⟨PP, p, x, d, c, n, rfl, _⟩ := h
      rfl
    · obtain ⟨PP, p, x, d, c, n, rfl, hp, hP, hd, hw, hc, hb, hlim, q⟩ := h
      refine ⟨_, PSs.nox (pss_cons (ps_set (i := 2) sc_law_bent.nd rfl (.inl rfl) (pe_lst (pa_cons pe_non (pa_cons pe_bl (pa_cons pe_bl (pa_cons pe_int (pa_cons pe_int (pa_cons (pe_un un_neg pe_int) (pa_cons (pe_op op_pow pe_int pe_int) (pa_cons pe_str (pa_cons pe_str (pa_cons (pe_tup pa_nil) (pa_cons (pe_lst pa_nil) (pa_cons (pe_tup (pa_cons pe_int (pa_cons pe_int pa_nil))) (pa_cons (pe_lst (pa_cons pe_int pa_nil)) (pa_cons (pe_tup (pa_cons (pe_tup (pa_cons pe_int (pa_cons pe_int pa_nil))) pa_nil)) pa_nil))))))))))))))))
      (pss_cons (ps_if (PW.pt (pw_or (pt_not (pt_val (pe_callB call_isiT (by rfl) m_isinstance (by decide +kernel) (pa_cons (pv 1) (pa_cons (pe_tup (pa_cons (pe_bltn (v := .ty "list") (by rfl) m_list (by decide +kernel) rfl) (pa_cons (pe_bltn (v := .ty "tuple") (by rfl) m_tuple (by decide +kernel) rfl) pa_nil))) pa_nil))))) (pw_or (pt_cmpR op_eq (pe_callB call_len_seq (by rfl) m_len PySem.boot_len (pa_cons (pv 1) pa_nil)) pe_int (nomark _)) (pw_or1 (pt_cmpR op_eq (pe_call h_law_take.G (hr.mono (by omega)) (by rfl) h_law_take.g h_law_take.kp h_law_take.b .nil pass0 (pa_cons (pv 0) (pa_cons pe_int pa_nil))) pe_int (nomark _)))))) (pss_cons (ps_if (PW.pt (pw_and (pt_val (pe_callB call_isi (by rfl) m_isinstance (by decide +kernel) (pa_cons (pv 1) (pa_cons (pe_bltn (v := .ty "int") (by rfl) m_int (by decide +kernel) rfl) pa_nil)))) (pw_and (pt_not (pt_val (pe_callB call_isi (by rfl) m_isinstance (by decide +kernel) (pa_cons (pv 1) (pa_cons (pe_bltn (v := .ty "bool") (by rfl) m_bool (by decide +kernel) rfl) pa_nil))))) (pw_and1 (pt_cmpR op_eq (pe_call h_law_take.G (hr.mono (by omega)) (by rfl) h_law_take.g h_law_take.kp h_law_take.b .nil pass0 (pa_cons (pv 0) (pa_cons pe_int pa_nil))) pe_int (nomark _)))))) (pss_one (ps_ret (pe_op op_add (pv 1) (pe_call h_law_of.G (hr.mono (by omega)) (by rfl) h_law_of.g h_law_of.kp h_law_of.b .nil pass0 (pa_cons (pv 0) (pa_cons (pe_lst (pa_cons pe_int (pa_cons (pe_un un_neg pe_int) (pa_cons (pe_op op_sub (pe_un un_neg (pv 1)) pe_int) pa_nil)))) pa_nil)))))) pss_nil)
      (pss_one (ps_ret (pe_call h_law_of.G (hr.mono (by omega)) (by rfl) h_law_of.g h_law_of.kp h_law_of.b .nil pass0 (pa_cons (pv 0) (pa_cons (pv 2) pa_nil)))))) pss_nil)
      (pss_cons (ps_par3 (i := 3) (j := 4) (l := 5) (by rfl) sc_law_bent.nd rfl rfl rfl (by decide) (by decide) (by decide) rfl rfl rfl (pa_cons (pe_callTy call_list_of (by rfl) m_list (by decide +kernel) (pa_cons (pv 1) pa_nil)) (pa_cons (pe_call h_law_take.G (hr.mono (by omega)) (by rfl) h_law_take.g h_law_take.kp h_law_take.b .nil pass0 (pa_cons (pv 0) (pa_cons (pe_callB call_len_seq (by rfl) m_len PySem.boot_len (pa_cons (pv 1) pa_nil)) pa_nil))) (pa_cons (pe_call h_law_take.G (hr.mono (by omega)) (by rfl) h_law_take.g h_law_take.kp h_law_take.b .nil pass0 (pa_cons (pv 0) (pa_cons pe_int pa_nil))) pa_nil))) (by rfl))
      (pss_cons (ps_if (pt_cmpR op_lt (pv 5) pe_int (nomark _)) (pss_one (ps_asg (pe_call h_law_bent.G hr (by rfl) h_law_bent.g h_law_bent.kp h_law_bent.b .nil pass0 (pa_cons (pv 0) (pa_cons (pe_ix ix_list (pv 3) (pv 4) (fun _ _ => rfl)) pa_nil))) (pg_sub (pv 3) (pv 4) set_list))) (pss_one (ps_if (pt_cmpR op_eq (pv 5) pe_int (nomark _)) (pss_one (ps_expr (pe_bm PySem.F.plainAttrs_list PySem.F.slot_list_pop PySem.F.type_list_pop mt_popAt (pv 3) (pa_cons (pv 4) pa_nil)))) (pss_one (ps_if (pt_cmpR op_eq (pv 5) pe_int (nomark _)) (pss_one (ps_expr (pe_bm PySem.F.plainAttrs_list PySem.F.slot_list_insert PySem.F.type_list_insert mt_insert (pv 3) (pa_cons (pv 4) (pa_cons (pe_ix ix_list (pv 3) (pe_call h_law_take.G (hr.mono (by omega)) (by rfl) h_law_take.g h_law_take.kp h_law_take.b .nil pass0 (pa_cons (pv 0) (pa_cons (pe_callB call_len_seq (by rfl) m_len PySem.boot_len (pa_cons (pv 3) pa_nil)) pa_nil))) (fun _ _ => rfl)) pa_nil))))) (pss_one (ps_if (pt_cmpR op_eq (pv 5) pe_int (nomark _)) (pss_one (ps_asg (pe_tup (pa_cons (pe_ix ix_list (pv 3) (pv 4) (fun _ _ => rfl)) (pa_cons (pe_ix ix_list (pv 3) pe_int (fun _ _ => rfl)) pa_nil))) (pg_tup rfl (pgs_cons (pg_sub (pv 3) pe_int set_list) (pgs_cons (pg_sub (pv 3) (pv 4) set_list) pgs_nil))))) (pss_one (ps_ret (pe_ifExp (pt_val (pe_callB call_isi (by rfl) m_isinstance (by decide +kernel) (pa_cons (pv 1) (pa_cons (pe_bltn (v := .ty "list") (by rfl) m_list (by decide +kernel) rfl) pa_nil)))) (pe_tupleOf (by rfl) m_tuple (pv 3)) (pv 3)))))))))))
      (pss_one (ps_ret (pe_ifExp (pt_val (pe_callB call_isi (by rfl) m_isinstance (by decide +kernel) (pa_cons (pv 1) (pa_cons (pe_bltn (v := .ty "list") (by rfl) m_list (by decide +kernel) rfl) pa_nil)))) (pv 3) (pe_tupleOf (by rfl) m_tuple (pv 3))))))))), ?_⟩
      have i0 : ∀ {σ : L2.St} {k : Nat}, EvDa PP K c k (tC (.int 0)) σ H (.int 0) := fun {σ k} => ed_at ev_c ⟨rfl, Nat.zero_le _⟩
      refine q_asgDs (K := K) (P := PP) (c := c) (k := 2) (ds := oddL) (as_cons (ed_at ev_c True.intro) (as_cons (ed_at ev_c rfl) (as_cons (ed_at ev_c rfl) (as_cons i0 (as_cons (ed_at ev_c ⟨rfl, ?_⟩) (as_cons (ed_at (ev_un ev_c ru_neg) ⟨rfl, ?_⟩) (as_cons (ed_at (ev_pow (c := 1000000000000000000000000000000) ⟨by decide, by decide, by decide⟩ rfl) ⟨rfl, ?_⟩) (as_cons (ed_at ev_c ⟨rfl, fit0⟩) (as_cons (ed_at ev_c ⟨rfl, fitA⟩) (as_cons (ed_tup (k := 1) as_nil (Nat.zero_le _)) (as_cons (ed_lst (k := 1) hP as_nil (Nat.zero_le _)) (as_cons (ed_tup (k := 1) (as_cons i0 (as_cons i0 as_nil)) (by show 2 ≤ 10000; decide)) (as_cons (ed_lst (k := 1) hP (as_cons i0 as_nil) (by show 1 ≤ 10000; decide)) (as_cons (ed_tup (k := 1) (as_cons (ed_tup (k := 0) (as_cons i0 (as_cons i0 as_nil)) (by show 2 ≤ 10000; decide)) as_nil) (by show 1 ≤ 10000; decide)) as_nil)))))))))))))) (by show 14 ≤ 10000; decide) fun oa ou H1 hoa e1 g1 so => ?_
      · show 1 ≤ 10 ^ 30 + c
        omega
      · show 1 ≤ 10 ^ 30 + c
        omega
      · show 1000000000000000000000000000000 ≤ 10 ^ 30 + c
        omega
      refine s_at [some (.ref p), some x, some (.ref oa), none, none, none] rfl ?_
      have noa : oa ≠ p := (hb.ne hoa).symm
      have lou : ou.length = 14 := so.1
      have b1 := hb.ex e1
      obtain ⟨bl, hbl⟩ := hb.lst
      have hbl1 := e1 _ _ hbl
      have qq : ∀ (y : V) (d' : PyData) (H' : Hp) (m : Nat) (k : Nat), ExB p H H' → Bx H' p m → m ≤ n + 5 * (j + 1) → Da PP K (c + 1) H' k y d' → k ≤ j + 2 → wtD d' ≤ 2 * wtD d + 400 → Q y H' := fun y d' H' m k x' b' hm hd' hk hw' => q y d' H' x' (b'.le hm) (hd'.to hk) hw'
      have retOdd : ∀ (D : Ends) (H' : Hp) (m : Nat), D.rt = Q → ExB p H1 H' → Bx H' p m → m + 1 ≤ n + 5 * (j + 1) → tRet (tCall (spOf K) [] E0 (tCons (tVar 0) (tCons (tVar 2) tNil))) D [some (.ref p), some x, some (.ref oa), none, none, none] H' := fun D H' m hD x' b' hm => by
        refine ⟨.ref p, rfl, .ref oa, rfl, p, oa, ou, m, rfl, sq_of (x' _ _ noa g1), by omega, by omega, noa, b', by omega, fun r y H2 hy x2 b2 => ?_⟩
        rw [hD]
        have hr : r < oddL.length := by
          have := (List.getElem?_eq_some_iff.mp hy).1
          rw [← so.1]
          exact this
        have hdr := List.getElem?_eq_getElem hr
        obtain ⟨bl', hbl'⟩ := b'.lst
        have := ((so.2 r y _ hy hdr).exB hp x' hbl1).exB hp x2 hbl'
        refine qq y _ H2 (m + 1) 2 ((ExB.of e1).trans (x'.trans x2)) b2 hm (this.cc (by omega)) (by omega) ?_
        have := odd_wt (List.mem_of_getElem? hdr)
        omega
      have thenB : ∀ (D : Ends) (H' : Hp) (m : Nat), D.rt = Q → ExB p H1 H' → Bx H' p m → m + 2 ≤ n + 5 * (j + 1) → tSeq (tIfS (tAnd (tB (tCB (rIsi K) (tCons (tVar 1) (tCons (tC (.ty "int")) tNil)))) (tAnd (tNot (tB (tCB (rIsi K) (tCons (tVar 1) (tCons (tC (.ty "bool")) tNil))))) (tTest (tOp rEq (tCall spTake [] E0 (tCons (tVar 0) (tCons (tC (.int 2)) tNil))) (tC (.int 0)))))) (tRet (tOp (rI0 fun i j => .int (i + j)) (tVar 1) (tCall (spOf K) [] E0 (tCons (tVar 0) (tCons (tLst (tCons (tC (.int 1)) (tCons (tUn (rU fun i => .int (-i)) (tC (.int 1))) (tCons (tOp (rI0 fun i j => .int (i - j)) (tUn (rU fun i => .int (-i)) (tVar 1)) (tC (.int 1))) tNil)))) tNil))))) tNext) (tRet (tCall (spOf K) [] E0 (tCons (tVar 0) (tCons (tVar 2) tNil)))) D [some (.ref p), some x, some (.ref oa), none, none, none] H' := fun D H' m hD x' b' hm => by
        have hd' := (hd.ex e1).exB hp x' hbl1
        by_cases hi : isIntB d = true ∧ isBoolB d = false
        · cases d with
          | int i =>
            have ex := hd'.intAt
            subst ex
            refine qs_run ?_
            refine and_run (et_is (et_B (ev_isiD (ev_var rfl) hd' (kitI _))) rfl) fun H2 e2 => and_run (et_is (et_not (et_B (ev_isiD (ev_var rfl) (hd'.ex e2) (kitBo _)))) rfl) fun H3 e3 => draw0 rfl (by decide) (by decide) (b'.ex (e2.trans e3)) (by omega) fun cc H4 x4 b4 => ?_
            have x14 : ExB p H1 H4 := (x'.trans (.of (e2.trans e3))).trans x4
            cases cc with
            | false => exact retOdd D H4 (m + 1) hD x14 b4 (by omega)
            | true =>
              obtain ⟨bl4, hbl4⟩ := b4.lst
              refine ⟨.int i, rfl, .ref p, rfl, 1, rfl, .int i, rfl, i, rfl, -i, 1, rfl, rfl, by show 3 ≤ sizeLine; decide, fun la hla => ⟨p, la, _, m + 1, rfl, sq_of upd_same, by show 0 < 3; decide, by show 3 < 100000; decide, (b4.ne hla).symm, b4.ex (Ex.new hla), by omega, fun r y H5 hy x5 b5 => ?_⟩⟩
              have hi2 : i.natAbs ≤ 10 ^ 30 + c := hd.intB
              obtain ⟨z, rfl, hz⟩ : ∃ z : Int, y = .int z ∧ (i + z).natAbs ≤ 10 ^ 30 + (c + 1) := by
                match r, hy with
                | 0, hy =>
                  cases hy
                  exact ⟨_, rfl, by omega⟩
                | 1, hy =>
                  cases hy
                  exact ⟨_, rfl, by omega⟩
                | 2, hy =>
                  cases hy
                  exact ⟨_, rfl, by omega⟩
                | r + 3, hy => simp at hy
              refine ⟨i, z, rfl, rfl, ?_⟩
              rw [hD]
              exact qq _ (.int (i + z)) H5 (m + 1 + 1) 0 ((ExB.of e1).trans ((x14.trans (.of (Ex.new hla))).trans x5)) b5 (by omega) (show atomOk (c + 1) (.int (i + z)) (.int (i + z)) from ⟨rfl, hz⟩) (by omega) (by simp only [wtD]; omega)
          | bool _ => cases hi.2
          | none => cases hi.1
          | str _ => cases hi.1
          | list _ => cases hi.1
          | tuple _ => cases hi.1
          | dict _ => cases hi.1
        · refine qs_run ?_
          by_cases h1 : isIntB d = true
          · have h2 : isBoolB d = true := by
              cases h2 : isBoolB d with
              | true => rfl
              | false => exact (hi ⟨h1, h2⟩).elim
            refine and_run (et_is (et_B (ev_isiD (ev_var rfl) hd' (kitI _))) h1) fun H2 e2 => and_no (et_is (et_not (et_B (ev_isiD (ev_var rfl) (hd'.ex e2) (kitBo _)))) (by rw [h2]; rfl)) fun H3 e3 => retOdd D H3 m hD (x'.trans (.of (e2.trans e3))) (b'.ex (e2.trans e3)) (by omega)
          · have h1 : isIntB d = false := by simpa using h1
            refine and_no (et_is (et_B (ev_isiD (ev_var rfl) hd' (kitI _))) h1) fun H2 e2 => retOdd D H2 m hD (x'.trans (.of e2)) (b'.ex e2) (by omega)
      refine qs_run ?_
      rcases isCont hd with hc0 | ⟨hc0, ha0⟩
      case inr =>
        refine or_yes (et_is (et_not (et_B (ev_isiLT (ev_var rfl) (hd.ex e1)))) (by rw [hc0]; rfl)) fun H2 e2 => thenB _ H2 n rfl (.of e2) (b1.ex e2) (by omega)
      cases j with
      | zero => exact (Da.cont0 hd hc0).elim
      | succ k =>
        obtain ⟨a, xs, ds, rfl, h2, hx⟩ := hd.cont hc0
        have hl := hx.1
        have wl : 10 + wtDs ds = wtD d := by rcases h2 with ⟨_, _, rfl⟩ | ⟨_, rfl⟩ <;> rfl
        have wlen := wtDs_len ds
        have hsq : SqL K H a xs ∨ SqT K H a xs := by rcases h2 with ⟨_, h, _⟩ | ⟨h, _⟩; exact .inl (sq_of h); exact .inr h
        have hsB : ∀ {H' : Hp}, ExB p H H' → SqL K H' a xs ∨ SqT K H' a xs := fun {H'} x' => by
          rcases h2 with ⟨n1, h, _⟩ | ⟨h, _⟩
          · exact .inl (sq_of (x' _ _ (fun z => n1 (by rw [z]; exact hp)) h))
          · exact .inr (x'.t hbl h)
        refine or_run (et_is (et_not (et_B (ev_isiLT (ev_var rfl) (hd.ex e1)))) (by rw [hc0]; rfl)) fun H2 e2 => ?_
        by_cases hz : xs.length = 0
        · refine or_yes (et_is (et_test (ev_op (ev_lenA (K := K) (ev_var rfl) (hsB (.of (e1.trans e2)))) ev_c (rv_eq rfl))) (by rw [hz]; decide)) fun H3 e3 => thenB _ H3 n rfl (.of (e2.trans e3)) (b1.ex (e2.trans e3)) (by omega)
        refine or_run (et_is (et_test (ev_op (ev_lenA (K := K) (ev_var rfl) (hsB (.of (e1.trans e2)))) ev_c (rv_eq rfl))) (decide_eq_false fun z => by injection z with z; omega)) fun H3 e3 => ?_
        refine draw0 rfl (by decide) (by decide) (b1.ex (e2.trans e3)) (by omega) fun cc H4 x4 b4 => ?_
        have x14 : ExB p H1 H4 := ExB.trans (.of (e2.trans e3)) x4
        cases cc with
        | true => exact thenB _ H4 (n + 1) rfl x14 b4 (by omega)
        | false =>
          refine ⟨.ref a, rfl, a, xs, rfl, hsB ((ExB.of e1).trans x14), fun l hl4 => ?_⟩
          have x04 : ExB p H H4 := (ExB.of e1).trans x14
          have nlp : l ≠ p := (b4.ne hl4).symm
          have hlH : H l = none := x04.back hl4 nlp
          have nPl : ¬ PP l := fun z => by
            obtain ⟨o, ho⟩ := hP l z
            exact ne_of_none ho hlH rfl
          have x05 : ExB p H (upd H4 l (.lst xs)) := x04.new hl4
          have b5 : Bx (upd H4 l (.lst xs)) p (n + 1) := b4.ex (Ex.new hl4)
          have hx5 : DaS (Da (fun z => PP z ∨ z = l) K c (upd H4 l (.lst xs)) k) xs ds := ((hx.exB hp x04 hbl).add hl4).ex (Ex.new hl4)
          refine ⟨.ref p, rfl, .ref a, rfl, a, xs, rfl, hsB x05, p, (xs.length : Int), n + 1, rfl, by omega, by omega, b5, by omega, fun r1 H6 r10 r11 x6 b6 => ?_⟩
          obtain ⟨a1, rfl⟩ := Int.eq_ofNat_of_zero_le r10
          refine ⟨.ref p, rfl, p, 8, n + 2, rfl, by decide, by decide, b6, by omega, fun r2 H7 r20 r21 x7 b7 => ⟨_, _, _, rfl, ?_⟩⟩
          refine s_at [some (.ref p), some (.ref a), some (.ref oa), some (.ref l), some (.int (a1 : Int)), some (.int r2)] rfl ?_
          have x57 := x6.trans x7
          have gl : H7 l = some (.lst xs) := x57 _ _ nlp upd_same
          have x07 : ExB p H H7 := x05.trans x57
          obtain ⟨bl5, hbl5⟩ := b5.lst
          have hx7 : DaS (Da (fun z => PP z ∨ z = l) K c H7 k) xs ds := hx5.exB (p := p) (.inl hp) x57 hbl5
          have hP7 : ∀ {H' : Hp}, Ex H7 H' → ∀ z, (PP z ∨ z = l) → ∃ o, H' z = some o := fun {H'} e' z hz => by
            rcases hz with hz | rfl
            · by_cases zp : z = p
              · subst zp
                obtain ⟨o, ho⟩ := b7.lst
                exact ⟨_, e' _ _ ho⟩
              · obtain ⟨o, ho⟩ := hP z hz
                exact ⟨o, e' _ _ (x07 _ _ zp ho)⟩
            · exact ⟨_, e' _ _ gl⟩
          have retL : ∀ (Hf : Hp) (m : Nat) (ys : List V) (es : List PyData), ExB p H Hf → Bx Hf p m → m ≤ n + 5 * (k + 1 + 1) → Hf l = some (.lst ys) → DaS (Da (fun z => PP z ∨ z = l) K (c + 1) Hf (k + 2)) ys es → wtDs es ≤ 2 * wtDs ds + 400 → Q (.ref l) Hf := fun Hf m ys es xf bf hm gf hes hw => by
            refine qq (.ref l) (.list es) Hf m (k + 3) xf bf hm (da_lst nPl gf (hes.sub fun a h => .inl h)) (by omega) ?_
            show 10 + wtDs es ≤ _
            omega
          have retT : ∀ (Hf : Hp) (m : Nat) (ys : List V) (es : List PyData), ExB p H Hf → Bx Hf p m → m ≤ n + 5 * (k + 1 + 1) → Hf l = some (.lst ys) → DaS (Da (fun z => PP z ∨ z = l) K (c + 1) Hf (k + 2)) ys es → wtDs es ≤ 2 * wtDs ds + 400 → ∀ t, Hf t = none → Q (.ref t) (upd Hf t (.tup ys)) := fun Hf m ys es xf bf hm gf hes hw t ht => by
            refine qq (.ref t) (.tuple es) (upd Hf t (.tup ys)) m (k + 3) (xf.new ht) (bf.ex (Ex.new ht)) hm (da_tup (st_of upd_same) ((hes.sub fun a h => .inl h).ex (Ex.new ht))) (by omega) ?_
            show 10 + wtDs es ≤ _
            omega
          have fin1 : ∀ (D : Ends) (Hf : Hp) (m : Nat) (ys : List V) (es : List PyData), D.rt = Q → ExB p H Hf → Bx Hf p m → m ≤ n + 5 * (k + 1 + 1) → Hf l = some (.lst ys) → DaS (Da (fun z => PP z ∨ z = l) K (c + 1) Hf (k + 2)) ys es → wtDs es ≤ 2 * wtDs ds + 400 → tRet (tIf (tB (tCB (rIsi K) (tCons (tVar 1) (tCons (tC (.ty "list")) tNil)))) (tVar 3) (tThen (tVar 3) (kTup K))) D [some (.ref p), some (.ref a), some (.ref oa), some (.ref l), some (.int (a1 : Int)), some (.int r2)] Hf := fun D Hf m ys es hD xf bf hm gf hes hw => by
            refine ret_if (b := isListB d) (et_B (ev_isiD (ev_var rfl) (hd.exB hp xf hbl) (kitL _))) (fun _ Hg eg => ?_) fun _ Hg eg => ?_
            · rw [hD]
              exact ⟨.ref l, rfl, retL Hg m ys es (xf.trans (.of eg)) (bf.ex eg) hm (eg _ _ gf) (hes.ex eg) hw⟩
            · rw [hD]
              exact ⟨.ref l, rfl, .inl ⟨l, ys, rfl, sq_of (eg _ _ gf), fun t ht => retT Hg m ys es (xf.trans (.of eg)) (bf.ex eg) hm (eg _ _ gf) (hes.ex eg) hw t ht⟩⟩
          have fin2 : ∀ (D : Ends) (Hf : Hp) (m : Nat) (ys : List V) (es : List PyData), D.rt = Q → ExB p H Hf → Bx Hf p m → m ≤ n + 5 * (k + 1 + 1) → Hf l = some (.lst ys) → DaS (Da (fun z => PP z ∨ z = l) K (c + 1) Hf (k + 2)) ys es → wtDs es ≤ 2 * wtDs ds + 400 → tRet (tIf (tB (tCB (rIsi K) (tCons (tVar 1) (tCons (tC (.ty "list")) tNil)))) (tThen (tVar 3) (kTup K)) (tVar 3)) D [some (.ref p), some (.ref a), some (.ref oa), some (.ref l), some (.int (a1 : Int)), some (.int r2)] Hf := fun D Hf m ys es hD xf bf hm gf hes hw => by
            refine ret_if (b := isListB d) (et_B (ev_isiD (ev_var rfl) (hd.exB hp xf hbl) (kitL _))) (fun _ Hg eg => ?_) fun _ Hg eg => ?_
            · rw [hD]
              exact ⟨.ref l, rfl, .inl ⟨l, ys, rfl, sq_of (eg _ _ gf), fun t ht => retT Hg m ys es (xf.trans (.of eg)) (bf.ex eg) hm (eg _ _ gf) (hes.ex eg) hw t ht⟩⟩
            · rw [hD]
              exact ⟨.ref l, rfl, retL Hg m ys es (xf.trans (.of eg)) (bf.ex eg) hm (eg _ _ gf) (hes.ex eg) hw⟩
          have updS : ∀ {Hf : Hp} {ys zs : List V} {es : List PyData} {c' k' : Nat}, Hf l = some (.lst ys) → DaS (Da (fun z => PP z ∨ z = l) K c' Hf k') zs es → DaS (Da (fun z => PP z ∨ z = l) K c' (upd Hf l (.lst zs)) k') zs es := fun {Hf ys zs es c' k'} g h => h.exB (p := l) (.inr rfl) (ExB.refl l Hf).upd g
          have p63 : (2 : Int) ^ 63 = 9223372036854775808 := by decide
          obtain ⟨xa, da, hxa, hda, ha⟩ := hx7.at' (i := a1) (by omega)
          have wda := wtDs_get hda
          refine qs_run ?_
          refine s_if (b := decide (r2 < 4)) (et_test (ev_op (ev_var rfl) ev_c rv_I0)) (fun z4 H8 e8 => ?_) (fun z4 H8 e8 => ?_)
          · refine ⟨.ref p, rfl, .ref l, rfl, .int (a1 : Int), rfl, l, xs, (a1 : Int), xa, rfl, rfl, sq_of (e8 _ _ gl), atI_nat hxa, (fun z => PP z ∨ z = l), p, xa, da, c, n + 3, rfl, .inl hp, hP7 e8, ha.ex e8, by omega, hc, b7.ex e8, by omega, fun y d' H9 x9 b9 hd9 w9 => ?_⟩
            have g9 : H9 l = some (.lst xs) := x9 _ _ nlp (e8 _ _ gl)
            obtain ⟨bl8, hbl8⟩ := b7.lst
            have hx9 := ((hx7.ex e8).exB (p := p) (.inl hp) x9 (e8 _ _ hbl8)).to (c' := c + 1) (k' := k + 2) (by omega) (by omega)
            refine ⟨.ref l, rfl, .int (a1 : Int), rfl, l, xs, (a1 : Int), a1, rfl, rfl, g9, Evl.ixN_nat (by omega), ?_⟩
            refine fin1 _ _ (n + 3 + 5 * (k + 1)) (xs.set a1 y) (ds.set a1 d') rfl (((x07.trans (.of e8)).trans x9).mut hlH) (b9.mut nlp.symm) (by omega) upd_same (updS g9 (hx9.set hd9)) ?_
            have := wtDs_set (e' := d') hda
            omega
          refine s_if (b := decide (r2 = 4)) (et_is (et_test (ev_op (ev_var rfl) ev_c (rv_eq rfl))) (decide_eq_decide.mpr ⟨fun h => by injection h, fun h => by rw [h]⟩)) (fun z5 H9 e9 => ?_) (fun z5 H9 e9 => ?_)
          · have e79 := e8.trans e9
            refine ⟨.ref l, rfl, .inl ⟨rfl, xs, sq_of (e79 _ _ gl)⟩, .int (a1 : Int), rfl, l, xs, (a1 : Int), a1, xa, rfl, rfl, e79 _ _ gl, by omega, by omega, PySem.seqIndex_of (by omega) (by omega), hxa, ?_⟩
            refine fin1 _ _ (n + 3) (xs.eraseIdx a1) (ds.eraseIdx a1) rfl ((x07.trans (.of e79)).mut hlH) ((b7.ex e79).mut nlp.symm) (by omega) upd_same (updS (e79 _ _ gl) (((hx7.ex e79).to (by omega) (by omega)).erase a1)) ?_
            have := wtDs_erase ds a1
            omega
          refine s_if (b := decide (r2 = 5)) (et_is (et_test (ev_op (ev_var rfl) ev_c (rv_eq rfl))) (decide_eq_decide.mpr ⟨fun h => by injection h, fun h => by rw [h]⟩)) (fun z6 Ha ea => ?_) (fun z6 Ha ea => ?_)
          · have e7a := (e8.trans e9).trans ea
            refine ⟨.ref l, rfl, .inl ⟨rfl, xs, sq_of (e7a _ _ gl)⟩, .int (a1 : Int), rfl, .ref l, rfl, .ref p, rfl, .ref l, rfl, l, xs, rfl, .inl (sq_of (e7a _ _ gl)), p, (xs.length : Int), n + 3, rfl, by omega, by omega, b7.ex e7a, by omega, fun r3 Hb r30 r31 xb bb => ?_⟩
            obtain ⟨a3, rfl⟩ := Int.eq_ofNat_of_zero_le r30
            obtain ⟨x3, d3, hx3, hd3, ha3⟩ := hx7.at' (i := a3) (by omega)
            have wd3 := wtDs_get hd3
            have gb : Hb l = some (.lst xs) := xb _ _ nlp (e7a _ _ gl)
            obtain ⟨bl8, hbl8⟩ := b7.lst
            have hxb := ((hx7.ex e7a).exB (p := p) (.inl hp) xb (e7a _ _ hbl8)).to (c' := c + 1) (k' := k + 2) (by omega) (by omega)
            have hdb : Da (fun z => PP z ∨ z = l) K (c + 1) Hb (k + 2) x3 d3 := (((ha3.ex e7a).exB (p := p) (.inl hp) xb (e7a _ _ hbl8)).to (by omega)).cc (by omega)
            refine ⟨l, xs, (a3 : Int), x3, rfl, rfl, sq_of gb, atI_nat hx3, l, xs, (a1 : Int), x3, rfl, rfl, gb, sz_lt (by omega), by omega, by omega, ?_⟩
            refine fin1 _ _ (n + 4) (xs.take a1 ++ [x3] ++ xs.drop a1) (ds.take a1 ++ [d3] ++ ds.drop a1) rfl ((x07.trans ((ExB.of e7a).trans xb)).mut hlH) (bb.mut nlp.symm) (by omega) upd_same (updS gb (((hxb.take a1).app (DaS.cons hdb DaS.nil)).app (hxb.drop a1))) ?_
            have w1 := wtDs_app (ds.take a1) (ds.drop a1)
            rw [List.take_append_drop] at w1
            rw [wtDs_app, wtDs_app]
            show _ + (wtD d3 + 2 + 0) + _ ≤ _
            omega
          refine s_if (b := decide (r2 = 6)) (et_is (et_test (ev_op (ev_var rfl) ev_c (rv_eq rfl))) (decide_eq_decide.mpr ⟨fun h => by injection h, fun h => by rw [h]⟩)) (fun z7 Hb eb => ?_) (fun z7 Hb eb => ?_)
          · have e7b := ((e8.trans e9).trans ea).trans eb
            obtain ⟨x0, d0, hx0, hd0, ha0⟩ := hx7.at' (i := 0) (by omega)
            have wd0 := wtDs_get hd0
            refine ⟨.ref l, rfl, .int (a1 : Int), rfl, l, xs, (a1 : Int), xa, rfl, rfl, sq_of (e7b _ _ gl), atI_nat hxa, .ref l, rfl, l, xs, 0, x0, rfl, rfl, sq_of (e7b _ _ gl), atI_nat (j := 0) hx0, by show 2 ≤ sizeLine; decide, fun t ht => ?_⟩
            have e7t := e7b.trans (Ex.new (o := .tup [xa, x0]) ht)
            have hxt := (hx7.ex e7t).to (c' := c + 1) (k' := k + 2) (by omega) (by omega)
            have ha0t : Da (fun z => PP z ∨ z = l) K (c + 1) _ (k + 2) x0 d0 := ((ha0.ex e7t).to (by omega)).cc (by omega)
            have hat : Da (fun z => PP z ∨ z = l) K (c + 1) _ (k + 2) xa da := ((ha.ex e7t).to (by omega)).cc (by omega)
            refine ⟨t, [xa, x0], rfl, st_of upd_same, rfl, xa, [x0], rfl, .ref l, rfl, l, xs, 0, 0, rfl, rfl, e7t _ _ gl, Evl.ixN_nat (j := 0) (by omega), x0, [], rfl, .ref l, rfl, .int (a1 : Int), rfl, l, xs.set 0 xa, (a1 : Int), a1, rfl, rfl, upd_same, Evl.ixN_nat (by rw [List.length_set]; omega), rfl, ?_⟩
            have u1 := updS (e7t _ _ gl) (hxt.set (i := 0) hat)
            have h0u := ha0t.exB (p := l) (.inr rfl) (ExB.refl l _).upd (e7t _ _ gl) (H' := upd _ l (.lst (xs.set 0 xa)))
            refine fin1 _ _ (n + 3) ((xs.set 0 xa).set a1 x0) ((ds.set 0 da).set a1 d0) rfl (((x07.trans (.of e7t)).mut hlH).mut hlH) (((b7.ex e7t).mut nlp.symm).mut nlp.symm) (by omega) upd_same (updS upd_same (u1.set h0u)) ?_
            have q1 := wtDs_set (e' := da) hd0
            by_cases a10 : a1 = 0
            · subst a10
              have q2 := wtDs_set (ds := ds.set 0 da) (i := 0) (e := da) (e' := d0) (by rw [List.getElem?_set_self (by omega)])
              omega
            · have q2 := wtDs_set (ds := ds.set 0 da) (i := a1) (e := da) (e' := d0) (by rw [List.getElem?_set_ne (by omega)]; exact hda)
              omega
          · have e7b := ((e8.trans e9).trans ea).trans eb
            exact fin2 _ _ (n + 3) xs ds rfl (x07.trans (.of e7b)) (b7.ex e7b) (by omega) (e7b _ _ gl) ((hx7.ex e7b).to (by omega) (by omega)) (by omega)
theorem ok_law_bent {f f1 f2 : Addr} {fd fd1 fd2 : FuncData} (F : FnP K "_law_bent" s_law_bent f fd) (g : mg "_law_bent" = some (.ref f)) (b : Binds K fd ["_law_box", "_law_odd_thing"] []) (h_law_take : Has P w K mg base 1 "_law_take" ["_law_box", "_law_many"] spTake f1 fd1) (h_law_of : Has P w K mg base 2 "_law_of" ["_law_box", "_law_pool"] (spOf K) f2 fd2) (m_isinstance : mg "isinstance" = none) (m_list : mg "list" = none) (m_tuple : mg "tuple" = none) (m_int : mg "int" = none) (m_bool : mg "bool" = none) (m_len : mg "len" = none) :
    Has P w K mg base 8 "_law_bent" ["_law_box", "_law_odd_thing"] (spBentE K) f fd := by
  have h3 := bent_all F g b h_law_take h_law_of m_isinstance m_list m_tuple m_int m_bool m_len 3
  have h5 := bent_all F g b h_law_take h_law_of m_isinstance m_list m_tuple m_int m_bool m_len 5
  have G3 := h3.G.mono (show 3 + 3 ≤ 8 by decide)
  exact ⟨⟨fun vs H Q E q => q.elim (h3.G.len vs H Q E) (h5.G.len vs H Q E), fun A outer s H args us vs Q E hr he hb hv q => q.elim (G3.run A outer s H args us vs Q E hr he hb hv) (h5.G.run A outer s H args us vs Q E hr he hb hv)⟩, g, F.kp, b⟩
end
end K29
set_option maxHeartbeats 4000000
namespace HH
open PySem PySem.Spec PyProof.Rows L2 Evl RZ
def rNotInT (K : PySem.W.Frag) : R2 := fun x y H Q => ∃ d ds, Dp K H x d ∧ Dp K H y (.tuple ds) ∧ SeqAt.shaped d = true ∧ SeqAt.shaped (.tuple ds) = true ∧ Q (.bl (!ds.any fun z => PyData.eqv z d)) H
theorem op_notInT {X : Cx} (hu : X.A.units + 65 < cLine) : OpR X (compareOp .NotIn) (rNotInT X.K) := by
  intro pins s σ H x y v u Q I rx ry h
  obtain ⟨d, ds, hd, he, sd, se, q⟩ := h
  obtain ⟨as, r1⟩ := Dp.reads I d x v hd rx
  obtain ⟨bs, r2⟩ := Dp.reads I (.tuple ds) y u he ry
  exact SeqAt.notIn_tuple_reads r2 r1 (SeqAt.canLay_of_shaped se) (SeqAt.canLay_of_shaped sd) (room_in_shaped sd hu) ⟨.bl _, H, I, rfl, q⟩
def ledE : StZ → List PyData → Option StZ
  | s, [] => some s
  | s, e :: es => match deedOf e with
    | none => none
    | some z => if canZ s.1 z = true then ledE (movZ s.1 z, swapL s.2 (atZ z)) es else none
theorem ledE_no {s : StZ} {e : PyData} {es : List PyData} (h : deedOf e = none) : ledE s (e :: es) = none := by
  show (match deedOf e with | none => none | some z => if canZ s.1 z = true then ledE (movZ s.1 z, swapL s.2 (atZ z)) es else none) = none
  rw [h]
theorem ledE_go {s : StZ} {e : PyData} {es : List PyData} {z : ZD} (h : deedOf e = some z) : ledE s (e :: es) = if canZ s.1 z = true then ledE (movZ s.1 z, swapL s.2 (atZ z)) es else none := by
  show (match deedOf e with | none => none | some z => if canZ s.1 z = true then ledE (movZ s.1 z, swapL s.2 (atZ z)) es else none) = _
  rw [h]
theorem drop_at {α : Type} {es : List α} {i : Nat} {e : α} (h : es[i]? = some e) : es.drop i = e :: es.drop (i + 1) := by
  have hi := (List.getElem?_eq_some_iff.mp h).1
  rw [List.drop_eq_getElem_cons hi]
  congr 1
  exact (List.getElem?_eq_some_iff.mp h).2
theorem ledE_ledK (l : List Nat) : ∀ (es : List PyData) (s : StZ) (k : Nat), (match ledE s es with | some s' => decide (s'.2 = l) | none => false) = (es.all isDeedD && (match ledK s (es.filterMap deedOf) k with | .inr s' => decide (s'.2 = l) | .inl _ => false))
  | [], s, k => rfl
  | e :: es, s, k => by
    cases h : deedOf e with
    | none =>
      rw [ledE_no h, List.all_cons, show isDeedD e = false by unfold isDeedD; rw [h]; rfl]
      rfl
    | some z =>
      rw [ledE_go h, List.all_cons, show isDeedD e = true by unfold isDeedD; rw [h]; rfl, Bool.true_and, List.filterMap_cons, h]
      show _ = (es.all isDeedD && (match (if canZ s.1 z = true then ledK (movZ s.1 z, swapL s.2 (atZ z)) (es.filterMap deedOf) (k + 1) else .inl k) with | .inr s' => decide (s'.2 = l) | .inl _ => false))
      by_cases c : canZ s.1 z = true
      · rw [if_pos c, if_pos c]
        exact ledE_ledK l es _ (k + 1)
      · rw [if_neg c, if_neg c]
        show false = (es.all isDeedD && false)
        rw [Bool.and_false]
theorem showsD_ledE (rs : HH.Row) (l : List Nat) (es : List PyData) (hl : es.length = (tab l rs.length rs.length).length) : showsD rs l (.list es) = (match ledE (rs, List.range rs.length) es with | some s => decide (s.2 = l) | none => false) := by
  rw [showsD_list, decide_eq_true hl, Bool.true_and, ledE_ledK l es _ 0]
  rfl
theorem ledK_run {rs : HH.Row} : ∀ (ds : List ZD) {L : List Cow} {d0 : List Deed} {k : Nat} {s : StZ}, MRun (tag 0 rs) L d0 → ledK (rowsOf L, L.map (·.1)) ds k = .inr s → ∃ M d, MRun (tag 0 rs) M d ∧ s = (rowsOf M, M.map (·.1))
  | [], L, d0, k, s, r, h => ⟨L, d0, r, by injection h with h; exact h.symm⟩
  | z :: ds, L, d0, k, s, r, h => by
    have h : (if canZ (rowsOf L) z = true then ledK (movZ (rowsOf L) z, swapL (L.map (·.1)) (atZ z)) ds (k + 1) else .inl k) = .inr s := h
    by_cases c : canZ (rowsOf L) z = true
    · rw [if_pos c] at h
      rcases canZ_at c with ⟨h1, j, h2, h3, h4, h5⟩ | ⟨h1, j, h2, h3, h5⟩
      · obtain ⟨pre, post, a, b, rfl, rfl, hp, hr⟩ := cow_pass h4 h5
        have r2 := r.pass hp
        have em : movZ (rowsOf (pre ++ a :: b :: post)) z = rowsOf (pre ++ (b.1, (b.2.1 - a.2.2, b.2.2)) :: a :: post) := by
          unfold movZ
          rw [h1, h2, if_pos rfl, Int.toNat_natCast]
          exact hr
        have es : swapL ((pre ++ a :: b :: post).map (·.1)) (atZ z) = (pre ++ (b.1, (b.2.1 - a.2.2, b.2.2)) :: a :: post).map (·.1) := by
          unfold atZ
          rw [h1, h2, if_pos rfl, Int.toNat_natCast, Nat.add_sub_cancel, ids_split, show pre.length = (pre.map (·.1)).length by rw [List.length_map], swap_split, List.map_append]
          rfl
        rw [em, es] at h
        exact ledK_run ds r2 h
      · obtain ⟨pre, post, a, b, rfl, rfl, hp, hr⟩ := cow_fall h3 h5
        have r2 := r.fall hp
        have em : movZ (rowsOf (pre ++ a :: b :: post)) z = rowsOf (pre ++ b :: (a.1, (a.2.1 + b.2.2, a.2.2)) :: post) := by
          unfold movZ
          rw [h1, h2, if_neg (by decide), Int.toNat_natCast]
          exact hr
        have es : swapL ((pre ++ a :: b :: post).map (·.1)) (atZ z) = (pre ++ b :: (a.1, (a.2.1 + b.2.2, a.2.2)) :: post).map (·.1) := by
          unfold atZ
          rw [h1, h2, if_neg (by decide), Int.toNat_natCast, ids_split, show pre.length = (pre.map (·.1)).length by rw [List.length_map], swap_split, List.map_append]
          rfl
        rw [em, es] at h
        exact ledK_run ds r2 h
    · rw [if_neg c] at h
      cases h
theorem leads_keeps {rs : HH.Row} {E B : List Cow} {l : List Nat} {ds : List ZD} {x : Int × Int} (tl : ∀ b ∈ rs, 0 ≤ b.2) (sE : Steps (tag 0 rs) E) (nE : Nf E) (sB : FSteps (tag 0 rs) B) (nB : Ff B) (h1 : x ∈ tab l rs.length rs.length) (h2 : x ∈ tabP (keepP (E.map (·.1)) (B.map (·.1))) rs.length rs.length) : leadsB rs l ds = false := by
  unfold leadsB
  cases hk : ledK (rs, List.range rs.length) ds 0 with
  | inl j => rfl
  | inr s =>
    show decide (s.2 = l) = false
    refine decide_eq_false fun e => ?_
    have e0 : (rs, List.range rs.length) = (rowsOf (tag 0 rs), (tag 0 rs).map (·.1)) := by
      rw [tag_ids, show rowsOf (tag 0 rs) = rs from tag_snd 0 rs]
    rw [e0] at hk
    obtain ⟨M, d, r, rfl⟩ := ledK_run ds .nil hk
    obtain ⟨i, j, ij, jn, rfl, hb⟩ := mem_tab.mp h1
    obtain ⟨i', j', ij', jn', ex, kb⟩ := mem_tabP.mp h2
    have ei : i' = i ∧ j' = j := by
      injection ex with e1 e2
      omega
    obtain ⟨rfl, rfl⟩ := ei
    obtain ⟨k1, k2⟩ := (keep_iff ij).mp kb
    have := kept_stays tl r sE nE sB nB ij jn k1 k2
    rw [show M.map (·.1) = l from e] at this
    rw [this] at hb
    cases hb
theorem shows_keeps {rs : HH.Row} {E B : List Cow} {l : List Nat} {d : PyData} {x : Int × Int} (tl : ∀ b ∈ rs, 0 ≤ b.2) (sE : Steps (tag 0 rs) E) (nE : Nf E) (sB : FSteps (tag 0 rs) B) (nB : Ff B) (h1 : x ∈ tab l rs.length rs.length) (h2 : x ∈ tabP (keepP (E.map (·.1)) (B.map (·.1))) rs.length rs.length) : showsD rs l d = false := by
  cases d with
  | list es => rw [showsD_list, leads_keeps tl sE nE sB nB h1 h2, Bool.and_false, Bool.and_false]
  | _ => rfl
def spDueA (K : PySem.W.Frag) : Sp := fun vs H Q _ => ∃ (P : Addr → Prop) (v x : V) (o fx : Addr) (rs : HH.Row) (E B : List Cow) (l : List Nat) (us : List V) (d : PyData) (c k : Nat), vs = [v, .ref o, .ref fx, x] ∧ RowAt K H v rs ∧ rs.length ≤ 30 ∧ (∀ b ∈ rs, 0 ≤ b.2) ∧ Steps (tag 0 rs) E ∧ Nf E ∧ FSteps (tag 0 rs) B ∧ Ff B ∧ SqT K H o (natsV l) ∧ l.Perm (List.range rs.length) ∧ H fx = some (.lst us) ∧ BeastsT H us (tabP (keepP (E.map (·.1)) (B.map (·.1))) rs.length rs.length) ∧
  Da P K c H k x d ∧ k ≤ 50 ∧ wtD d ≤ 40000 ∧ ∀ H', Ex H H' → Q (.bl (showsD rs l d)) H'
end HH
set_option maxHeartbeats 4000000
namespace HH
open PySem PySem.Spec PyProof.Rows L2 Evl RZ
def goodT : PyData → Bool
  | .tuple [dx, _] => wordD dx
  | _ => false
theorem goodT_len {es : List PyData} (h : es.length ≠ 2) : goodT (.tuple es) = false := by
  match es, h with
  | [], _ => rfl
  | [x], _ => rfl
  | [_, _], h => exact absurd rfl h
  | _ :: _ :: _ :: _, _ => rfl
theorem goodT_not {d : PyData} (h : isTupB d = false) : goodT d = false := by
  cases d with
  | tuple es => exact absurd h (by simp [isTupB])
  | _ => rfl
theorem goodT_is {d : PyData} (h : goodT d = true) : ∃ dx dy, d = .tuple [dx, dy] ∧ wordD dx = true := by
  cases d with
  | tuple es =>
    by_cases h2 : es.length = 2
    · match es, h2 with
      | [dx, dy], _ => exact ⟨dx, dy, rfl, h⟩
    · rw [goodT_len h2] at h
      cases h
  | _ => cases h
theorem deedOf_bad {d : PyData} (h : goodT d = false) : deedOf d = none := by
  cases d with
  | tuple es =>
    by_cases h2 : es.length = 2
    · match es, h2 with
      | [dx, dy], _ =>
        have hw : wordD dx = false := h
        have := isDeed_pair dx dy
        rw [hw, Bool.false_and] at this
        unfold isDeedD at this
        exact Option.isSome_eq_false_iff.mp this |> Option.isNone_iff_eq_none.mp
    · have := isDeed_len h2
      unfold isDeedD at this
      exact Option.isSome_eq_false_iff.mp this |> Option.isNone_iff_eq_none.mp
  | _ => rfl
theorem deedOf_num {dx dy : PyData} (h : isNumD dy = false) : deedOf (.tuple [dx, dy]) = none := by
  have := isDeed_pair dx dy
  rw [h, Bool.and_false] at this
  unfold isDeedD at this
  exact Option.isSome_eq_false_iff.mp this |> Option.isNone_iff_eq_none.mp
theorem word_is {dx : PyData} (h : wordD dx = true) : ∃ b, dx = .str (wordOf b) := by
  cases dx with
  | str w =>
    have h : (decide (w = ("pass" : Str)) || decide (w = ("fall" : Str))) = true := h
    rcases Bool.or_eq_true_iff.mp h with z | z
    · exact ⟨true, by rw [of_decide_eq_true z]; rfl⟩
    · exact ⟨false, by rw [of_decide_eq_true z]; rfl⟩
  | _ => cases h
theorem num_isA {d : PyData} (h : isNumD d = true) : ∃ i, d = .int i := by
  cases d with
  | int i => exact ⟨i, rfl⟩
  | _ => cases h
theorem deedOf_go (b : Bool) (z : Int) : deedOf (.tuple [.str (wordOf b), .int z]) = some (b, z) := by
  unfold deedOf
  cases b
  · rfl
  · rfl
section
variable {P : Addr → Prop} {K : PySem.W.Frag} {c k : Nat} {σ : L2.St} {H : Hp} {te ta tb tc : TE} {v : V} {e : PyData}
theorem et_goodT (h : ∀ H1, Ex H H1 → Ev te σ H1 v) (hd : Da P K c H k v e) (hk : k ≤ 60) : EvT (tOr (tNot (tB (tCB (rIsi K) (tCons te (tCons (tC (.ty "tuple")) tNil))))) (tOr (tTest (tOp rNe (tCB (rLenS K) (tCons te tNil)) (tC (.int 2)))) (tTest (tOp (rNotInT K) (tOp (rIxT K) te (tC (.int 0))) (tTup (tCons (tC (.str "pass")) (tCons (tC (.str "fall")) tNil))))))) σ H (!(goodT e)) := by
  have t1 := et_not (et_B (ev_isiD (h H (Ex.refl _)) hd (kitT e)))
  by_cases ht : isTupB e = true
  · obtain ⟨es, rfl⟩ := tup_isA ht
    obtain ⟨k', a, xs, rfl, rfl, sa, ds⟩ := hd.tupAt
    rw [ht] at t1
    by_cases h2 : es.length = 2
    · match es, h2 with
      | [dx, dy], _ =>
        have hl : xs.length = 2 := ds.1
        match xs, hl with
        | [x, y], _ =>
          have hx := ds.2 0 x dx rfl rfl
          refine et_is (et_or (et_is t1 rfl) fun _ => et_or (b := !(wordD dx)) (et_is (et_test (ev_op (ev_lenT (K := K) (h H (Ex.refl _)) sa) ev_c (rv_ne rfl))) (show (!decide (V.int (([x, y] : List V).length : Int) = V.int 2)) = false from rfl)) fun _ => et_test fun H2 e2 Q2 k2 => ?_) (by show (false || (false || !(wordD dx))) = !(wordD dx); rfl)
          refine (ev_op (h H2 e2) (ev_c (v := .int 0)) (rv_ixT (K := K) (ex_t e2 sa) (atI_nat (j := 0) (v := x) rfl)) : Ev _ _ H2 x) H2 (Ex.refl _) _ fun H3 e3 => ⟨by show 2 ≤ sizeLine; decide, fun tp htp => ?_⟩
          have nT := Ex.new (o := .tup [V.str "pass", .str "fall"]) htp
          have hx3 := hx.ex ((e2.trans e3).trans nT)
          refine ⟨dx, [.str "pass", .str "fall"], hx3.dp, .tup (st_of upd_same) (.cons (.str _) (.cons (.str _) .nil)), (hx3.nice).shaped (by omega), by decide +kernel, ?_⟩
          rw [word_any]
          exact k2 _ (e3.trans nT)
    · have hne : decide (V.int (xs.length : Int) = V.int 2) = false := decide_eq_false fun z => h2 (by injection z with z; have := ds.1; omega)
      refine et_is (et_or (et_is t1 rfl) fun _ => et_or (a := true) (b := false) (et_is (et_test (ev_op (ev_lenT (K := K) (h H (Ex.refl _)) sa) ev_c (rv_ne rfl))) (by rw [hne]; rfl)) fun z => by cases z) ?_
      rw [goodT_len h2]
      rfl
  · have hf : isTupB e = false := Bool.eq_false_iff.mpr ht
    rw [hf] at t1
    refine et_is (et_or (a := true) (b := false) (et_is t1 rfl) fun z => by cases z) ?_
    rw [goodT_not hf]
    rfl
theorem et_numT {dx : PyData} (h : Ev te σ H v) (hd : Da P K c H k v dx) : EvT (tOr (tNot (tB (tCB (rIsi K) (tCons te (tCons (tC (.ty "int")) tNil))))) (tB (tCB (rIsi K) (tCons te (tCons (tC (.ty "bool")) tNil))))) σ H (!(isNumD dx)) := by
  refine et_is (et_or (et_not (et_B (ev_isiD h hd (kitI dx)))) fun _ => et_B (ev_isiD h hd (kitBo dx))) ?_
  cases dx <;> rfl
theorem et_chainL {a m b : Int} (ha : Ev ta σ H (.int a)) (hb : Ev tb σ H (.int m)) (hc : Ev tc σ H (.int b)) : EvT (tTest (tChain (rI0 fun i j => .bl (decide (i < j))) (rI0 fun i j => .bl (decide (i < j))) ta tb tc)) σ H (decide (a < m) && decide (m < b)) := fun H1 e1 Q q => by
  refine ha H1 e1 _ fun H2 e2 => hb H2 (e1.trans e2) _ fun H3 e3 => ⟨a, m, rfl, rfl, _, rfl, ?_⟩
  have e23 := e2.trans e3
  cases h : decide (a < m) with
  | true =>
    rw [if_pos rfl]
    refine hc H3 (e1.trans e23) _ fun H4 e4 => ⟨m, b, rfl, rfl, _, rfl, ?_⟩
    rw [h, Bool.true_and] at q
    exact q H4 (e23.trans e4)
  | false =>
    rw [if_neg (by decide)]
    refine ⟨_, rfl, ?_⟩
    rw [h, Bool.false_and] at q
    exact q H3 e23
theorem ev_intBB {b : Bool} (h : Ev te σ H (.bl b)) : Ev (tCB (fun xs H Q => (∃ i, xs = [.int i] ∧ Q (.int i) H) ∨ ∃ k, xs = [.bl k] ∧ Q (.int (if k then 1 else 0)) H) (tCons te tNil)) σ H (.int (if b then 1 else 0)) := fun H1 e Q q =>
  h H1 e _ fun H2 e2 => .inr ⟨b, rfl, q H2 e2⟩
theorem q_runV {i : Nat} {M : V → Hp → Prop} {D : Ends} {tz : TS} (h : ∀ R : VK, (∀ x H1, M x H1 → R x H1) → te σ H R) (k : ∀ x H1, M x H1 → tz D (σ.set i (some x)) H1) : tSeq (tAsg te (gName i)) tz D σ H := h _ k
theorem s_sl {to : TE} {D : Ends} {l : Addr} {xs ys : List V} {i j : Nat} {a c : Int} (h : EvL te σ H ys) (ho : Ev to σ H (.ref l)) (ha : Ev ta σ H (.int a)) (hc : Ev tc σ H (.int c)) (ea : a = (i : Int)) (ec : c = (j : Int)) (hl : H l = some (.lst xs)) (hij : i ≤ j) (hj : j ≤ xs.length) (hz : xs.length + ys.length ≤ 100000)
    (k : ∀ H1, Ex H H1 → D.nx σ (upd H1 l (.lst (xs.take i ++ ys ++ xs.drop j)))) : tAsg te (gSl to ta tc) D σ H :=
  h H (Ex.refl H) _ fun b H1 hb e1 h1 => ho H1 e1 _ fun H2 e2 => ha H2 (e1.trans e2) _ fun H3 e3 => hc H3 ((e1.trans e2).trans e3) _ fun H4 e4 => by
    subst ea ec
    have e := (((e1.trans e2).trans e3).trans e4)
    exact ⟨l, b, xs, ys, (i : Int), (j : Int), rfl, rfl, rfl, rfl, e _ _ hl, ((e2.trans e3).trans e4) _ _ h1, ne_of_none hl hb, by omega, by omega, by omega, sz_of hz, k H4 e⟩
end
theorem canZ_word (rs : HH.Row) (b : Bool) (z : Int) (p : Nat) (hp0 : 0 < p) (hp : p < rs.length) (e : z + (if b then 0 else 1) = (p : Int)) : canZ rs (b, z) = (if b then letsN rs p else decide (sS rs (p - 1) > sS rs p)) ∧ atZ (b, z) = p - 1 ∧ movZ rs (b, z) = (if b then passR rs p else fallR rs (p - 1)) := by
  cases b with
  | true =>
    have ez : z = (p : Int) := by simpa using e
    subst ez
    refine ⟨?_, ?_, ?_⟩
    · show letsZ rs (p : Int) = letsN rs p
      exact letsZ_nat hp
    · show ((p : Int)).toNat - 1 = p - 1
      rw [Int.toNat_natCast]
    · show passR rs ((p : Int)).toNat = passR rs p
      rw [Int.toNat_natCast]
  | false =>
    have ez : z = ((p - 1 : Nat) : Int) := by
      have : z + 1 = (p : Int) := by simpa using e
      omega
    subst ez
    refine ⟨?_, ?_, ?_⟩
    · show fallsZ rs ((p - 1 : Nat) : Int) = decide (sS rs (p - 1) > sS rs p)
      rw [fallsZ_nat, decide_eq_true (by omega), Bool.true_and]
      unfold fallsN
      rw [show p - 1 + 1 = p by omega]
    · show ((p - 1 : Nat) : Int).toNat = p - 1
      rw [Int.toNat_natCast]
    · show fallR rs ((p - 1 : Nat) : Int).toNat = fallR rs (p - 1)
      rw [Int.toNat_natCast]
theorem canZ_out (rs : HH.Row) (b : Bool) (z : Int) (h : (decide (0 < z + (if b then 0 else 1)) && decide (z + (if b then 0 else 1) < (rs.length : Int))) = false) : canZ rs (b, z) = false := by
  cases hc : canZ rs (b, z) with
  | false => rfl
  | true =>
    rcases canZ_at hc with ⟨h1, j, h2, h3, h4, _⟩ | ⟨h1, j, h2, h3, _⟩
    · dsimp only at h1 h2
      subst h1 h2
      rw [if_pos rfl, decide_eq_true (by omega), decide_eq_true (by omega)] at h
      cases h
    · dsimp only at h1 h2
      subst h1 h2
      rw [if_neg (by decide), decide_eq_true (by omega), decide_eq_true (by omega)] at h
      cases h
end HH
set_option maxHeartbeats 4000000
namespace K29
open PySem PySem.Spec PyProof.Rows L2 Evl HH RZ
section
variable {P : Program} {w : World} {K : PySem.W.Frag} {mg : Str → Option Value} {base : Heap}
theorem ok_law_due {f f1 f2 f3 f4 : Addr} {fd fd1 fd2 fd3 fd4 : FuncData} (F : FnP K "_law_due" s_law_due f fd) (g : mg "_law_due" = some (.ref f)) (b : Binds K fd ["_law_pen", "_law_seats", "_law_fixed", "_law_item"] []) (h_law_turned : Has P w K mg base 2 "_law_turned" ["_law_queue"] (spTurnedT K) f1 fd1) (h_law_lets : Has P w K mg base 1 "_law_lets" ["_law_row_now", "_law_place"] (spCanPass K) f2 fd2) (h_law_passed : Has P w K mg base 1 "_law_passed" ["_law_row_now", "_law_place"] (spPassed K) f3 fd3) (h_law_fallen : Has P w K mg base 1 "_law_fallen" ["_law_row_now", "_law_place"] (spFallen K) f4 fd4)
    (m_isinstance : mg "isinstance" = none) (m_list : mg "list" = none) (m_tuple : mg "tuple" = none) (m_int : mg "int" = none) (m_bool : mg "bool" = none) (m_len : mg "len" = none) (m_range : mg "range" = none) (m_any : mg "any" = none) : Has P w K mg base 3 "_law_due" ["_law_pen", "_law_seats", "_law_fixed", "_law_item"] (spDueA K) f fd := by
  refine ⟨F.ok sc_law_due (fun vs H Q E h => ?_) (fun cdv A outer s H vs Q E hr h => ?_), g, F.kp, b⟩
  · obtain ⟨P', v, x, o, fx, rs, E', B', l, us, d, c, k, rfl, _⟩ := h
    rfl
  · obtain ⟨P', v, x, o, fx, rs, E', B', l, us, d, c, k, rfl, hv, hl, tl, sE, nE, sB, nB, ho, pl, gfx, bfx, hd, hk, hw, q⟩ := h
    refine ⟨_, PSs.nox (pss_cons (ps_if (PW.pt (pw_or (pt_not (pt_val (pe_callB call_isi (by rfl) m_isinstance (by decide +kernel) (pa_cons (pv 3) (pa_cons (pe_bltn (v := .ty "list") (by rfl) m_list (by decide +kernel) rfl) pa_nil))))) (pw_or1 (pt_val (pe_callB (cr_any rfl) (by rfl) m_any (by decide +kernel) (pa_cons (pe_lc (own := [("_law_pair", 7)]) (g := gName 7) (by rfl) sc_law_due.nd (pi_list (pe_call h_law_turned.G (hr.mono (by decide)) (by rfl) h_law_turned.g h_law_turned.kp h_law_turned.b .nil pass0 (pa_cons (pv 1) pa_nil))) (blkOk_by (own := [("_law_pair", 7)]) (N := ["_law_pen", "_law_seats", "_law_fixed", "_law_item", "_law_stood", "_law_deed", "_law_at", "_law_pair"]) (sc := defScope s_law_due) (by decide +kernel)) (fun _ _ _ _ _ => (pg_name (i := 7) sc_law_due.nd rfl (Or.inl rfl))) (fun _ _ _ _ _ => pts_nil) (fun _ _ _ _ _ => (pe_cmpR (op_inDK (K := K) (room_u65 hr)) (pv 7) (pv 2) (by with_unfolding_all rfl)))) pa_nil)))))) (pss_one (ps_ret pe_bl)) pss_nil)
      (pss_cons (ps_if (pt_cmpR op_ne (pe_callB call_len_seq (by rfl) m_len PySem.boot_len (pa_cons (pv 3) pa_nil)) (pe_callB call_len_seq (by rfl) m_len PySem.boot_len (pa_cons (pe_call h_law_turned.G (hr.mono (by decide)) (by rfl) h_law_turned.g h_law_turned.kp h_law_turned.b .nil pass0 (pa_cons (pv 1) pa_nil)) pa_nil)) (nomark _)) (pss_one (ps_ret pe_bl)) pss_nil)
      (pss_cons (ps_set (i := 4) sc_law_due.nd rfl (.inl rfl) (pe_listRg rfl (by rfl) m_list (prg_1 (by rfl) m_range (pe_callB call_len_seq (by rfl) m_len PySem.boot_len (pa_cons (pv 0) pa_nil)))))
      (pss_cons (ps_for PassesOwn.never rfl (pi_list (pv 3)) (pg_name (i := 5) sc_law_due.nd rfl (Or.inl rfl))
        (pss_cons (ps_if (PW.pt (pw_or (pt_not (pt_val (pe_callB call_isi (by rfl) m_isinstance (by decide +kernel) (pa_cons (pv 5) (pa_cons (pe_bltn (v := .ty "tuple") (by rfl) m_tuple (by decide +kernel) rfl) pa_nil))))) (pw_or (pt_cmpR op_ne (pe_callB call_len_seq (by rfl) m_len PySem.boot_len (pa_cons (pv 5) pa_nil)) pe_int (nomark _)) (pw_or1 (pt_cmpR (op_notInT (room_u65 hr)) (pe_ix ix_tup (pv 5) pe_int (fun _ _ => rfl)) (pe_tup (pa_cons pe_str (pa_cons pe_str pa_nil))) (by with_unfolding_all rfl)))))) (pss_one (ps_ret pe_bl)) pss_nil)
      (pss_cons (ps_if (PW.pt (pw_or (pt_not (pt_val (pe_callB call_isi (by rfl) m_isinstance (by decide +kernel) (pa_cons (pe_ix ix_tup (pv 5) pe_int (fun _ _ => rfl)) (pa_cons (pe_bltn (v := .ty "int") (by rfl) m_int (by decide +kernel) rfl) pa_nil))))) (pw_or1 (pt_val (pe_callB call_isi (by rfl) m_isinstance (by decide +kernel) (pa_cons (pe_ix ix_tup (pv 5) pe_int (fun _ _ => rfl)) (pa_cons (pe_bltn (v := .ty "bool") (by rfl) m_bool (by decide +kernel) rfl) pa_nil))))))) (pss_one (ps_ret pe_bl)) pss_nil)
      (pss_cons (ps_set (i := 6) sc_law_due.nd rfl (.inl rfl) (pe_op op_add (pe_ix ix_tup (pv 5) pe_int (fun _ _ => rfl)) (pe_callTy call_int1 (by rfl) m_int (by decide +kernel) (pa_cons (pe_cmpR op_eq (pe_ix ix_tup (pv 5) pe_int (fun _ _ => rfl)) pe_str (nomark _)) pa_nil))))
      (pss_cons (ps_if (pt_not (pt_chain op_lt op_lt pe_int (pv 6) (pe_callB call_len_seq (by rfl) m_len PySem.boot_len (pa_cons (pv 0) pa_nil)))) (pss_one (ps_ret pe_bl)) pss_nil)
      (pss_cons (ps_if (pt_not (pt_ifT (pt_cmpR op_eq (pe_ix ix_tup (pv 5) pe_int (fun _ _ => rfl)) pe_str (nomark _)) (pt_val (pe_call h_law_lets.G (hr.mono (by decide)) (by rfl) h_law_lets.g h_law_lets.kp h_law_lets.b .nil pass0 (pa_cons (pv 0) (pa_cons (pv 6) pa_nil)))) (pt_cmpR op_gt (pe_ix ix_tup (pe_ix ix_tup (pv 0) (pe_op op_sub (pv 6) pe_int) (fun _ _ => rfl)) pe_int (fun _ _ => rfl)) (pe_ix ix_tup (pe_ix ix_tup (pv 0) (pv 6) (fun _ _ => rfl)) pe_int (fun _ _ => rfl)) (nomark _)))) (pss_one (ps_ret pe_bl)) pss_nil)
      (pss_cons (ps_set (i := 0) sc_law_due.nd rfl (.inl rfl) (pe_ifExp (pt_cmpR op_eq (pe_ix ix_tup (pv 5) pe_int (fun _ _ => rfl)) pe_str (nomark _)) (pe_call h_law_passed.G (hr.mono (by decide)) (by rfl) h_law_passed.g h_law_passed.kp h_law_passed.b .nil pass0 (pa_cons (pv 0) (pa_cons (pv 6) pa_nil))) (pe_call h_law_fallen.G (hr.mono (by decide)) (by rfl) h_law_fallen.g h_law_fallen.kp h_law_fallen.b .nil pass0 (pa_cons (pv 0) (pa_cons (pe_op op_sub (pv 6) pe_int) pa_nil)))))
      (pss_one (ps_asg (pe_lst (pa_cons (pe_ix ix_list (pv 4) (pv 6) (fun _ _ => rfl)) (pa_cons (pe_ix ix_list (pv 4) (pe_op op_sub (pv 6) pe_int) (fun _ _ => rfl)) pa_nil))) (pg_sl (pv 4) (pe_op op_sub (pv 6) pe_int) (pe_op op_add (pv 6) pe_int)))))))))))
      (pss_one (ps_ret (pe_cmpR (op_eqD hr.units) (pe_tupleOf (by rfl) m_tuple (pv 4)) (pv 1) (nomark _)))))))), ?_⟩
    have ll : l.length = rs.length := by rw [pl.length_eq, List.length_range]
    obtain ⟨kp, hkp⟩ : ∃ kp, kp = tabP (keepP (E'.map (·.1)) (B'.map (·.1))) rs.length rs.length := ⟨_, rfl⟩
    rw [← hkp] at bfx
    have src : Src K PairT (tCall (spTurnedT K) [] E0 (tCons (tVar 1) tNil)) [some v, some (.ref o), some (.ref fx), some x, none, none, none, none] H (tab l rs.length rs.length) := fun H1 e1 Q k => ⟨.ref o, rfl, o, l, rfl, ex_t e1 ho, pl.nodup_iff.mpr List.nodup_range, fun y hy => pl.mem_iff.mpr (List.mem_range.mpr (by omega)), by omega, fun uq uus H12 huq e12 g12 bs12 => k uq uus H12 e12 (fun H3 e3 => sq_of (e3 _ _ g12)) (by rw [ll] at bs12; exact bs12)⟩
    have tl9 := tab_small l hl
    have elB := el_mapB (K := K) (σ := [some v, some (.ref o), some (.ref fx), some x, none, none, none, none]) (H := H) (j := 7) (vs := [7]) (te2 := tOp (rInD K) (tVar 7) (tVar 2)) (fun y => decide (y ∈ kp)) (stb_B K) (src_T src) (by omega) (fun x => rfl) (fun y z H1 e1 hz hy => ev_inLP (K := K) (ev_var rfl) hz (ev_var rfl) (sq_of (e1 _ _ gfx)) (beasts_2 (BeastsT.be (K := K) (BeastsT.ex' bfx e1))))
    have tA := et_B (ev_any (K := K) elB)
    have ea : ((tab l rs.length rs.length).map fun y => decide (y ∈ kp)).any id = (tab l rs.length rs.length).any fun y => decide (y ∈ kp) := by rw [List.any_map]; rfl
    rw [ea] at tA
    have t1 : EvT (tNot (tB (tCB (rIsi K) (tCons (tVar 3) (tCons (tC (.ty "list")) tNil))))) [some v, some (.ref o), some (.ref fx), some x, none, none, none, none] H (!(isListB d)) := et_not (et_B (ev_isiD (ev_var rfl) hd (kitL d)))
    refine q_when (b := !(isListB d) || (tab l rs.length rs.length).any fun y => decide (y ∈ kp)) (et_or t1 fun _ => tA) (fun hb H1 e1 => ?_) (fun hb H1 e1 => ?_)
    · refine s_ret (v := .bl (showsD rs l d)) (ev_is ev_c ?_) fun H2 e2 => q H2 (e1.trans e2)
      rcases Bool.or_eq_true_iff.mp hb with z | z
      · cases d with
        | list es => cases z
        | _ => rfl
      · obtain ⟨y, hy1, hy2⟩ := List.any_eq_true.mp z
        rw [shows_keeps tl sE nE sB nB hy1 (by rw [← hkp]; exact of_decide_eq_true hy2)]
    rw [Bool.or_eq_false_iff] at hb
    have hL : isListB d = true := by simpa using hb.1
    obtain ⟨es, rfl⟩ := list_isA hL
    obtain ⟨k', a, xs, rfl, rfl, ga, ds⟩ := listAt hd
    have xl : xs.length = es.length := ds.1
    have wl := wtD_len es
    have ga1 := e1 _ _ ga
    have t2 : EvT (tTest (tOp rNe (tCB (rLenS K) (tCons (tVar 3) tNil)) (tCB (rLenS K) (tCons (tCall (spTurnedT K) [] E0 (tCons (tVar 1) tNil)) tNil)))) [some v, some (.ref o), some (.ref fx), some (.ref a), none, none, none, none] H1 (!decide (V.int (xs.length : Int) = V.int ((tab l rs.length rs.length).length : Int))) :=
      et_test (ev_op (ev_len (K := K) (ev_var rfl) (sq_of ga1)) (fun H11 e11 Q k => src H11 (e1.trans e11) _ fun uq uus H12 e12 sq bs12 => ⟨uq, uus, rfl, .inl (sq H12 (Ex.refl _)), by rw [All2.len bs12]; exact k H12 e12⟩) (rv_ne rfl))
    refine q_when (b := !decide (V.int (xs.length : Int) = V.int ((tab l rs.length rs.length).length : Int))) t2 (fun hb2 H2 e2 => ?_) (fun hb2 H2 e2 => ?_)
    · refine s_ret (v := .bl (showsD rs l (.list es))) (ev_is ev_c ?_) fun H3 e3 => q H3 (e1.trans (e2.trans e3))
      have hne : ¬ es.length = (tab l rs.length rs.length).length := fun z => by
        rw [xl, z] at hb2
        exact absurd hb2 (by simp)
      rw [showsD_list, decide_eq_false hne, Bool.false_and]
    have hlen : es.length = (tab l rs.length rs.length).length := by
      rw [Bool.not_eq_false', decide_eq_true_iff] at hb2
      injection hb2 with hb2
      omega
    rw [showsD_ledE rs l es hlen] at q
    have e12 := e1.trans e2
    have hv2 := hv.ex e12
    refine q_asgL (xs := natsV (List.range rs.length)) (fun H3 e3 Q3 k3 => ?_) fun sq H3 hsq e3 g3 => ?_
    · obtain ⟨a5, vs5, rfl, ta5, bs5⟩ := hv2.ex e3
      refine ⟨.ref a5, rfl, a5, vs5, rfl, .inr ta5, _, rfl, RgOk.of_le (by decide) (by rw [bs5.1]; omega) (by decide) (by omega), fun rt hrt => ?_⟩
      have erg : rgV 0 (vs5.length : Int) = natsV (List.range rs.length) := by
        rw [bs5.1, ord_tag, ordL_nats, tag_ids]
      rw [erg]
      exact k3 rt _ hrt (Ex.new hrt) upd_same
    refine s_at [some v, some (.ref o), some (.ref fx), some (.ref a), some (.ref sq), none, none, none] rfl ?_
    have e13 := e12.trans e3
    have hsqH : H2 sq = none := hsq
    have ga3 := e3 _ _ (e2 _ _ ga1)
    refine q_forLn (K := K) (a := a) (xs := xs) (ev_var rfl) (sq_of ga3) (fun i σ' H' => ∃ (v' : V) (s : StZ) (y5 y6 : Option V), σ' = [some v', some (.ref o), some (.ref fx), some (.ref a), some (.ref sq), y5, y6, none] ∧ Ex H2 H' ∧ RowAt K H' v' s.1 ∧ H' sq = some (.lst (natsV s.2)) ∧ s.1.length = rs.length ∧ s.2.length = rs.length ∧ ledE (rs, List.range rs.length) es = ledE s (es.drop i)) (fun H4 e4 => ⟨v, (rs, List.range rs.length), none, none, rfl, e3.trans e4, (hv2.ex e3).ex e4, e4 _ _ g3, rfl, List.length_range, rfl⟩) (fun i σ' H4 _ hW => ?_) (fun i y σ' H4 hy hW => ?_) (fun σ' H4 hW => ?_)
    · obtain ⟨v', s, y5, y6, _, e4, _⟩ := hW
      exact sq_of (e4 _ _ (e2 _ _ ga1))
    · obtain ⟨v', s, y5, y6, rfl, e4, hv4, g4, l1, l2, hled⟩ := hW
      have hi : i < es.length := by
        have := (List.getElem?_eq_some_iff.mp hy).1
        omega
      obtain ⟨e, he⟩ : ∃ e, es[i]? = some e := ⟨_, List.getElem?_eq_getElem hi⟩
      have hda := (ds.2 i y e hy he).ex (e12.trans e4)
      rw [drop_at he] at hled
      have no : ∀ H', Ex H4 H' → ledE s (e :: es.drop (i + 1)) = none → Q (.bl false) H' := fun H' e' hn => by
        rw [hled, hn] at q
        exact q H' ((e12.trans e4).trans e')
      refine s_at [some v', some (.ref o), some (.ref fx), some (.ref a), some (.ref sq), some y, y6, none] rfl ?_
      refine q_when (b := !(goodT e)) (et_goodT (K := K) (fun H5 e5 => ev_var rfl) hda (by omega)) (fun hg H5 e5 => ?_) (fun hg H5 e5 => ?_)
      · refine s_ret (v := .bl false) ev_c fun H6 e6 => no H6 (e5.trans e6) (ledE_no (deedOf_bad (by simpa using hg)))
      have hg : goodT e = true := by simpa using hg
      obtain ⟨dx, dy, rfl, hwd⟩ := goodT_is hg
      obtain ⟨wb, rfl⟩ := word_is hwd
      obtain ⟨k2, t, ts, rfl, rfl, st, dts⟩ := hda.tupAt
      have hl2 : ts.length = 2 := dts.1
      obtain ⟨x0, x1, rfl⟩ : ∃ x0 x1, ts = [x0, x1] := by
        match ts, hl2 with
        | [x0, x1], _ => exact ⟨x0, x1, rfl⟩
      have d0 := strAt (dts.2 0 x0 (.str (wordOf wb)) rfl rfl)
      have d1 := dts.2 1 x1 dy rfl rfl
      subst d0
      have st5 := ex_t e5 st
      have ix1 : ∀ H', Ex H5 H' → Ev (tOp (rIxT K) (tVar 5) (tC (.int 1))) [some v', some (.ref o), some (.ref fx), some (.ref a), some (.ref sq), some (.ref t), y6, none] H' x1 := fun H' e' => ev_op (ev_var rfl) ev_c (rv_ixT (K := K) (ex_t e' st5) (atI_nat (j := 1) rfl))
      refine q_when (b := !(isNumD dy)) (et_numT (K := K) (ix1 H5 (Ex.refl _)) (d1.ex e5)) (fun hn H6 e6 => ?_) (fun hn H6 e6 => ?_)
      · refine s_ret (v := .bl false) ev_c fun H7 e7 => no H7 (e5.trans (e6.trans e7)) (ledE_no (deedOf_num (by simpa using hn)))
      obtain ⟨z, rfl⟩ := num_isA (d := dy) (by simpa using hn)
      have ez := d1.intAt
      subst ez
      have isF : ∀ (y : Option V) H', Ex H5 H' → Ev (tOp rEq (tOp (rIxT K) (tVar 5) (tC (.int 0))) (tC (.str "fall"))) [some v', some (.ref o), some (.ref fx), some (.ref a), some (.ref sq), some (.ref t), y, none] H' (.bl (!wb)) := fun y H' e' => by
        refine ev_is (ev_op (ev_op (ev_var rfl) ev_c (rv_ixT (K := K) (ex_t e' st5) (atI_nat (j := 0) (v := V.str (wordOf wb)) rfl))) ev_c (rv_eq rfl)) ?_
        cases wb <;> decide +kernel
      have isP : ∀ (y : Option V) H', Ex H5 H' → Ev (tOp rEq (tOp (rIxT K) (tVar 5) (tC (.int 0))) (tC (.str "pass"))) [some v', some (.ref o), some (.ref fx), some (.ref a), some (.ref sq), some (.ref t), y, none] H' (.bl wb) := fun y H' e' => by
        refine ev_is (ev_op (ev_op (ev_var rfl) ev_c (rv_ixT (K := K) (ex_t e' st5) (atI_nat (j := 0) (v := V.str (wordOf wb)) rfl))) ev_c (rv_eq rfl)) ?_
        cases wb <;> decide +kernel
      refine q_asg (v := .int (z + (if wb then 0 else 1))) (ev_is (ev_op (ix1 H6 e6) (ev_intBB (isF y6 H6 e6)) rv_I0) (by cases wb <;> rfl)) fun H7 e7 => ?_
      refine s_at [some v', some (.ref o), some (.ref fx), some (.ref a), some (.ref sq), some (.ref t), some (.int (z + (if wb then 0 else 1))), none] rfl ?_
      have e57 := e6.trans e7
      have e47 := e5.trans e57
      have hv7 := hv4.ex e47
      have lenP : Ev (tCB (rLenS K) (tCons (tVar 0) tNil)) [some v', some (.ref o), some (.ref fx), some (.ref a), some (.ref sq), some (.ref t), some (.int (z + (if wb then 0 else 1))), none] H7 (.int (s.1.length : Int)) := ev_lenR (K := K) (ev_var rfl) hv7
      refine q_when (b := !(decide ((0 : Int) < z + (if wb then 0 else 1)) && decide (z + (if wb then 0 else 1) < (s.1.length : Int)))) (et_not (et_chainL ev_c (ev_var rfl) lenP)) (fun hn H8 e8 => ?_) (fun hn H8 e8 => ?_)
      · refine s_ret (v := .bl false) ev_c fun H9 e9 => no H9 (e47.trans (e8.trans e9)) ?_
        rw [ledE_go (deedOf_go wb z), canZ_out s.1 wb z (by rw [Bool.not_eq_true'] at hn; exact hn)]
        rfl
      have hn : (decide ((0 : Int) < z + (if wb then 0 else 1)) && decide (z + (if wb then 0 else 1) < (s.1.length : Int))) = true := by simpa using hn
      rw [Bool.and_eq_true, decide_eq_true_iff, decide_eq_true_iff] at hn
      obtain ⟨p, hp⟩ := Int.eq_ofNat_of_zero_le (Int.le_of_lt hn.1)
      have hp0 : 0 < p := by omega
      have hpl : p < s.1.length := by omega
      obtain ⟨c1, c2, c3⟩ := canZ_word s.1 wb z p hp0 hpl hp
      rw [hp]
      have e58 := e57.trans e8
      have e48 := e47.trans e8
      have hv8 := hv4.ex e48
      have pm1 : ∀ {σ : _root_.L2.St} {H : Hp}, σ[6]? = some (some (.int ((p : Nat) : Int))) → Ev (tOp (rI0 fun i j => .int (i - j)) (tVar 6) (tC (.int 1))) σ H (.int ((p : Int) - 1)) := fun h => ev_op (ev_var h) ev_c rv_I0
      refine q_when (b := !(canZ s.1 (wb, z))) (et_not (et_ifT (b := wb) (et_test (isP _ H8 e58)) (fun hb => ?_) (fun hb => ?_))) (fun hn H9 e9 => ?_) (fun hn H9 e9 => ?_)
      · subst hb
        rw [c1, if_pos rfl]
        exact et_B (ev_call (ea_cons (ev_var rfl) (ea_cons (ev_var rfl) ea_nil)) (fun H9 e9 Q9 k9 E9 => ⟨v', s.1, p, rfl, hv8.ex e9, hpl, fun H10 e10 => k9 H10 e10⟩))
      · subst hb
        rw [c1, if_neg (by decide)]
        exact et_test (ev_op (ev_str (ev_var rfl) hv8 (pm1 rfl) (show (p : Int) - 1 = ((p - 1 : Nat) : Int) by omega) (row_get (by omega))) (ev_str (ev_var rfl) hv8 (ev_var rfl) rfl (row_get hpl)) rv_I0)
      · refine s_ret (v := .bl false) ev_c fun H10 e10 => no H10 (e48.trans (e9.trans e10)) ?_
        rw [ledE_go (deedOf_go wb z), show canZ s.1 (wb, z) = false by simpa using hn]
        rfl
      have hc : canZ s.1 (wb, z) = true := by simpa using hn
      have mv := mov_len hc
      rw [c2] at mv
      rw [ledE_go (deedOf_go wb z), if_pos hc] at hled
      have e59 := e58.trans e9
      have e49 := e48.trans e9
      have hv9 := hv4.ex e49
      refine q_runV (M := fun x H10 => Ex H9 H10 ∧ RowAt K H10 x (movZ s.1 (wb, z))) (fun R hR => ?_) (fun x10 H10 hM => ?_)
      · refine et_test (isP _ H9 e59) H9 (Ex.refl _) _ fun H10 e10 => ?_
        cases wb with
        | true =>
          refine ite2 (fun _ => ?_) (fun z => absurd rfl z)
          refine ⟨v', rfl, .int (p : Int), rfl, v', s.1, p, rfl, hv9.ex e10, by omega, ⟨hp0, hpl⟩, fun v2 H11 e11 hv11 => hR _ _ ⟨e10.trans e11, ?_⟩⟩
          rw [c3, if_pos rfl]
          exact hv11
        | false =>
          refine ite2 (fun z => by cases z) (fun _ => ?_)
          refine ⟨v', rfl, ?_⟩
          refine (pm1 rfl : Ev _ [some v', some (.ref o), some (.ref fx), some (.ref a), some (.ref sq), some (.ref t), some (.int ((p : Nat) : Int)), none] H10 _) H10 (Ex.refl _) _ fun H11 e11 => ?_
          refine ⟨v', s.1, p - 1, by rw [show (p : Int) - 1 = ((p - 1 : Nat) : Int) by omega]; rfl, hv9.ex (e10.trans e11), by omega, by omega, fun v2 H12 e12 hv12 => hR _ _ ⟨(e10.trans e11).trans e12, ?_⟩⟩
          rw [c3, if_neg (by decide)]
          exact hv12
      · obtain ⟨e10, hv10⟩ := hM
        refine s_at [some x10, some (.ref o), some (.ref fx), some (.ref a), some (.ref sq), some (.ref t), some (.int ((p : Nat) : Int)), none] rfl ?_
        have e410 := e49.trans e10
        have g10 := e410 _ _ g4
        have i1 : atI (natsV s.2) ((p : Int)) = some (.int ((ixN s.2 p : Nat) : Int)) := atI_nat (by rw [natsV_at (ixN_at (by omega))])
        have i0 : atI (natsV s.2) ((p - 1 : Nat) : Int) = some (.int ((ixN s.2 (p - 1) : Nat) : Int)) := atI_nat (by rw [natsV_at (ixN_at (by omega))])
        refine s_sl (i := p - 1) (j := p + 1) (el_lst (ea_cons (ev_op (ev_var rfl) (ev_var rfl) (rv_ixL (K := K) (sq_of g10) i1)) (ea_cons (ev_op (ev_var rfl) (ev_is (pm1 rfl) (by congr 1; omega)) (rv_ixL (K := K) (sq_of g10) i0)) ea_nil)) (by show 2 ≤ 100000; decide)) (ev_var rfl) (pm1 rfl) (ev_op (ev_var rfl) ev_c rv_I0) (show (p : Int) - 1 = ((p - 1 : Nat) : Int) by omega) (show (p : Int) + 1 = ((p + 1 : Nat) : Int) by omega) g10 (by omega) (by rw [natsV_len]; omega) (by rw [natsV_len]; show s.2.length + 2 ≤ 100000; omega) fun H11 e11 => ?_
        refine ⟨x10, (movZ s.1 (wb, z), swapL s.2 (atZ (wb, z))), _, _, rfl, ((e4.trans e410).trans e11).mut hsqH, ?_, ?_, by rw [mv.1, l1], ?_, hled⟩
        · have := hv10.ex e11
          obtain ⟨b0, vs0, rfl, s1, s2⟩ := this
          have gl := e11 _ _ g10
          exact ⟨b0, vs0, rfl, (ExB.refl sq H11).upd.t gl s1, s2.exB (ExB.refl sq H11).upd gl⟩
        · rw [upd_same, c2]
          congr 2
          unfold swapL
          rw [show p - 1 + 1 = p by omega, show p - 1 + 2 = p + 1 by omega]
          unfold natsV
          rw [List.map_append, List.map_append, List.map_take, List.map_drop]
          rfl
        · rw [c2, swapL_len (by omega), l2]
    · obtain ⟨v', s, y5, y6, rfl, e4, hv4, g4, l1, l2, hled⟩ := hW
      rw [xl, List.drop_length] at hled
      rw [hled] at q
      have q : ∀ H', Ex H H' → Q (.bl (decide (s.2 = l))) H' := q
      refine ret_run ?_
      refine ⟨.ref sq, rfl, .inl ⟨sq, natsV s.2, rfl, sq_of g4, fun t ht => ?_⟩⟩
      have nT := Ex.new (o := .tup (natsV s.2)) ht
      refine ⟨.ref o, rfl, natsD s.2, natsD l, dp_nats (st_of upd_same), dp_nats (ex_t ((e12.trans e4).trans nT) ho), (nice_nats _).shaped (by decide), (nice_nats _).shaped (by decide), ?_⟩
      rw [eqv_natsD]
      exact q _ ((e12.trans e4).trans nT)
end
end K29
set_option maxHeartbeats 4000000
namespace HH
open PySem PySem.Spec PyProof.Rows L2 Evl RZ
theorem near_step {rs : HH.Row} {l : List Nat} {d : Deed} (tl : ∀ x ∈ rs, 0 ≤ x.2) (k : Keeps rs l) (hd : d ∈ nearD rs l) : (∀ x ∈ doR rs d, 0 ≤ x.2) ∧ (doR rs d).length = rs.length ∧ Keeps (doR rs d) (l.map (tauN (atD d))) ∧ (tab (l.map (tauN (atD d))) rs.length rs.length).length + 1 = (tab l rs.length rs.length).length := by
  obtain ⟨ok, bd⟩ := near_ok hd
  obtain ⟨L1, run1, row1, ids1, atl⟩ := deed_run ok
  obtain ⟨lenD, tlD⟩ := doR_ok ok tl
  obtain ⟨L, dsL, run, e⟩ := reach tl k
  have ag : Again (swapL (List.range rs.length) (atD d)) l (l.map (tauN (atD d))) := again_tau atl fun x hx => List.mem_range.mp (k.ids.mem_iff.mp hx)
  have ag1 : Again (L1.map (·.1)) (L.map (·.1)) (l.map (tauN (atD d))) := by rw [ids1, e]; exact ag
  have kp := keeps_again tl run1 run ag1
  rw [row1] at kp
  refine ⟨tlD, lenD, kp, ?_⟩
  obtain ⟨ds2, w2⟩ := way_ex _ tlD kp (Nat.le_refl _)
  obtain ⟨L2, run2, e2, len2⟩ := way_run w2 tlD kp
  have m := run2.maps (f := ixN (L1.map (·.1)))
  rw [← row1, rl_tag] at m
  have c := run1.cat m
  have eL : (rlL (ixN (L1.map (·.1))) L2).map (·.1) = l := by
    rw [← e, ag1.1, ← e2]
    unfold rlL
    rw [List.map_map, List.map_map]
    rfl
  have h1 := run_far tl c
  rw [eL, List.length_append] at h1
  have les : (tab (l.map (tauN (atD d))) rs.length rs.length).length < (tab l rs.length rs.length).length := by
    refine tab_less k.ids atl bd ag.1 fun z hz => ?_
    have h2 := ag.2 z hz
    have idsL1 := run_ids tl run1
    rw [← ids1, idsL1.length_eq, List.length_range] at h2
    exact h2
  rw [lenD] at len2
  simp only [List.length_cons, List.length_nil] at h1
  omega
inductive WayN : HH.Row → List Nat → List Deed → Prop
  | nil {r : HH.Row} {l : List Nat} : tab l r.length r.length = [] → WayN r l []
  | cons {r : HH.Row} {l : List Nat} {d : Deed} {ds : List Deed} : d ∈ nearD r l → WayN (doR r d) (l.map (tauN (atD d))) ds → WayN r l (d :: ds)
theorem wayN_run : ∀ {r : HH.Row} {l : List Nat} {ds : List Deed}, WayN r l ds → (∀ x ∈ r, 0 ≤ x.2) → Keeps r l → ∃ L, MRun (tag 0 r) L ds ∧ L.map (·.1) = l ∧ ds.length = (tab l r.length r.length).length := by
  intro r l ds h
  induction h with
  | @nil r l h0 =>
    intro tl k
    have := tab_sorted k.ids h0
    refine ⟨tag 0 r, .nil, by rw [tag_ids, this], ?_⟩
    rw [h0]
    rfl
  | @cons r l d ds hd hw ih =>
    intro tl k
    obtain ⟨tlD, lenD, kp, les⟩ := near_step tl k hd
    obtain ⟨ok, bd⟩ := near_ok hd
    obtain ⟨L1, run1, row1, ids1, atl⟩ := deed_run ok
    obtain ⟨L2, run2, e2, len2⟩ := ih tlD kp
    have ag : Again (swapL (List.range r.length) (atD d)) l (l.map (tauN (atD d))) := again_tau atl fun x hx => List.mem_range.mp (k.ids.mem_iff.mp hx)
    have m := run2.maps (f := ixN (L1.map (·.1)))
    rw [← row1, rl_tag] at m
    have c := run1.cat m
    have eL : (rlL (ixN (L1.map (·.1))) L2).map (·.1) = l := by
      rw [ag.1, ← ids1, ← e2]
      unfold rlL
      rw [List.map_map, List.map_map]
      rfl
    refine ⟨_, c, eL, ?_⟩
    rw [lenD] at len2
    simp only [List.length_cons]
    omega
theorem deed_back (ds : List Deed) : (ds.map deedD).all isDeedD = true ∧ (ds.map deedD).filterMap deedOf = ds.map zd := by
  have h1 : ∀ d : Deed, deedOf (deedD d) = some (zd d) := fun d => deedOf_go d.1 (d.2 : Int)
  induction ds with
  | nil => exact ⟨rfl, rfl⟩
  | cons d ds ih =>
    refine ⟨?_, ?_⟩
    · rw [List.map_cons, List.all_cons, ih.1, show isDeedD (deedD d) = true by unfold isDeedD; rw [h1]; rfl]
      rfl
    · rw [List.map_cons, List.filterMap_cons, h1, ih.2]
      rfl
theorem wayN_shows {r : HH.Row} {l : List Nat} {ds : List Deed} (h : WayN r l ds) (tl : ∀ x ∈ r, 0 ≤ x.2) (k : Keeps r l) : showsD r l (.list (ds.map deedD)) = true := by
  obtain ⟨L, run, e, len⟩ := wayN_run h tl k
  obtain ⟨b1, b2⟩ := deed_back ds
  rw [showsD_list, List.length_map, decide_eq_true len, b1, b2, Bool.true_and, Bool.true_and]
  unfold leadsB
  rw [run_led run]
  exact decide_eq_true e
def dAt (rs : HH.Row) (p : Nat) : Deed := if letsN rs (p + 1) then (true, p + 1) else (false, p)
theorem dAt_near {rs : HH.Row} {l : List Nat} {p : Nat} (tl : ∀ x ∈ rs, 0 ≤ x.2) (k : Keeps rs l) (hp : p + 1 < rs.length) (hb : bef l (p + 1) p = true) : dAt rs p ∈ nearD rs l ∧ atD (dAt rs p) = p := by
  obtain ⟨L, ds, run, e⟩ := reach tl k
  have om := one_move tl run hp (by rw [e]; exact hb)
  have ha : p ∈ adjL l (rs.length - 1) := mem_adj.mpr ⟨by omega, hb⟩
  unfold dAt nearD
  cases c : letsN rs (p + 1) with
  | true =>
    rw [if_pos rfl]
    exact ⟨List.mem_append_right _ (List.mem_map.mpr ⟨p, List.mem_filter.mpr ⟨ha, c⟩, rfl⟩), by unfold atD; rw [if_pos rfl, Nat.add_sub_cancel]⟩
  | false =>
    rw [if_neg (by decide)]
    rw [c] at om
    exact ⟨List.mem_append_left _ (List.mem_map.mpr ⟨p, List.mem_filter.mpr ⟨ha, om⟩, rfl⟩), rfl⟩
theorem some_near {rs : HH.Row} {l : List Nat} (tl : ∀ x ∈ rs, 0 ≤ x.2) (k : Keeps rs l) (h : 0 < (tab l rs.length rs.length).length) : ∃ p, p + 1 < rs.length ∧ bef l (p + 1) p = true := by
  obtain ⟨L, ds, run, e⟩ := reach tl k
  have hn : nearD rs l ≠ [] := fun z => by
    have := (near_none tl run).mp (by rw [e]; exact z)
    rw [e] at this
    rw [this] at h
    exact absurd h (by decide)
  obtain ⟨d, hd⟩ := List.exists_mem_of_ne_nil _ hn
  obtain ⟨ok, bd⟩ := near_ok hd
  obtain ⟨L1, run1, row1, ids1, atl⟩ := deed_run ok
  exact ⟨atD d, atl, bd⟩
theorem mem_given {m : Nat} {f : Nat → Bool} {v : Nat → V} {x : V} {r : Nat} (h : (given m f v)[r]? = some x) : ∃ j, j < m ∧ f j = true ∧ x = v j := by
  have hm := List.mem_of_getElem? h
  unfold given at hm
  obtain ⟨j, hj, rfl⟩ := List.mem_map.mp hm
  obtain ⟨h1, h2⟩ := List.mem_filter.mp hj
  exact ⟨j, List.mem_range.mp h1, h2, rfl⟩
theorem given_pos {m : Nat} {f : Nat → Bool} {v : Nat → V} {j : Nat} (hj : j < m) (h : f j = true) : 0 < (given m f v).length := by
  unfold given
  rw [List.length_map]
  exact List.length_pos_of_mem (List.mem_filter.mpr ⟨List.mem_range.mpr hj, h⟩)
section
variable {K : PySem.W.Frag} {σ : L2.St} {H : Hp} {ta tb te tx ty : TE}
theorem ev_inB {q : Addr} {ws : List V} {qs : HH.Row} {b : Int × Int} (h1 : EvB K ta σ H b) (h2 : ∀ H1, Ex H H1 → Ev tb σ H1 (.ref q)) (hq : SqL K H q ws) (bs : All2 (BeastAt K H) ws qs) : Ev (tOp (rInD K) ta tb) σ H (.bl (decide (b ∈ qs))) := fun H1 e1 Q k =>
  h1 H1 e1 _ fun x H2 e2 hx => by
    have bs2 : All2 (BeastAt K H2) ws qs := All2.mono (fun v c r => r.ex (e1.trans e2)) bs
    have := ev_inLP (K := K) (σ := σ) (H := H2) (ta := tC x) (tb := tb) (ev_c) hx (h2 H2 (e1.trans e2)) (ex_l (e1.trans e2) hq) bs2
    exact this H2 (Ex.refl _) Q fun H3 e3 => k H3 (e2.trans e3)
def thereK (p : Nat) : List (Key × V) := [(.inl (p : Int), .int ((p + 1 : Nat) : Int)), (.inl ((p + 1 : Nat) : Int), .int (p : Int))]
theorem ev_there {d : Addr} {p x : Nat} (hd : Ev te σ H (.ref d)) (gd : H d = some (.dK (thereK p))) (h1 : ∀ H1, Ex H H1 → Ev tx σ H1 (.int (x : Int))) : Ev (tDGet2 te tx tx) σ H (.int ((tauN p x : Nat) : Int)) := fun H1 e1 Q q =>
  hd H1 e1 _ fun H2 e2 => ⟨d, rfl, .inl ⟨_, .inl ((e1.trans e2) _ _ gd)⟩, h1 H2 (e1.trans e2) H2 (Ex.refl _) _ fun H3 e3 => h1 H3 ((e1.trans e2).trans e3) H3 (Ex.refl _) _ fun H4 e4 => ⟨valV (thereK p) (.inl (x : Int)), DGet.k (k := .inl (x : Int)) (((e1.trans e2).trans (e3.trans e4)) _ _ gd), by
    have ev : ((valV (thereK p) (.inl (x : Int))).getD (.int (x : Int))) = .int ((tauN p x : Nat) : Int) := by
      unfold thereK valV tauN
      by_cases c1 : x = p
      · subst c1
        simp
      · by_cases c2 : x = p + 1
        · subst c2
          have hn : ¬ ((p : Int) = (p : Int) + 1) := by omega
          simp [hn]
        · have n1 : ¬ ((p : Int) = (x : Int)) := by omega
          have n2 : ¬ ((p : Int) + 1 = (x : Int)) := by omega
          simp [c1, c2, n1, n2]
    rw [ev]
    exact q H4 ((e2.trans e3).trans e4)⟩⟩
end
theorem q_appM {K : PySem.W.Frag} {σ : L2.St} {H : Hp} {te : TE} {tz : TS} {D : Ends} {i : Nat} {l : Addr} {xs : List V} {M : V → Hp → Prop} (hσ : σ[i]? = some (some (.ref l))) (hl : H l = some (.lst xs)) (hz : xs.length < 100000) (h : ∀ R : VK, (∀ x H1, M x H1 → R x H1) → te σ H R) (k : ∀ x H1, M x H1 → tz D σ (upd H1 l (.lst (xs ++ [x])))) (hM : ∀ x H1, M x H1 → Ex H H1 := by intro x H1 h; exact h.1) :
    tSeq (tDrop (tBM K "list" rAppend (tVar i) (tCons te tNil))) tz D σ H := by
  refine ⟨.ref l, hσ, .inl ⟨rfl, _, sq_of hl⟩, ?_⟩
  exact h _ fun x H1 m => ⟨l, xs, x, rfl, rfl, hM x H1 m _ _ hl, sz_lt hz, k x H1 m⟩
theorem atI_last (us : List V) (x : V) : atI (us ++ [x]) (-1) = some x := by
  have hl : (us ++ [x]).length = us.length + 1 := by rw [List.length_append]; rfl
  have e : L2.ixN (us ++ [x]).length (-1) = some us.length := by
    rw [hl]
    unfold L2.ixN
    rw [if_neg (by decide), if_pos (by omega)]
    congr 1
    omega
  unfold atI
  rw [e]
  simp
def spDrawnWay (K : PySem.W.Frag) : Sp := fun vs H Q _ => ∃ (p : Addr) (v : V) (o : Addr) (rs : HH.Row) (l : List Nat) (n : Nat), vs = [.ref p, v, .ref o] ∧ RowAt K H v rs ∧ rs.length ≤ 30 ∧ (∀ b ∈ rs, 0 ≤ b.2) ∧ SqT K H o (natsV l) ∧ Keeps rs l ∧ Bx H p n ∧ n + 1000 < Lim ∧
  ∀ (q : Addr) (us : List V) (ds : List Deed) (H' : Hp), ExB p H H' → Bx H' p (n + 1000) → H q = none → q ≠ p → H' q = some (.lst us) → All2 (DeedAt K H') us ds → WayN rs l ds → Q (.ref q) H'
def spDetour (K : PySem.W.Frag) : Sp := fun vs H Q _ => ∃ (p : Addr) (v : V) (wq : Addr) (rs : HH.Row) (us : List V) (ds : List Deed) (n : Nat), vs = [.ref p, v, .ref wq] ∧ RowAt K H v rs ∧ rs.length ≤ 30 ∧ H wq = some (.lst us) ∧ wq ≠ p ∧ All2 (DeedAt K H) us ds ∧ us.length ≤ 1000 ∧ Bx H p n ∧ n + 1 < Lim ∧
  ∀ (q : Addr) (us' : List V) (ds' : List Deed) (H' : Hp), ExB p H H' → Bx H' p (n + 1) → q ≠ p → H' q = some (.lst us') → All2 (DeedAt K H') us' ds' → ds'.length ≤ ds.length + 2 → (∀ d ∈ ds', d ∈ ds ∨ d.2 ≤ 30) → Q (.ref q) H'
end HH
set_option maxHeartbeats 4000000
namespace K29
open PySem PySem.Spec PyProof.Rows L2 Evl HH RZ
section
variable {P : Program} {w : World} {K : PySem.W.Frag} {mg : Str → Option Value} {base : Heap}
theorem s_runW {te : TE} {i : Nat} {D : Ends} {σ : _root_.L2.St} {H : Hp} (h : te σ H fun x H1 => D.nx (σ.set i (some x)) H1) : tAsg te (gName i) D σ H := h
theorem ok_law_drawn_way {f f1 f2 f3 f4 f5 : Addr} {fd fd1 fd2 fd3 fd4 fd5 : FuncData} (F : FnP K "_law_drawn_way" s_law_drawn_way f fd) (g : mg "_law_drawn_way" = some (.ref f)) (b : Binds K fd ["_law_box", "_law_pen", "_law_seats"] []) (h_law_turned : Has P w K mg base 2 "_law_turned" ["_law_queue"] (spTurnedT K) f1 fd1) (h_law_of : Has P w K mg base 2 "_law_of" ["_law_box", "_law_pool"] (spOf K) f2 fd2) (h_law_lets : Has P w K mg base 1 "_law_lets" ["_law_row_now", "_law_place"] (spCanPass K) f3 fd3) (h_law_passed : Has P w K mg base 1 "_law_passed" ["_law_row_now", "_law_place"] (spPassed K) f4 fd4) (h_law_fallen : Has P w K mg base 1 "_law_fallen" ["_law_row_now", "_law_place"] (spFallen K) f5 fd5)
    (m_tuple : mg "tuple" = none) (m_len : mg "len" = none) (m_range : mg "range" = none) : Has P w K mg base 3 "_law_drawn_way" ["_law_box", "_law_pen", "_law_seats"] (spDrawnWay K) f fd := by
  refine ⟨F.ok sc_law_drawn_way (fun vs H Q E h => ?_) (fun cdv A outer s H vs Q E hr h => ?_), g, F.kp, b⟩
  · obtain ⟨p, v, o, rs, l, n, rfl, _⟩ := h
    rfl
  · obtain ⟨p, v, o, rs, l, n, rfl, hv, hl, tl, ho, kp, hb, hn, q⟩ := h
    have hu := room_u1 hr
    refine ⟨_, PSs.nox (pss_cons (ps_set (i := 3) sc_law_drawn_way.nd rfl (.inl rfl) (pe_lst pa_nil))
      (pss_cons (ps_for PassesOwn.never rfl (pi_range1 (by rfl) m_range (pa_cons (pe_callB call_len_seq (by rfl) m_len PySem.boot_len (pa_cons (pe_call h_law_turned.G (hr.mono (by decide)) (by rfl) h_law_turned.g h_law_turned.kp h_law_turned.b .nil pass0 (pa_cons (pv 2) pa_nil)) pa_nil)) pa_nil)) (pg_name (i := 4) sc_law_drawn_way.nd rfl (Or.inl rfl))
        (pss_cons (ps_set (i := 5) sc_law_drawn_way.nd rfl (.inr rfl) (pe_call h_law_turned.G (hr.mono (by decide)) (by rfl) h_law_turned.g h_law_turned.kp h_law_turned.b .nil pass0 (pa_cons (pv 2) pa_nil)))
      (pss_cons (ps_setLc (i := 7) (own := [("_law_at", 6)]) (g := gName 6) (by rfl) sc_law_drawn_way.nd rfl rfl (sw_true rfl rfl rfl (by decide +kernel)) (pi_range2 (by rfl) m_range (pa_cons pe_int (pa_cons (pe_callB call_len_seq (by rfl) m_len PySem.boot_len (pa_cons (pv 1) pa_nil)) pa_nil))) (blkOk_by (own := [("_law_at", 6)]) (N := ["_law_box", "_law_pen", "_law_seats", "_law_went", "_law_turn", "_law_turned_ones", "_law_at", "_law_some", "_law_there", "_law_whom"]) (sc := defScope s_law_drawn_way) (by decide +kernel)) (fun _ _ _ _ _ => (pg_name (i := 6) sc_law_drawn_way.nd rfl (Or.inl rfl))) (fun _ _ _ _ _ => (pts_one (pt_cmpR (op_inDK (K := K) (room_u65 hr)) (pe_tup (pa_cons (pe_op op_sub (pv 6) pe_int) (pa_cons (pv 6) pa_nil))) (pv 5) (by with_unfolding_all rfl)))) (fun _ _ _ _ _ => (pv 6)))
      (pss_cons (ps_set (i := 6) sc_law_drawn_way.nd rfl (.inl rfl) (pe_call h_law_of.G (hr.mono (by decide)) (by rfl) h_law_of.g h_law_of.kp h_law_of.b .nil pass0 (pa_cons (pv 0) (pa_cons (pv 7) pa_nil))))
      (pss_cons (ps_set (i := 8) sc_law_drawn_way.nd rfl (.inr rfl) (pe_disp (pps_cons (pe_op op_sub (pv 6) pe_int) (pv 6) (pps_cons (pv 6) (pe_op op_sub (pv 6) pe_int) pps_nil)) (by rfl) (by rfl) (fun h => nomatch h) (by decide)))
      (pss_cons (ps_expr (pe_bm PySem.F.plainAttrs_list PySem.F.slot_list_append PySem.F.type_list_append mt_append (pv 3) (pa_cons (pe_ifExp (pt_val (pe_call h_law_lets.G (hr.mono (by decide)) (by rfl) h_law_lets.g h_law_lets.kp h_law_lets.b .nil pass0 (pa_cons (pv 1) (pa_cons (pv 6) pa_nil)))) (pe_tup (pa_cons pe_str (pa_cons (pv 6) pa_nil))) (pe_tup (pa_cons pe_str (pa_cons (pe_op op_sub (pv 6) pe_int) pa_nil)))) pa_nil)))
      (pss_cons (ps_set (i := 1) sc_law_drawn_way.nd rfl (.inl rfl) (pe_ifExp (pt_cmpR op_eq (pe_ix (ix_tupK (K := K)) (pe_ix ix_list (pv 3) (pe_un un_neg pe_int) (fun _ _ => rfl)) pe_int (fun _ _ => rfl)) pe_str (nomark _)) (pe_call h_law_passed.G (hr.mono (by decide)) (by rfl) h_law_passed.g h_law_passed.kp h_law_passed.b .nil pass0 (pa_cons (pv 1) (pa_cons (pv 6) pa_nil))) (pe_call h_law_fallen.G (hr.mono (by decide)) (by rfl) h_law_fallen.g h_law_fallen.kp h_law_fallen.b .nil pass0 (pa_cons (pv 1) (pa_cons (pe_op op_sub (pv 6) pe_int) pa_nil)))))
      (pss_one (ps_set (i := 2) sc_law_drawn_way.nd rfl (.inl rfl) (pe_tupleOf (by rfl) m_tuple (pe_lc (own := [("_law_whom", 9)]) (g := gName 9) (by rfl) sc_law_drawn_way.nd (pi_tup (pv 2)) (blkOk_by (own := [("_law_whom", 9)]) (N := ["_law_box", "_law_pen", "_law_seats", "_law_went", "_law_turn", "_law_turned_ones", "_law_at", "_law_some", "_law_there", "_law_whom"]) (sc := defScope s_law_drawn_way) (by decide +kernel)) (fun _ _ _ _ _ => (pg_name (i := 9) sc_law_drawn_way.nd rfl (Or.inl rfl))) (fun _ _ _ _ _ => pts_nil) (fun _ _ _ _ _ => (pe_dget2 hu (pv 8) (pv 9) (pv 9) ⟨by rfl, by rfl, by rfl, by rfl⟩)))))))))))))
      (pss_one (ps_ret (pv 3))))), ?_⟩
    refine q_asgL (el_lst ea_nil (by show 0 ≤ 100000; decide)) fun wq H1 hwq e1 g1 => ?_
    refine s_at [some (.ref p), some v, some (.ref o), some (.ref wq), none, none, none, none, none, none] rfl ?_
    have b1 := hb.ex e1
    have nwp : wq ≠ p := (hb.ne hwq).symm
    have tl9 := tab_small l hl
    have turnE : ∀ (σ : _root_.L2.St) (H : Hp) (o' : Addr) (s : List Nat), σ[2]? = some (some (.ref o')) → SqT K H o' (natsV s) → s.Perm (List.range rs.length) → ∀ Q : VK, (∀ (tq : Addr) (tus : List V) (H' : Hp), H tq = none → Ex H H' → H' tq = some (.lst tus) → BeastsT H' tus (tab s rs.length rs.length) → Q (.ref tq) H') → tCall (spTurnedT K) [] E0 (tCons (tVar 2) tNil) σ H Q := fun σ H o' s hσ hs ps Q k => by
      have sl : s.length = rs.length := by rw [ps.length_eq, List.length_range]
      exact ⟨.ref o', hσ, o', s, rfl, hs, ps.nodup_iff.mpr List.nodup_range, fun y hy => ps.mem_iff.mpr (List.mem_range.mpr (by omega)), by omega, fun uq uus H12 huq e12 g12 bs12 => k uq uus H12 huq e12 g12 (by rw [sl] at bs12; exact bs12)⟩
    refine q_forR1 (n := ((tab l rs.length rs.length).length : Int)) (ea_cons (fun H2 e2 Q2 k2 => turnE _ H2 o l rfl (ex_t (e1.trans e2) ho) kp.ids _ fun tq tus H3 htq e3 g3 bs3 => ⟨tq, tus, rfl, .inl (sq_of g3), by rw [All2.len bs3]; exact k2 H3 e3⟩) ea_nil) ⟨by omega, by omega⟩ (fun i σ' H' => ∃ (v' : V) (o' : Addr) (r : HH.Row) (s : List Nat) (us : List V) (ds : List Deed) (y4 y5 y6 y7 y8 : Option V), σ' = [some (.ref p), some v', some (.ref o'), some (.ref wq), y4, y5, y6, y7, y8, none] ∧ ExB2 p wq H1 H' ∧ Bx H' p (n + i) ∧ H' wq = some (.lst us) ∧ All2 (DeedAt K H') us ds ∧ us.length = i ∧ RowAt K H' v' r ∧ SqT K H' o' (natsV s) ∧ r.length = rs.length ∧ (∀ x ∈ r, 0 ≤ x.2) ∧ Keeps r s ∧ (tab s rs.length rs.length).length + i = (tab l rs.length rs.length).length ∧ (∀ rest, WayN r s rest → WayN rs l (ds ++ rest)))
      (fun H2 e2 => ⟨v, o, rs, l, [], [], none, none, none, none, none, rfl, .of e2, b1.ex e2, e2 _ _ g1, .nil, rfl, hv.ex (e1.trans e2), ex_t (e1.trans e2) ho, rfl, tl, kp, rfl, fun rest h => h⟩) (fun i σ' H2 hi hW => ?_) (fun σ' H2 hW => ?_)
    · obtain ⟨v', o', r, s, us, ds, y4, y5, y6, y7, y8, rfl, x2, b2, g2, d2, ul, hv2, ho2, rl, tlr, kr, tb, way⟩ := hW
      have hi : i < (tab l rs.length rs.length).length := by omega
      refine s_at [some (.ref p), some v', some (.ref o'), some (.ref wq), some (.int (i : Int)), y5, y6, y7, y8, none] rfl ?_
      have ids : s.Perm (List.range rs.length) := by rw [← rl]; exact kr.ids
      refine q_run ?_
      refine turnE _ H2 o' s rfl ho2 ids _ fun tq tus H3 htq e3 g3 bs3 => ?_
      refine s_at [some (.ref p), some v', some (.ref o'), some (.ref wq), some (.int (i : Int)), some (.ref tq), y6, y7, y8, none] rfl ?_
      have hv3 := hv2.ex e3
      refine q_asgL (el_lcR2 (σ := [some (.ref p), some v', some (.ref o'), some (.ref wq), some (.int (i : Int)), some (.ref tq), y6, y7, y8, none]) (j := 6) (vs := [6]) (te := tVar 6) (lo := 1) (n := (r.length : Int)) (m := rs.length - 1) (fun j => decide (((j : Int), ((j + 1 : Nat) : Int)) ∈ tab s rs.length rs.length)) (fun j => .int (1 + (j : Int))) (ea_cons ev_c (ea_cons (ev_lenR (K := K) (ev_var rfl) hv3) ea_nil)) ⟨by decide, by decide, by omega, by omega⟩ (by omega) (fun x => rfl) (fun j H4 e4 hj => et_test (ev_is (ev_inB (K := K) (b := ((j : Int), ((j + 1 : Nat) : Int))) (eb_tup (ev_is (ev_op (ev_var rfl) (ev_c (v := .int 1)) rv_I0) (by congr 1; omega)) (ev_is (ev_var rfl) (by congr 1; omega))) (fun H5 e5 => ev_var rfl) (sq_of (e4 _ _ g3)) (beasts_2 (BeastsT.be (K := K) (BeastsT.ex' bs3 e4)))) rfl)) (fun j H4 e4 hj _ => ev_var rfl)) fun sq H4 hsq e4 g4 => ?_
      refine s_at [some (.ref p), some v', some (.ref o'), some (.ref wq), some (.int (i : Int)), some (.ref tq), y6, some (.ref sq), y8, none] rfl ?_
      have b4 := (b2.ex e3).ex e4
      have b3 := b2.ex e3
      have nsp : sq ≠ p := (b3.ne hsq).symm
      obtain ⟨p0, hp0, hbef⟩ := some_near tlr kr (by rw [rl]; omega)
      have memB : ∀ j, j + 1 < rs.length → ((((j : Int), ((j + 1 : Nat) : Int)) ∈ tab s rs.length rs.length) ↔ bef s (j + 1) j = true) := fun j hj => by
        rw [mem_tab]
        constructor
        · rintro ⟨a, c, h1, h2, h3, h4⟩
          injection h3 with h5 h6
          have : a = j ∧ c = j + 1 := by omega
          rw [this.1, this.2] at h4
          exact h4
        · intro h
          exact ⟨j, j + 1, by omega, hj, rfl, h⟩
      refine q_run ?_
      refine ⟨.ref p, rfl, .ref sq, rfl, p, sq, _, n + i, rfl, sq_of g4, given_pos (j := p0) (by omega) (decide_eq_true ((memB p0 (by omega)).mpr hbef)), by have := given_len (rs.length - 1) (fun j => decide (((j : Int), ((j + 1 : Nat) : Int)) ∈ tab s rs.length rs.length)) (fun j => V.int (1 + (j : Int))); omega, nsp, b4, by omega, fun ri x H5 hx x5 b5 => ?_⟩
      obtain ⟨j, hj, hf, rfl⟩ := mem_given hx
      have hjb := (memB j (by omega)).mp (of_decide_eq_true hf)
      obtain ⟨dn, da⟩ := dAt_near tlr kr (p := j) (by omega) hjb
      rw [show (1 : Int) + (j : Int) = ((j + 1 : Nat) : Int) by omega]
      refine s_at [some (.ref p), some v', some (.ref o'), some (.ref wq), some (.int (i : Int)), some (.ref tq), some (.int ((j + 1 : Nat) : Int)), some (.ref sq), y8, none] rfl ?_
      obtain ⟨bl4, hbl4⟩ := b4.lst
      have e24 := e3.trans e4
      have hv5 : RowAt K H5 v' r := by
        obtain ⟨b0, vs0, rfl, s1, s2⟩ := hv2.ex e24
        exact ⟨b0, vs0, rfl, x5.t hbl4 s1, s2.exB x5 hbl4⟩
      have ho5 : SqT K H5 o' (natsV s) := x5.t hbl4 (ex_t e24 ho2)
      have g5 := x5 _ _ nwp (e24 _ _ g2)
      have d5 : All2 (DeedAt K H5) us ds := All2.mono (fun v d ⟨t, ht, hs⟩ => ⟨t, ht, x5.t hbl4 (ex_t e24 hs)⟩) d2
      have x15 : ExB2 p wq H1 H5 := fun c o h1 h2 h => x5 c o h1 (e24 c o (x2 c o h1 h2 h))
      have am1 : ∀ {σ : _root_.L2.St} {H : Hp}, σ[6]? = some (some (.int ((j + 1 : Nat) : Int))) → Ev (tOp (rI0 fun i j => .int (i - j)) (tVar 6) (tC (.int 1))) σ H (.int (j : Int)) := fun h => ev_is (ev_op (ev_var h) ev_c rv_I0) (by congr 1; omega)
      refine q_run ?_
      refine fun dd hdd => ?_
      have ndp : dd ≠ p := (b5.ne hdd).symm
      have ndw : dd ≠ wq := fun z => by rw [z, g5] at hdd; cases hdd
      refine (am1 rfl : Ev _ [some (.ref p), some v', some (.ref o'), some (.ref wq), some (.int (i : Int)), some (.ref tq), some (.int ((j + 1 : Nat) : Int)), some (.ref sq), y8, none] _ _) _ (Ex.refl _) _ fun H6 e6 => ?_
      refine ⟨.int ((j + 1 : Nat) : Int), rfl, .int ((j + 1 : Nat) : Int), rfl, ?_⟩
      refine (am1 rfl : Ev _ [some (.ref p), some v', some (.ref o'), some (.ref wq), some (.int (i : Int)), some (.ref tq), some (.int ((j + 1 : Nat) : Int)), some (.ref sq), y8, none] H6 _) _ (Ex.refl _) _ fun H7 e7 => ?_
      refine ⟨(e6.trans e7) _ _ upd_same, thereK j, rfl, by show 2 ≤ 15; decide, ?_⟩
      have hm : mergeK [] (thereK j) = thereK j := by
        have hne : ¬ ((j : Int) = (j : Int) + 1) := by omega
        simp [mergeK, thereK, putK, hne]
      rw [hm]
      have hddH : H5 dd = none := hdd
      have e57 : Ex H5 (upd H7 dd (.dK (thereK j))) := ((Ex.new hdd).trans (e6.trans e7)).mut hdd
      have g8 : (upd H7 dd (.dK (thereK j))) dd = some (.dK (thereK j)) := upd_same
      generalize upd H7 dd (.dK (thereK j)) = H8 at e57 g8 ⊢
      try dsimp only
      refine s_at [some (.ref p), some v', some (.ref o'), some (.ref wq), some (.int (i : Int)), some (.ref tq), some (.int ((j + 1 : Nat) : Int)), some (.ref sq), some (.ref dd), none] rfl ?_
      have hv8 := hv5.ex e57
      refine q_appM (M := fun x H9 => Ex H8 H9 ∧ DeedAt K H9 x (dAt r j)) (K := K) (l := wq) (xs := us) rfl (e57 _ _ g5) (by omega) (fun R hR => ?_) (fun x H9 hM => ?_)
      · refine et_B (ev_call (σ := [some (.ref p), some v', some (.ref o'), some (.ref wq), some (.int (i : Int)), some (.ref tq), some (.int ((j + 1 : Nat) : Int)), some (.ref sq), some (.ref dd), none]) (ea_cons (ev_var (i := 1) rfl) (ea_cons (ev_var (i := 6) rfl) ea_nil)) (fun H9 e9 Q9 k9 E9 => ⟨v', r, j + 1, rfl, hv8.ex e9, by omega, fun H10 e10 => k9 H10 e10⟩)) H8 (Ex.refl _) _ fun H9 e9 => ?_
        unfold dAt at hR
        cases c : letsN r (j + 1) with
        | true =>
          rw [c, if_pos rfl] at hR
          refine ite2 (fun _ => ?_) (fun z => absurd rfl z)
          exact ⟨.int ((j + 1 : Nat) : Int), rfl, by show 2 ≤ sizeLine; decide, fun t ht => hR _ _ ⟨e9.trans (Ex.new ht), t, rfl, st_of upd_same⟩⟩
        | false =>
          rw [c, if_neg (by decide)] at hR
          refine ite2 (fun z => by cases z) (fun _ => ?_)
          refine (am1 rfl : Ev _ [some (.ref p), some v', some (.ref o'), some (.ref wq), some (.int (i : Int)), some (.ref tq), some (.int ((j + 1 : Nat) : Int)), some (.ref sq), some (.ref dd), none] H9 _) _ (Ex.refl _) _ fun H10 e10 => ?_
          exact ⟨by show 2 ≤ sizeLine; decide, fun t ht => hR _ _ ⟨(e9.trans e10).trans (Ex.new ht), t, rfl, st_of upd_same⟩⟩
      · obtain ⟨e9, hd9⟩ := hM
        have g9 := e9 _ _ (e57 _ _ g5)
        have gA : (upd H9 wq (.lst (us ++ [x]))) wq = some (.lst (us ++ [x])) := upd_same
        have upw := (ExB.refl wq H9).upd (o := .lst (us ++ [x]))
        have e59 := e57.trans e9
        have hvA : RowAt K (upd H9 wq (.lst (us ++ [x]))) v' r := by
          obtain ⟨b0, vs0, rfl, s1, s2⟩ := hv5.ex e59
          exact ⟨b0, vs0, rfl, upw.t g9 s1, s2.exB upw g9⟩
        have hoA : SqT K (upd H9 wq (.lst (us ++ [x]))) o' (natsV s) := upw.t g9 (ex_t e59 ho5)
        have dA : All2 (DeedAt K (upd H9 wq (.lst (us ++ [x])))) (us ++ [x]) (ds ++ [dAt r j]) := by
          refine All2.mono (fun v d ⟨t, ht, hs⟩ => ⟨t, ht, upw.t g9 hs⟩) (All2.app (All2.mono (fun v d ⟨t, ht, hs⟩ => ⟨t, ht, ex_t e59 hs⟩) d5) (.cons hd9 .nil) : All2 (DeedAt K H9) (us ++ [x]) (ds ++ [dAt r j]))
        have gdA : (upd H9 wq (.lst (us ++ [x]))) dd = some (.dK (thereK j)) := by
          rw [upd_ne ndw]
          exact e9 _ _ g8
        have bA : Bx (upd H9 wq (.lst (us ++ [x]))) p (n + i + 1) := (b5.ex e59).mut nwp.symm
        have x1A : ExB2 p wq H1 (upd H9 wq (.lst (us ++ [x]))) := (x15.trans (.of e59)).snd
        generalize upd H9 wq (.lst (us ++ [x])) = HA at gA hvA hoA dA gdA bA x1A ⊢
        obtain ⟨tlD, lenD, kD, tabD⟩ := near_step tlr kr dn
        rw [da] at kD tabD
        refine q_runV (M := fun y HB => Ex HA HB ∧ RowAt K HB y (doR r (dAt r j))) (fun R hR => ?_) (fun yB HB hM => ?_)
        · have lastx : atI (us ++ [x]) (-1) = some x := HH.atI_last us x
          obtain ⟨t, rfl, st⟩ := hd9
          have stA : SqT K HA t [.str (wordOf (dAt r j).1), .int ((dAt r j).2 : Int)] := by
            have := dA
            obtain ⟨z, hz, tz, ez, sz⟩ := All2.get dA (show (us ++ [V.ref t])[us.length]? = some (V.ref t) by simp)
            cases ez
            have hz2 : z = dAt r j := by
              have hdl : us.length = ds.length := All2.len d2
              rw [hdl] at hz
              simpa using hz.symm
            subst hz2
            exact sz
          have isP : Ev (tOp rEq (tOp (rIxT K) (tOp (rIxL K) (tVar 3) (tUn (rU fun i => .int (-i)) (tC (.int 1)))) (tC (.int 0))) (tC (.str "pass"))) [some (.ref p), some v', some (.ref o'), some (.ref wq), some (.int (i : Int)), some (.ref tq), some (.int ((j + 1 : Nat) : Int)), some (.ref sq), some (.ref dd), none] HA (.bl (dAt r j).1) := by
            refine ev_is (ev_op (ev_op (ev_op (ev_var rfl) (ev_un ev_c ru_neg) (rv_ixL (K := K) (sq_of gA) lastx)) ev_c (rv_ixT (K := K) stA (atI_nat (j := 0) (v := V.str (wordOf (dAt r j).1)) rfl))) ev_c (rv_eq rfl)) ?_
            cases (dAt r j).1 <;> decide +kernel
          refine et_test isP HA (Ex.refl _) _ fun HB eB => ?_
          unfold dAt at hR ⊢
          cases c : letsN r (j + 1) with
          | true =>
            rw [c, if_pos rfl] at hR
            refine ite2 (fun _ => ?_) (fun z => absurd rfl z)
            exact ⟨v', rfl, .int ((j + 1 : Nat) : Int), rfl, v', r, j + 1, rfl, hvA.ex eB, by omega, ⟨by omega, by omega⟩, fun v2 HC eC hvC => hR _ _ ⟨eB.trans eC, hvC⟩⟩
          | false =>
            rw [c, if_neg (by decide)] at hR
            refine ite2 (fun z => by cases z) (fun _ => ?_)
            refine ⟨v', rfl, ?_⟩
            refine (am1 rfl : Ev _ [some (.ref p), some v', some (.ref o'), some (.ref wq), some (.int (i : Int)), some (.ref tq), some (.int ((j + 1 : Nat) : Int)), some (.ref sq), some (.ref dd), none] HB _) _ (Ex.refl _) _ fun HC eC => ?_
            exact ⟨v', r, j, rfl, hvA.ex (eB.trans eC), by omega, by omega, fun v2 HD eD hvD => hR _ _ ⟨(eB.trans eC).trans eD, hvD⟩⟩
        · obtain ⟨eB, hvB⟩ := hM
          refine s_at [some (.ref p), some yB, some (.ref o'), some (.ref wq), some (.int (i : Int)), some (.ref tq), some (.int ((j + 1 : Nat) : Int)), some (.ref sq), some (.ref dd), none] rfl ?_
          have elS := el_mapT (K := K) (σ := [some (.ref p), some yB, some (.ref o'), some (.ref wq), some (.int (i : Int)), some (.ref tq), some (.int ((j + 1 : Nat) : Int)), some (.ref sq), some (.ref dd), none]) (H := HB) (te := tVar 2) (t1 := tDGet2 (tVar 8) (tVar 9) (tVar 9)) (j := 9) (vs := [9]) (l := s) (o := o') (fun x => V.int ((tauN j x : Nat) : Int)) (ev_var rfl) (ex_t eB hoA) (by have := ids.length_eq; rw [List.length_range] at this; omega) (fun x => rfl) (fun x hx H1 e1 => ev_there (ev_var rfl) (e1 _ _ (eB _ _ gdA)) (fun H2 e2 => ev_var rfl))
          have eN : s.map (fun x => V.int ((tauN j x : Nat) : Int)) = natsV (s.map (tauN j)) := by
            unfold natsV
            rw [List.map_map]
            rfl
          rw [eN] at elS
          refine s_runW ?_
          refine elS HB (Ex.refl _) (fun v H' => kTup K v H' _) fun lq HC hlq eC gC => .inl ⟨lq, _, rfl, sq_of gC, fun t ht => ?_⟩
          have nT := Ex.new (o := .tup (natsV (s.map (tauN j)))) ht
          have eAD := (eB.trans eC).trans nT
          refine ⟨yB, t, doR r (dAt r j), s.map (tauN j), us ++ [x], ds ++ [dAt r j], _, _, _, _, _, rfl, x1A.trans (.of eAD), by rw [show n + (i + 1) = n + i + 1 by omega]; exact bA.ex eAD, eAD _ _ gA, All2.mono (fun v d ⟨t, ht, hs⟩ => ⟨t, ht, ex_t eAD hs⟩) dA, by rw [List.length_append, ul]; rfl, hvB.ex (eC.trans nT), st_of upd_same, by rw [lenD, rl], tlD, kD, by rw [rl] at tabD; omega, fun rest hrest => ?_⟩
          rw [List.append_assoc]
          refine way _ (.cons dn ?_)
          rw [da]
          exact hrest
    · obtain ⟨v', o', r, s, us, ds, y4, y5, y6, y7, y8, rfl, x2, b2, g2, d2, ul, hv2, ho2, rl, tlr, kr, tb, way⟩ := hW
      rw [Int.toNat_natCast] at tb ul b2
      have t0 : tab s r.length r.length = [] := by
        rw [rl]
        exact List.length_eq_zero_iff.mp (by omega)
      have w0 := way [] (.nil t0)
      rw [List.append_nil] at w0
      refine ret_run ?_
      refine ⟨.ref wq, rfl, ?_⟩
      refine q wq us ds H2 (fun c o h1 h => x2 c o h1 (fun z => by rw [z, hwq] at h; cases h) (e1 c o h)) (b2.le (by omega)) hwq nwp g2 d2 w0
end
end K29
set_option maxHeartbeats 4000000
namespace K29
open PySem PySem.Spec PyProof.Rows L2 Evl HH RZ
section
variable {P : Program} {w : World} {K : PySem.W.Frag} {mg : Str → Option Value} {base : Heap}
theorem ok_law_detour {f f1 f2 : Addr} {fd fd1 fd2 : FuncData} (F : FnP K "_law_detour" s_law_detour f fd) (g : mg "_law_detour" = some (.ref f)) (b : Binds K fd ["_law_box", "_law_pen", "_law_went"] []) (h_law_lets : Has P w K mg base 1 "_law_lets" ["_law_row_now", "_law_place"] (spCanPass K) f1 fd1) (h_law_of : Has P w K mg base 2 "_law_of" ["_law_box", "_law_pool"] (spOf K) f2 fd2)
    (m_len : mg "len" = none) (m_range : mg "range" = none) : Has P w K mg base 3 "_law_detour" ["_law_box", "_law_pen", "_law_went"] (spDetour K) f fd := by
  refine ⟨F.ok sc_law_detour (fun vs H Q E h => ?_) (fun cdv A outer s H vs Q E hr h => ?_), g, F.kp, b⟩
  · obtain ⟨p, v, wq, rs, us, ds, n, rfl, _⟩ := h
    rfl
  · obtain ⟨p, v, wq, rs, us, ds, n, rfl, hv, hl, gw, nwp, hd, ul, hb, hn, q⟩ := h
    refine ⟨_, PSs.nox (pss_cons (ps_setLc (i := 4) (own := [("_law_at", 3)]) (g := gName 3) (by rfl) sc_law_detour.nd rfl rfl (sw_true rfl rfl rfl (by decide +kernel)) (pi_range2 (by rfl) m_range (pa_cons pe_int (pa_cons (pe_callB call_len_seq (by rfl) m_len PySem.boot_len (pa_cons (pv 1) pa_nil)) pa_nil))) (blkOk_by (own := [("_law_at", 3)]) (N := ["_law_box", "_law_pen", "_law_went", "_law_at", "_law_some"]) (sc := defScope s_law_detour) (by decide +kernel)) (fun _ _ _ _ _ => (pg_name (i := 3) sc_law_detour.nd rfl (Or.inl rfl))) (fun _ _ _ _ _ => (pts_one (pt_val (pe_call h_law_lets.G (hr.mono (by decide)) (by rfl) h_law_lets.g h_law_lets.kp h_law_lets.b .nil pass0 (pa_cons (pv 1) (pa_cons (pv 3) pa_nil)))))) (fun _ _ _ _ _ => (pv 3)))
      (pss_cons (ps_if (pt_cmpR (op_eqD hr.units) (pv 4) (pe_lst pa_nil) (nomark _)) (pss_one (ps_ret (pv 2))) pss_nil)
      (pss_cons (ps_set (i := 3) sc_law_detour.nd rfl (.inl rfl) (pe_call h_law_of.G (hr.mono (by decide)) (by rfl) h_law_of.g h_law_of.kp h_law_of.b .nil pass0 (pa_cons (pv 0) (pa_cons (pv 4) pa_nil))))
      (pss_one (ps_ret (pe_op op_cat (pe_lst (pa_cons (pe_tup (pa_cons pe_str (pa_cons (pv 3) pa_nil))) (pa_cons (pe_tup (pa_cons pe_str (pa_cons (pe_op op_sub (pv 3) pe_int) pa_nil))) pa_nil))) (pv 2))))))), ?_⟩
    refine q_asgL (el_lcR2 (σ := [some (.ref p), some v, some (.ref wq), none, none]) (j := 3) (vs := [3]) (te := tVar 3) (lo := 1) (n := (rs.length : Int)) (m := rs.length - 1) (fun j => letsN rs (j + 1)) (fun j => .int (1 + (j : Int))) (ea_cons ev_c (ea_cons (ev_lenR (K := K) (ev_var rfl) hv) ea_nil)) ⟨by decide, by decide, by omega, by omega⟩ (by omega) (fun x => rfl) (fun j H1 e1 hj => et_B (ev_call (ea_cons (ev_var (i := 1) rfl) (ea_cons (show Ev _ _ _ (.int ((j + 1 : Nat) : Int)) from ev_is (ev_var rfl) (by congr 1; omega)) ea_nil)) (fun H9 e9 Q9 k9 E9 => ⟨v, rs, j + 1, rfl, (hv.ex e1).ex e9, by omega, fun H10 e10 => k9 H10 e10⟩))) (fun j H1 e1 hj _ => ev_var rfl)) fun la H1 hla e1 g1 => ?_
    refine s_at [some (.ref p), some v, some (.ref wq), none, some (.ref la)] rfl ?_
    have gn : given (rs.length - 1) (fun j => letsN rs (j + 1)) (fun j => V.int (1 + (j : Int))) = (((List.range (rs.length - 1)).filter (fun j => letsN rs (j + 1))).map fun (i : Nat) => 1 + (i : Int)).map V.int := by
      unfold given
      rw [List.map_map]
      rfl
    have b1 := hb.ex e1
    refine q_when (b := (given (rs.length - 1) (fun j => letsN rs (j + 1)) (fun j => V.int (1 + (j : Int)))).isEmpty) (et_test (ev_eqNil (k := 0) (ev_var rfl) (sq_of g1) (by rw [gn]; exact dp_ints _) (nice_ints _) (by decide))) (fun _ H2 e2 => s_ret (v := .ref wq) (ev_var rfl) fun H3 e3 => q wq us ds H3 (.of (e1.trans (e2.trans e3))) ((hb.ex (e1.trans (e2.trans e3))).le (by omega)) nwp ((e1.trans (e2.trans e3)) _ _ gw) (deeds_ex (e1.trans (e2.trans e3)) hd) (by omega) (fun d hd => .inl hd)) fun z H2 e2 => ?_
    have pos : 0 < (given (rs.length - 1) (fun j => letsN rs (j + 1)) (fun j => V.int (1 + (j : Int)))).length := by
      cases c : given (rs.length - 1) (fun j => letsN rs (j + 1)) (fun j => V.int (1 + (j : Int))) with
      | nil =>
        rw [c] at z
        cases z
      | cons a b => exact Nat.succ_pos _
    have few := given_len (rs.length - 1) (fun j => letsN rs (j + 1)) (fun j => V.int (1 + (j : Int)))
    have b2 := hb.ex (e1.trans e2)
    refine q_run ?_
    refine ⟨.ref p, rfl, .ref la, rfl, p, la, _, n, rfl, sq_of (e2 _ _ g1), pos, by omega, (hb.ne hla).symm, b2, by omega, fun r x H3 hx x3 b3 => ?_⟩
    obtain ⟨k, rfl, hk, hm⟩ := given_get hx
    refine s_at [some (.ref p), some v, some (.ref wq), some (.int (1 + (k : Int))), some (.ref la)] rfl ?_
    have gw3 : H3 wq = some (.lst us) := x3 _ _ nwp ((e1.trans e2) _ _ gw)
    obtain ⟨bl2, hbl2⟩ := b2.lst
    have hd3 : All2 (DeedAt K H3) us ds := deeds_exB x3 hbl2 (deeds_ex (e1.trans e2) hd)
    have xx3 : ExB p H H3 := (ExB.of (e1.trans e2)).trans x3
    refine ret_run ?_
    refine ⟨.int (1 + (k : Int)), rfl, by show 2 ≤ sizeLine; decide, fun t1 ht1 => ?_⟩
    have n1 := Ex.new (o := .tup [.str (Str.ofString "pass"), .int (1 + (k : Int))]) ht1
    have gt1 : (upd H3 t1 (.tup [V.str (Str.ofString "pass"), .int (1 + (k : Int))])) t1 = some (.tup [V.str (Str.ofString "pass"), .int (1 + (k : Int))]) := upd_same
    try dsimp only
    generalize upd H3 t1 (.tup [V.str (Str.ofString "pass"), .int (1 + (k : Int))]) = H4 at gt1 n1 ⊢
    refine (ev_is (ev_op (ev_var rfl) ev_c rv_I0) (by congr 1; omega) : Ev (tOp (rI0 fun i j => .int (i - j)) (tVar 3) (tC (.int 1))) [some (.ref p), some v, some (.ref wq), some (.int (1 + (k : Int))), some (.ref la)] H4 (.int (k : Int))) H4 (Ex.refl _) _ fun H5 e5 => ?_
    refine ⟨by show 2 ≤ sizeLine; decide, fun t2 ht2 => ?_⟩
    have n2 := Ex.new (o := .tup [.str (Str.ofString "fall"), .int (k : Int)]) ht2
    have gt2 : (upd H5 t2 (.tup [V.str (Str.ofString "fall"), .int (k : Int)])) t2 = some (.tup [V.str (Str.ofString "fall"), .int (k : Int)]) := upd_same
    try dsimp only
    generalize upd H5 t2 (.tup [V.str (Str.ofString "fall"), .int (k : Int)]) = H6 at gt2 n2 ⊢
    refine ⟨by show 2 ≤ sizeLine; decide, fun lq hlq => ?_⟩
    have n3 := Ex.new (o := .lst [.ref t1, .ref t2]) hlq
    have gl : (upd H6 lq (.lst [V.ref t1, .ref t2])) lq = some (.lst [.ref t1, .ref t2]) := upd_same
    try dsimp only
    generalize upd H6 lq (.lst [V.ref t1, .ref t2]) = H7 at gl n3 ⊢
    have e37 := ((n1.trans e5).trans n2).trans n3
    refine ⟨.ref wq, rfl, lq, wq, [.ref t1, .ref t2], us, rfl, rfl, gl, e37 _ _ gw3, sz_of (by show 2 + us.length ≤ 100000; omega), fun c hc => ?_⟩
    have nc := Ex.new (o := .lst ([.ref t1, .ref t2] ++ us)) hc
    have e38 := e37.trans nc
    refine q c _ ((true, 1 + k) :: (false, k) :: ds) _ (xx3.trans (.of e38)) (b3.ex e38) (fun z => ?_) upd_same (.cons ⟨t1, rfl, ?_⟩ (.cons ⟨t2, rfl, ?_⟩ (deeds_ex e38 hd3))) (by simp) (fun d hd => ?_)
    · rw [z] at hc
      obtain ⟨bl3, hbl3⟩ := b3.lst
      rw [e37 _ _ hbl3] at hc
      cases hc
    · refine st_of ?_
      rw [nc _ _ ((((e5.trans n2).trans n3)) _ _ gt1)]
      rfl
    · refine st_of ?_
      rw [nc _ _ (n3 _ _ gt2)]
      rfl
    · rcases List.mem_cons.mp hd with z | hd
      · rw [z]
        exact .inr (by show 1 + k ≤ 30; omega)
      · rcases List.mem_cons.mp hd with z | hd
        · rw [z]
          exact .inr (by show k ≤ 30; omega)
        · exact .inl hd
end
end K29
set_option maxHeartbeats 4000000
namespace HH
open PySem PySem.Spec PyProof.Rows L2
def Mk4 (m : Nat) : Prop := MaskOk m ∨ m = 511
def from0 : Nat → Nat → List Nat
  | 0, _ => []
  | n + 1, x => x :: from0 n ((x * 5 + 1) % 512)
theorem from0_at : ∀ (n a b : Nat), b < n → (from0 n (lcgN 511 a))[b]? = some (lcgN 511 (a + b))
  | 0, _, _, c => absurd c (Nat.not_lt_zero _)
  | n + 1, a, 0, _ => rfl
  | n + 1, a, b + 1, c => by
    have z := from0_at n (a + 1) b (Nat.lt_of_succ_lt_succ c)
    rw [show a + 1 + b = a + (b + 1) by omega] at z
    exact z
theorem from0_all : ((List.range 512).all fun j => (from0 512 0).contains j) = true := by decide +kernel
theorem from0_end : lcgN 511 512 = 0 := by decide +kernel
theorem met511 {j : Nat} (c : j ≤ 511) : ∃ b, b ≤ 511 ∧ lcgN 511 b = j := by
  have z := List.all_eq_true.mp from0_all j (List.mem_range.mpr (by omega))
  obtain ⟨b, hb, e⟩ := List.getElem_of_mem (List.contains_iff_mem.mp z)
  have hl : ∀ n x, (from0 n x).length = n := fun n => by
    induction n with
    | zero => intro x; rfl
    | succ n ih => intro x; show (from0 n _).length + 1 = n + 1; rw [ih]
  have hb' : b < 512 := by rw [hl] at hb; exact hb
  refine ⟨b, by omega, ?_⟩
  have y := from0_at 512 0 b hb'
  rw [Nat.zero_add] at y
  have y2 : (from0 512 0)[b]? = some (lcgN 511 b) := y
  rw [List.getElem?_eq_getElem hb, e] at y2
  exact (Option.some.inj y2).symm
theorem round511 : ∀ k, lcgN 511 (512 + k) = lcgN 511 k
  | 0 => from0_end
  | k + 1 => by
    have z := round511 k
    show (lcgN 511 (512 + k) * 5 + 1) % 512 = (lcgN 511 k * 5 + 1) % 512
    rw [z]
theorem mk4_all {m i j : Nat} (c : Mk4 m) (hi : i ≤ m) (hj : j ≤ m) : ∃ k, k ≤ m ∧ lcgI m i k = j := by
  rcases c with c | rfl
  · exact lcgI_all c hi hj
  obtain ⟨a, ha, rfl⟩ := met511 hi
  obtain ⟨b, hb, rfl⟩ := met511 hj
  by_cases d : a ≤ b
  · exact ⟨b - a, by omega, by rw [lcgN_add, show a + (b - a) = b by omega]⟩
  · exact ⟨512 + b - a, by omega, by rw [lcgN_add, show a + (512 + b - a) = 512 + b by omega, round511]⟩
theorem mk4_run {m j : Nat} (c : Mk4 m) (g : Int) (hj : j ≤ m) : ∃ n, n ≤ m + 12 ∧ runI m (SetTable.bits g) n = j := by
  obtain ⟨k, hp1, h2⟩ := mk4_all c (runI_le m (SetTable.bits g) 12) hj
  exact ⟨12 + k, by omega, (runI_tail (bits_lt g) k).trans h2⟩
theorem mk4_first {m : Nat} (c : Mk4 m) (g : Int) {ps : List Nat} (hl : ps.length ≤ m) : ∃ K n, K < 10 * SetTable.turns m ∧ n < SetTable.turns m ∧ K ≤ off m (SetTable.bits g % (m + 1)) (SetTable.bits g) n ∧ way m g K ∉ ps ∧ way m g K ≤ m ∧ ∀ k, k < K → way m g k ∈ ps := by
  obtain ⟨j, hp1, h2⟩ := st_missing ps (m + 1) (by omega)
  obtain ⟨n, h3, h4⟩ := mk4_run c g (show j ≤ m by omega)
  have e : way m g (off m (SetTable.bits g % (m + 1)) (SetTable.bits g) n) = j := by
    have z := nth_off m n (SetTable.bits g % (m + 1)) (SetTable.bits g)
    rw [itL_run] at z
    exact (congrArg SetTable.Probe.j z).trans h4
  have ob : ∀ n i b, i ≤ m → off m i b n ≤ 10 * n := fun n => by
    induction n with
    | zero => intro i b _; exact Nat.le_refl _
    | succ n ih =>
      intro i b hi
      have r := (runEnd_bd hi).2.2
      have z := ih (SetTable.leap m i b).1 (SetTable.leap m i b).2 (leap_le m i b)
      show (SetTable.runEnd m i - i + 1) + off m (SetTable.leap m i b).1 (SetTable.leap m i b).2 n ≤ 10 * (n + 1)
      omega
  have bo := ob n (SetTable.bits g % (m + 1)) (SetTable.bits g) (Nat.le_of_lt_succ (Nat.mod_lt _ (Nat.succ_pos _)))
  obtain ⟨K, k1, k2, k3⟩ := st_least (p := fun k => way m g k ∉ ps) _ (by rw [e]; exact h2)
  have wl : ∀ k, way m g k ≤ m := fun k => by
    have hi : SetTable.bits g % (m + 1) ≤ m := Nat.le_of_lt_succ (Nat.mod_lt _ (Nat.succ_pos _))
    have r := runEnd_bd hi
    have q := nth_in k (runAt m (SetTable.bits g % (m + 1)) (SetTable.bits g)) (m := m) (by
      show SetTable.bits g % (m + 1) + (SetTable.runEnd m (SetTable.bits g % (m + 1)) - SetTable.bits g % (m + 1)) ≤ m
      clear bo k1 k2 k3 e
      omega)
    exact Nat.le_trans (Nat.le_add_right _ _) q
  refine ⟨K, n, by unfold SetTable.turns; omega, by unfold SetTable.turns; omega, k1, k2, wl K, fun k hk => ?_⟩
  exact Classical.byContradiction fun no => k3 k hk no
structure OwnN (m n : Nat) (ow : Array (Option Nat)) : Prop where
  sz : ow.size = m + 1
  ps : ∃ ps : List Nat, ps.Nodup ∧ ps.length = n ∧ (∀ j, j ≤ m → (oAt ow j ≠ none ↔ j ∈ ps)) ∧ ∀ j ∈ ps, j ≤ m
  low : ∀ j k, j ≤ m → oAt ow j = some k → k < n
theorem OwnN.new (m : Nat) : OwnN m 0 (Array.replicate (m + 1) none) :=
  ⟨by simp, ⟨[], List.nodup_nil, rfl, fun j hj => ⟨fun z => absurd (oAt_init hj) z, fun z => nomatch z⟩, fun j z => nomatch z⟩, fun j k hj e => by rw [oAt_init hj] at e; exact nomatch e⟩
theorem OwnN.next {m n : Nat} {ow : Array (Option Nat)} (c : Mk4 m) (W : OwnN m n ow) (hn : n ≤ m) (g : Int) :
    ∃ j, SetTable.layClean.free m ow (SetTable.turns m) (SetTable.bits g % (m + 1)) (SetTable.bits g) = some j ∧ OwnN m (n + 1) (ow.setIfInBounds j (some n)) := by
  obtain ⟨ps, p1, p2, p3, p4⟩ := W.ps
  obtain ⟨K, q, _, a2, a3, a4, a5, a6⟩ := mk4_first c g (ps := ps) (by omega)
  have wl : ∀ k, k < K → way m g k ≤ m := fun k hk => p4 _ (a6 k hk)
  have fr : oAt ow (way m g K) = none := Classical.byContradiction fun no => a4 ((p3 _ a5).mp no)
  refine ⟨way m g K, free_spec m ow _ q _ _ K a2 a3 (fun k hk => ?_) (by show (oAt ow (way m g K)).isNone = true; rw [fr]; rfl), by rw [Array.size_setIfInBounds]; exact W.sz, ⟨way m g K :: ps, ?_, ?_, fun j hj => ?_, fun j hj => ?_⟩, fun j k hj e => ?_⟩
  · have z := (p3 _ (wl k hk)).mpr (a6 k hk)
    show (oAt ow (way m g k)).isNone = false
    revert z
    cases oAt ow (way m g k) with
    | none => exact fun z => absurd rfl z
    | some _ => exact fun _ => rfl
  · exact List.nodup_cons.mpr ⟨a4, p1⟩
  · rw [List.length_cons, p2]
  · by_cases d : j = way m g K
    · rw [d, oAt_set_self _ (by rw [W.sz]; omega)]
      exact ⟨fun _ => List.mem_cons_self, fun _ z => nomatch z⟩
    · rw [oAt_set_ne _ d, p3 j hj, List.mem_cons]
      exact ⟨.inr, fun z => z.resolve_left d⟩
  · rcases List.mem_cons.mp hj with d | d
    · rw [d]; exact a5
    · exact p4 j d
  · by_cases d : j = way m g K
    · rw [d, oAt_set_self _ (by rw [W.sz]; omega)] at e
      cases e
      exact Nat.lt_succ_self _
    · rw [oAt_set_ne _ d] at e
      exact Nat.lt_succ_of_lt (W.low j k hj e)
section
variable {w : World} {P : Program} {s : Shared} {A : Around} {E : Value → Shared → Prop}
structure SetH (h : Heap) (a : Addr) (gs : List Int) (es : Array (Int × Value)) (ep : Nat) (t : SetTable) : Prop where
  ob : ∃ z, h.get? a = some z ∧ z.ExactSet ∧ z.data = .set es ep t
  sz : es.size = gs.length
  sub : ∀ e ∈ es.toList, e.1 ∈ gs
  ris : Ris t.place.toList
  pz : t.place.size = gs.length
  dm : t.dummies = #[]
  mok4 : Mk4 t.mask
  pl : t.plain = true
  room : gs.length * 5 < t.mask * 3
variable {a : Addr} {gs : List Int} {es : Array (Int × Value)} {ep : Nat} {t : SetTable}
end
end HH
set_option maxHeartbeats 4000000
namespace HH
open PySem PySem.Spec PyProof.Rows L2
section
variable {w : World} {P : Program} {s : Shared} {A : Around} {E : Value → Shared → Prop}
theorem SetH.keep {h h' : Heap} {a : Addr} {gs : List Int} {es : Array (Int × Value)} {ep : Nat} {t : SetTable} (R : SetH h a gs es ep t) (k : ∀ z, h.get? a = some z → h'.get? a = some z) : SetH h' a gs es ep t := by
  obtain ⟨z, h1, h2⟩ := R.ob
  exact { R with ob := ⟨z, k z h1, h2⟩ }
abbrev newS (w : World) : Obj := { cls := .type "set", dict := none, data := .set #[] 0 (.fresh 0 0 (!w.params.followText "set-order")) }
theorem SetH.new {h : Heap} {a : Addr} (e : h.get? a = some (newS w)) : SetH h a [] #[] 0 (.fresh 0 0 (!w.params.followText "set-order")) where
  ob := ⟨_, e, ⟨rfl, rfl, rfl⟩, rfl⟩
  sz := rfl
  sub := fun _ z => nomatch z
  ris := List.Pairwise.nil
  pz := rfl
  dm := rfl
  mok4 := .inl (.inl rfl)
  pl := rfl
  room := by show 0 * 5 < 7 * 3; decide
end
section
variable {X : Cx}
end
end HH
set_option maxHeartbeats 4000000
namespace HH
open PySem PySem.Spec PyProof.Rows L2
end HH
set_option maxHeartbeats 4000000
namespace HH
open PySem PySem.Spec PyProof.Rows L2 Evl RZ
theorem tab_most (l : List Nat) (n : Nat) : ∀ m y : Nat, m + y = n → 2 * (tab l n m).length + y * (y - 1) ≤ n * (n - 1)
  | 0, y, e => by
    have : y = n := by omega
    subst this
    show 2 * 0 + _ ≤ _
    omega
  | m + 1, y, e => by
    have z := tab_most l n m (y + 1) (by omega)
    have hr : (tabR l n m (n - (m + 1))).length ≤ y := by
      unfold tabR
      rw [List.length_map]
      have := List.length_filter_le (inP l m) (List.range (n - (m + 1)))
      rw [List.length_range] at this
      omega
    rw [tab_succ, List.length_append]
    have e2 : (y + 1) * (y + 1 - 1) = y * (y - 1) + 2 * y := by
      cases y with
      | zero => rfl
      | succ x =>
        show (x + 1 + 1) * (x + 1) = (x + 1) * x + 2 * (x + 1)
        rw [Nat.add_mul (x + 1) 1 (x + 1), Nat.mul_add (x + 1) x 1]
        omega
    omega
theorem tab_276 (l : List Nat) {n : Nat} (h : n ≤ 24) : (tab l n n).length ≤ 276 := by
  have z := tab_most l n n 0 rfl
  have y : n * (n - 1) ≤ 24 * 23 := Nat.mul_le_mul h (by omega)
  omega
section
variable {K : PySem.W.Frag} {σ : L2.St} {H H' : Hp} {ta tb tc td te : TE} {x y v : V} {Q : VK}
end
end HH
set_option maxHeartbeats 4000000
namespace HH
open PySem PySem.Spec PyProof.Rows L2 Evl RZ
theorem deed_da {P : Addr → Prop} {K : PySem.W.Frag} {c : Nat} {H : Hp} {v : V} {d : Deed} (h : DeedAt K H v d) (b : d.2 ≤ 1000) : Da P K c H 1 v (deedD d) := by
  obtain ⟨t, rfl, hs⟩ := h
  refine da_tup hs ⟨rfl, fun i x e hx he => ?_⟩
  match i, hx, he with
  | 0, hx, he =>
    cases hx
    cases he
    refine ⟨rfl, ?_⟩
    cases d.1 <;> exact ⟨by decide +kernel, by decide +kernel⟩
  | 1, hx, he =>
    cases hx
    cases he
    refine ⟨rfl, ?_⟩
    have : (10 : Nat) ^ 30 = 1000000000000000000000000000000 := by decide
    omega
  | i + 2, hx, he => cases hx
theorem deeds_da {P : Addr → Prop} {K : PySem.W.Frag} {c : Nat} {H : Hp} {a : Addr} {us : List V} {ds : List Deed} (h : All2 (DeedAt K H) us ds) (g : H a = some (.lst us)) (n : ¬ P a) (b : ∀ d ∈ ds, d.2 ≤ 1000) : Da P K c H 2 (.ref a) (.list (ds.map deedD)) := by
  refine da_lst n g ⟨by rw [List.length_map]; exact All2.len h, fun i x e hx he => ?_⟩
  rw [List.getElem?_map] at he
  cases hd : ds[i]? with
  | none => rw [hd] at he; cases he
  | some d =>
    rw [hd] at he
    cases he
    obtain ⟨z, hz, hz2⟩ := All2.get h hx
    rw [hd] at hz
    cases hz
    exact deed_da hz2 (b d (List.mem_of_getElem? hd))
theorem deeds_wt : ∀ ds : List Deed, wtDs (ds.map deedD) = 116 * ds.length
  | [] => rfl
  | d :: ds => by
    show wtD (deedD d) + 2 + wtDs (ds.map deedD) = _
    rw [deeds_wt ds, List.length_cons]
    show (10 + (50 + 2 + (50 + 2 + 0))) + 2 + _ = _
    omega
theorem deeds_wtL (ds : List Deed) : wtD (.list (ds.map deedD)) = 10 + 116 * ds.length := by
  show 10 + wtDs _ = _
  rw [deeds_wt]
def GoodV (K : PySem.W.Frag) (H : Hp) (us : List V) : Prop := ∀ u ∈ us, ∃ d, DeedAt K H u d ∧ d.2 ≤ 1000
theorem GoodV.ex {K : PySem.W.Frag} {H H' : Hp} {us : List V} (e : Ex H H') (h : GoodV K H us) : GoodV K H' us := fun u hu => by
  obtain ⟨d, ⟨t, ht, hs⟩, b⟩ := h u hu
  exact ⟨d, ⟨t, ht, ex_t e hs⟩, b⟩
theorem GoodV.app {K : PySem.W.Frag} {H : Hp} {us ws : List V} (h : GoodV K H us) (g : GoodV K H ws) : GoodV K H (us ++ ws) := fun u hu => (List.mem_append.mp hu).elim (h u) (g u)
theorem GoodV.rev {K : PySem.W.Frag} {H : Hp} {us : List V} (h : GoodV K H us) : GoodV K H us.reverse := fun u hu => h u (List.mem_reverse.mp hu)
theorem GoodV.cut {K : PySem.W.Frag} {H : Hp} {us : List V} {lo hi : Option Int} (h : GoodV K H us) : GoodV K H (cutV us lo hi) := fun u hu => h u (by
  unfold cutV at hu
  exact List.mem_of_mem_drop (List.mem_of_mem_take hu))
theorem cut_less (us : List V) (lo hi : Option Int) : (cutV us lo hi).length ≤ us.length := by
  unfold cutV
  rw [List.length_take, List.length_drop]
  omega
theorem goodV_all {K : PySem.W.Frag} {H : Hp} : ∀ {us : List V}, GoodV K H us → ∃ ds : List Deed, All2 (DeedAt K H) us ds ∧ ∀ d ∈ ds, d.2 ≤ 1000
  | [], _ => ⟨[], .nil, fun _ h => by cases h⟩
  | u :: us, h => by
    obtain ⟨d, hd, b⟩ := h u (List.mem_cons_self ..)
    obtain ⟨ds, hds, bs⟩ := goodV_all (us := us) fun x hx => h x (List.mem_cons_of_mem _ hx)
    exact ⟨d :: ds, .cons hd hds, fun x hx => (List.mem_cons.mp hx).elim (fun z => z ▸ b) (bs x)⟩
theorem goodV_of {K : PySem.W.Frag} {H : Hp} {us : List V} {ds : List Deed} (h : All2 (DeedAt K H) us ds) (b : ∀ d ∈ ds, d.2 ≤ 1000) : GoodV K H us := fun u hu => by
  obtain ⟨i, hi⟩ := List.mem_iff_getElem?.mp hu
  obtain ⟨z, hz, hz2⟩ := All2.get h hi
  exact ⟨z, hz2, b z (List.mem_of_getElem? hz)⟩
theorem goodV_da {K : PySem.W.Frag} {c : Nat} {H : Hp} {a : Addr} {us : List V} (h : GoodV K H us) (g : H a = some (.lst us)) (l : us.length ≤ 344) : ∃ d, Da (fun _ => False) K c H 2 (.ref a) d ∧ wtD d ≤ 40000 := by
  obtain ⟨ds, hds, bs⟩ := goodV_all h
  refine ⟨_, deeds_da hds g (fun z => z) bs, ?_⟩
  rw [deeds_wtL, ← All2.len hds]
  omega
def EvOp (to : TO) (σ : L2.St) (H : Hp) (o : Option Int) : Prop := ∀ H1, Ex H H1 → ∀ Q, (∀ H2, Ex H1 H2 → Q o H2) → to σ H1 Q
theorem eop_none {σ : L2.St} {H : Hp} : EvOp tNoPart σ H none := fun H1 e1 Q q => q H1 (Ex.refl _)
theorem eop_part {te : TE} {σ : L2.St} {H : Hp} {i : Int} (h : Ev te σ H (.int i)) : EvOp (tPart te) σ H (some i) := fun H1 e1 Q q => h H1 e1 _ fun H2 e2 => ⟨i, rfl, q H2 e2⟩
theorem el_cutV {K : PySem.W.Frag} {te : TE} {lo hi : TO} {x y : Option Int} {σ : L2.St} {H : Hp} {a : Addr} {us : List V} (h : Ev te σ H (.ref a)) (g : H a = some (.lst us)) (h1 : EvOp lo σ H x) (h2 : EvOp hi σ H y) : EvL (tSl (rSlL K) te lo hi) σ H (cutV us x y) := fun H1 e1 Q q =>
  h H1 e1 _ fun H2 e2 => h1 H2 (e1.trans e2) _ fun H3 e3 => h2 H3 ((e1.trans e2).trans e3) _ fun H4 e4 => ⟨a, us, rfl, sq_of (((e1.trans e2).trans (e3.trans e4)) _ _ g), fun p hp => q p _ (fresh_back ((e2.trans e3).trans e4) hp) (((e2.trans e3).trans e4).trans (Ex.new hp)) upd_same⟩
theorem wayN_place : ∀ {r : HH.Row} {l : List Nat} {ds : List Deed}, WayN r l ds → (∀ x ∈ r, 0 ≤ x.2) → Keeps r l → ∀ d ∈ ds, d.2 < r.length
  | _, _, _, .nil _, _, _ => fun _ h => by cases h
  | _, _, _, .cons (d := d) hd h, tl, k => fun x hx => by
    obtain ⟨tlD, lenD, kD, _⟩ := near_step tl k hd
    rcases List.mem_cons.mp hx with z | z
    · rw [z]
      have ok := (near_ok hd).1
      unfold okD at ok
      split at ok
      · exact ok.1
      · omega
    · have := wayN_place h tlD kD x z
      omega
theorem cut_mid2 (us : List V) (k : Nat) : (cutV us (some (k : Int)) (some ((k + 2 : Nat) : Int))).length ≤ 2 := by
  unfold cutV
  rw [HT.sIx_nat, HT.sIx_nat, List.length_take, List.length_drop]
  omega
theorem GoodV.exB {K : PySem.W.Frag} {H H' : Hp} {us ys : List V} {q : Addr} (e : ExB q H H') (hq : H q = some (.lst ys)) (h : GoodV K H us) : GoodV K H' us := fun u hu => by
  obtain ⟨d, ⟨t, ht, hs⟩, b⟩ := h u hu
  exact ⟨d, ⟨t, ht, e.t hq hs⟩, b⟩
theorem lst_four {ta tb tc td : TE} {σ : L2.St} {H : Hp} {Q : VK} {a : Addr} {xs ys zs : List V} (ha : Ev ta σ H (.ref a)) (hb : ∀ H1, Ex H H1 → EvL tb σ H1 xs) (hc : ∀ H1, Ex H H1 → EvL tc σ H1 ys) (hd : ∀ H1, Ex H H1 → EvL td σ H1 zs)
    (k : ∀ it q1 q2 q3 H', H it = none → Ex H H' → H' it = some (.lst [.ref a, .ref q1, .ref q2, .ref q3]) → H' q1 = some (.lst xs) → H' q2 = some (.lst ys) → H' q3 = some (.lst zs) → Q (.ref it) H') : tLst (tCons ta (tCons tb (tCons tc (tCons td tNil)))) σ H Q :=
  ha H (Ex.refl H) _ fun H1 e1 => hb H1 e1 H1 (Ex.refl _) _ fun q1 H2 hq1 e2 g2 => hc H2 (e1.trans e2) H2 (Ex.refl _) _ fun q2 H3 hq2 e3 g3 => hd H3 ((e1.trans e2).trans e3) H3 (Ex.refl _) _ fun q3 H4 hq3 e4 g4 => ⟨by show 4 ≤ sizeLine; decide, fun it hit =>
    have n := Ex.new (o := .lst [.ref a, .ref q1, .ref q2, .ref q3]) hit
    k it q1 q2 q3 _ (fresh_back ((e1.trans e2).trans (e3.trans e4)) hit) (((e1.trans e2).trans (e3.trans e4)).trans n) upd_same (((e3.trans e4).trans n) _ _ g2) ((e4.trans n) _ _ g3) (n _ _ g4)⟩
def spGreatW : Sp := fun vs H Q _ => ∃ (p : Addr) (n : Nat), vs = [.ref p] ∧ Bx H p n ∧ n + 4000 < Lim ∧ ∀ H', ExB p H H' → Q (.bl true) H'
end HH
set_option maxHeartbeats 4000000
namespace K29
open PySem PySem.Spec PyProof.Rows L2 Evl HH RZ
section
variable {P : Program} {w : World} {K : PySem.W.Frag} {mg : Str → Option Value} {base : Heap}
theorem ok_law_great_right {f f1 f2 f3 f4 f5 f6 f7 f8 : Addr} {fd fd1 fd2 fd3 fd4 fd5 fd6 fd7 fd8 : FuncData} (F : FnP K "_law_great_right" s_law_great_right f fd) (g : mg "_law_great_right" = some (.ref f)) (b : Binds K fd ["_law_box"] [])
    (h_law_row : Has P w K mg base 3 "_law_row" ["_law_box", "_law_most"] (spRow K) f1 fd1) (h_law_kept : Has P w K mg base 4 "_law_kept" ["_law_box", "_law_row_now"] (spKeptBy K) f2 fd2) (h_law_near : Has P w K mg base 2 "_law_near" ["_law_box", "_law_queue", "_law_kept_here", "_law_many"] (spNear K) f3 fd3) (h_law_drawn_way : Has P w K mg base 3 "_law_drawn_way" ["_law_box", "_law_pen", "_law_seats"] (spDrawnWay K) f4 fd4) (h_law_take : Has P w K mg base 1 "_law_take" ["_law_box", "_law_many"] spTake f5 fd5) (h_shows_way : Has P w K mg base 6 "shows_way" ["row", "order", "thing"] (spShowsA K) f6 fd6) (h_law_same : Has P w K mg base 4 "_law_same" ["_law_found", "_law_due_here"] (spSame K 4) f7 fd7) (h_law_due : Has P w K mg base 3 "_law_due" ["_law_pen", "_law_seats", "_law_fixed", "_law_item"] (spDueA K) f8 fd8)
    (m_len : mg "len" = none) (m_list : mg "list" = none) (m_range : mg "range" = none) : Has P w K mg base 7 "_law_great_right" ["_law_box"] spGreatW f fd := by
  refine ⟨F.ok sc_law_great_right (fun vs H Q E h => ?_) (fun cdv A outer s H vs Q E hr h => ?_), g, F.kp, b⟩
  · obtain ⟨p, n, rfl, _⟩ := h
    rfl
  · obtain ⟨p, n, rfl, hb, hn, q⟩ := h
    refine ⟨_, PSs.nox (pss_cons (ps_set (i := 1) sc_law_great_right.nd rfl (.inl rfl) (pe_call h_law_row.G (hr.mono (by decide)) (by rfl) h_law_row.g h_law_row.kp h_law_row.b .nil pass0 (pa_cons (pv 0) (pa_cons pe_int pa_nil))))
      (pss_cons (ps_set (i := 2) sc_law_great_right.nd rfl (.inl rfl) (pe_call h_law_kept.G (hr.mono (by decide)) (by rfl) h_law_kept.g h_law_kept.kp h_law_kept.b .nil pass0 (pa_cons (pv 0) (pa_cons (pv 1) pa_nil))))
      (pss_cons (ps_set (i := 3) sc_law_great_right.nd rfl (.inl rfl) (pe_call h_law_near.G (hr.mono (by decide)) (by rfl) h_law_near.g h_law_near.kp h_law_near.b .nil pass0 (pa_cons (pv 0) (pa_cons (pe_listRg rfl (by rfl) m_list (prg_1 (by rfl) m_range (pe_callB call_len_seq (by rfl) m_len PySem.boot_len (pa_cons (pv 1) pa_nil)))) (pa_cons (pv 2) (pa_cons pe_int pa_nil))))))
      (pss_cons (ps_set (i := 4) sc_law_great_right.nd rfl (.inl rfl) (pe_call h_law_drawn_way.G (hr.mono (by decide)) (by rfl) h_law_drawn_way.g h_law_drawn_way.kp h_law_drawn_way.b .nil pass0 (pa_cons (pv 0) (pa_cons (pv 1) (pa_cons (pv 3) pa_nil)))))
      (pss_cons (ps_set (i := 5) sc_law_great_right.nd rfl (.inl rfl) (pe_call h_law_take.G (hr.mono (by decide)) (by rfl) h_law_take.g h_law_take.kp h_law_take.b .nil pass0 (pa_cons (pv 0) (pa_cons (pe_op op_add (pe_callB call_len_seq (by rfl) m_len PySem.boot_len (pa_cons (pv 4) pa_nil)) pe_int) pa_nil))))
      (pss_cons (ps_set (i := 6) sc_law_great_right.nd rfl (.inl rfl) (pe_lst (pa_cons (pv 4) (pa_cons (pe_op op_cat (pe_op op_cat (pe_slice sl_list (pv 4) po_none (po_some (pv 5))) (pe_revL (pe_slice sl_list (pv 4) (po_some (pv 5)) (po_some (pe_op op_add (pv 5) pe_int))))) (pe_slice sl_list (pv 4) (po_some (pe_op op_add (pv 5) pe_int)) po_none)) (pa_cons (pe_op op_cat (pe_op op_cat (pe_slice sl_list (pv 4) po_none (po_some (pv 5))) (pe_slice sl_list (pv 4) (po_some (pe_op op_add (pv 5) pe_int)) po_none)) (pe_slice sl_list (pv 4) po_none (po_some pe_int))) (pa_cons (pe_slice sl_list (pv 4) po_none (po_some (pe_un un_neg pe_int))) pa_nil))))))
      (pss_cons (ps_for PassesOwn.never rfl (pi_list (pv 6)) (pg_name (i := 7) sc_law_great_right.nd rfl (Or.inl rfl))
        (pss_one (ps_if (pt_not (pt_val (pe_call h_law_same.G (hr.mono (by decide)) (by rfl) h_law_same.g h_law_same.kp h_law_same.b .nil pass0 (pa_cons (pe_call h_shows_way.G (hr.mono (by decide)) (by rfl) h_shows_way.g h_shows_way.kp h_shows_way.b .nil pass0 (pa_cons (pv 1) (pa_cons (pv 3) (pa_cons (pv 7) pa_nil)))) (pa_cons (pe_call h_law_due.G (hr.mono (by decide)) (by rfl) h_law_due.g h_law_due.kp h_law_due.b .nil pass0 (pa_cons (pv 1) (pa_cons (pv 3) (pa_cons (pv 2) (pa_cons (pv 7) pa_nil))))) pa_nil))))) (pss_one (ps_ret pe_bl)) pss_nil)))
      (pss_one (ps_ret pe_bl))))))))), ?_⟩
    try dsimp only
    refine ⟨.ref p, rfl, p, 24, n, rfl, by omega, by omega, hb, by omega, fun v H2 rs x2 b2 hv r0 rm tm => ?_⟩
    have hl : rs.length ≤ 24 := rm
    have ht : ∀ b ∈ rs, 0 ≤ b.2 := fun b hb => (tm b hb).2.2.1
    refine g_at [some (.ref p), some v, none, none, none, none, none, none] rfl ?_
    refine ⟨.ref p, rfl, v, rfl, p, v, rs, n + 100, rfl, hv, r0, by omega, ht, b2, by omega, fun kp uk E1 B1 H3 sE nE sB nB hkp x3 b3 g3 bs3 => ?_⟩
    have nkp : kp ≠ p := (b2.ne hkp).symm
    have hv3 := hv.exB x3 b2
    refine g_at [some (.ref p), some v, some (.ref kp), none, none, none, none, none] rfl ?_
    refine ⟨.ref p, rfl, ?_⟩
    refine (el_listRg (ev_lenR (K := K) (ev_var rfl) hv3) (by omega) : EvL (tLstRg (tRg1 (tCB (rLenS K) (tCons (tVar 1) tNil)))) [some (.ref p), some v, some (.ref kp), none, none, none, none, none] H3 _) H3 (Ex.refl _) _ fun la H4 hla e4 g4 => ?_
    rw [rg_nats] at g4
    refine ⟨.ref kp, rfl, ?_⟩
    refine ⟨p, la, kp, List.range rs.length, _, uk, 80, n + 2100, Keeps rs, rfl, .inl (sq_of g4), e4 _ _ g3, BeastsT.ex' bs3 e4, nkp, by rw [List.length_range]; exact r0, by rw [List.length_range]; omega, by omega, b3.ex e4, by omega, keeps_self ht, fun A a b C k h => keeps_swap ht sE nE sB nB k h, fun o l H5 x5 b5 ho g5 ll kl => ?_⟩
    refine g_at [some (.ref p), some v, some (.ref kp), some (.ref o), none, none, none, none] rfl ?_
    have hv5 := (hv3.ex e4).exB x5 (b3.ex e4)
    have g35 : H5 kp = some (.lst uk) := x5 _ _ nkp (e4 _ _ g3)
    obtain ⟨bl4, hbl4⟩ := (b3.ex e4).lst
    have bs5 := BeastsT.exB' (BeastsT.ex' bs3 e4) x5 hbl4
    have lp : l.Perm (List.range rs.length) := kl.ids
    refine ⟨.ref p, rfl, v, rfl, .ref o, rfl, p, v, o, rs, l, n + 2180, rfl, hv5, by omega, ht, st_of g5, kl, b5, by omega, fun wq us ds H6 x6 b6 hwq nwp g6 d6 way => ?_⟩
    refine g_at [some (.ref p), some v, some (.ref kp), some (.ref o), some (.ref wq), none, none, none] rfl ?_
    obtain ⟨Lr, _, _, dl⟩ := wayN_run way ht kl
    have t276 := tab_276 l hl
    have ul : us.length ≤ 276 := by rw [All2.len d6]; omega
    have dpl : ∀ d ∈ ds, d.2 ≤ 1000 := fun d hd => by
      have := wayN_place way ht kl d hd
      omega
    have gv6 := goodV_of d6 dpl
    refine ⟨.ref p, rfl, ?_⟩
    refine (ev_op (ev_len (K := K) (ev_var rfl) (sq_of g6)) ev_c rv_I0 : Ev (tOp (rI0 fun i j => .int (i + j)) (tCB (rLenS K) (tCons (tVar 4) tNil)) (tC (.int 1))) [some (.ref p), some v, some (.ref kp), some (.ref o), some (.ref wq), none, none, none] H6 _) H6 (Ex.refl _) _ fun H7 e7 => ?_
    refine ⟨p, _, n + 3180, rfl, by omega, by omega, b6.ex e7, by omega, fun r H8 r0' rlt x8 b8 => ?_⟩
    obtain ⟨k, rfl⟩ : ∃ k : Nat, r = (k : Int) := ⟨r.toNat, by omega⟩
    have g78 : H8 wq = some (.lst us) := x8 _ _ nwp (e7 _ _ g6)
    obtain ⟨bl7, hbl7⟩ := (b6.ex e7).lst
    have gv8 : GoodV K H8 us := (gv6.ex e7).exB x8 hbl7
    obtain ⟨bl5, hbl5⟩ := b5.lst
    have x58 : ExB p H5 H8 := (x6.trans (.of e7)).trans x8
    have hv8 := hv5.exB x58 b5
    have bs8 := BeastsT.exB' bs5 x58 hbl5
    have g38 : H8 kp = some (.lst uk) := x58 _ _ nkp g35
    have ho8 : SqT K H8 o (natsV l) := x58.t hbl5 (st_of g5)
    refine g_at [some (.ref p), some v, some (.ref kp), some (.ref o), some (.ref wq), some (.int (k : Int)), none, none] rfl ?_
    try dsimp only
    obtain ⟨σ0, hσ0⟩ : ∃ σ0 : _root_.L2.St, σ0 = [some (.ref p), some v, some (.ref kp), some (.ref o), some (.ref wq), some (.int (k : Int)), none, none] := ⟨_, rfl⟩
    have e5 : ∀ H, Ev (tVar 5) σ0 H (.int (k : Int)) := fun H => by rw [hσ0]; exact ev_var rfl
    have ew : ∀ H, Ev (tVar 4) σ0 H (.ref wq) := fun H => by rw [hσ0]; exact ev_var rfl
    have e6 : ∀ H, Ev (tOp (rI0 fun i j => .int (i + j)) (tVar 5) (tC (.int 1))) σ0 H (.int ((k + 1 : Nat) : Int)) := fun H => ev_is (ev_op (e5 H) ev_c rv_I0) (by congr 1)
    have e52 : ∀ H, Ev (tOp (rI0 fun i j => .int (i + j)) (tVar 5) (tC (.int 2))) σ0 H (.int ((k + 2 : Nat) : Int)) := fun H => ev_is (ev_op (e5 H) ev_c rv_I0) (by congr 1)
    have em : ∀ H, Ev (tUn (rU fun i => .int (-i)) (tC (.int 1))) σ0 H (.int (-1)) := fun H => ev_un ev_c ru_neg
    have lto : (cutV us none (some (k : Int))).length ≤ k := by
      rw [cut_to, List.length_take]
      omega
    have l276 : ∀ x y, (cutV us x y).length ≤ 276 := fun x y => Nat.le_trans (cut_less us x y) ul
    have lf1 : (cutV us (some ((k + 1 : Nat) : Int)) none).length = us.length - (k + 1) := by rw [cut_from, List.length_drop]
    have lf2 : (cutV us (some ((k + 2 : Nat) : Int)) none).length = us.length - (k + 2) := by rw [cut_from, List.length_drop]
    have lt : (cutV us none (some (k : Int))).length = min k us.length := by rw [cut_to, List.length_take]
    have lm := cut_mid2 us k
    have l1 : (cutV us none (some 1)).length ≤ 1 := by
      have := cut_to us 1
      rw [show ((1 : Nat) : Int) = 1 from rfl] at this
      rw [this, List.length_take]
      omega
    have C1 : ∀ H, H wq = some (.lst us) → EvL (tOp rCat (tOp rCat (tSl (rSlL K) (tVar 4) tNoPart (tPart (tVar 5))) (tRevL K (tSl (rSlL K) (tVar 4) (tPart (tVar 5)) (tPart (tOp (rI0 fun i j => .int (i + j)) (tVar 5) (tC (.int 2))))))) (tSl (rSlL K) (tVar 4) (tPart (tOp (rI0 fun i j => .int (i + j)) (tVar 5) (tC (.int 2)))) tNoPart)) σ0 H _ := fun H gH => el_catNN (el_catNN (el_cutV (ew H) gH eop_none (eop_part (e5 H))) (el_revL (el_cutV (ew H) gH (eop_part (e5 H)) (eop_part (e52 H)))) (by rw [List.length_reverse]; omega)) (el_cutV (ew H) gH (eop_part (e52 H)) eop_none) (by rw [List.length_append, List.length_reverse]; omega)
    have C2 : ∀ H, H wq = some (.lst us) → EvL (tOp rCat (tOp rCat (tSl (rSlL K) (tVar 4) tNoPart (tPart (tVar 5))) (tSl (rSlL K) (tVar 4) (tPart (tOp (rI0 fun i j => .int (i + j)) (tVar 5) (tC (.int 1)))) tNoPart)) (tSl (rSlL K) (tVar 4) tNoPart (tPart (tC (.int 1))))) σ0 H _ := fun H gH => el_catNN (el_catNN (el_cutV (ew H) gH eop_none (eop_part (e5 H))) (el_cutV (ew H) gH (eop_part (e6 H)) eop_none) (by omega)) (el_cutV (ew H) gH eop_none (eop_part ev_c)) (by rw [List.length_append]; omega)
    have C3 : ∀ H, H wq = some (.lst us) → EvL (tSl (rSlL K) (tVar 4) tNoPart (tPart (tUn (rU fun i => .int (-i)) (tC (.int 1))))) σ0 H _ := fun H gH => el_cutV (ew H) gH eop_none (eop_part (em H))
    rw [← hσ0]
    refine q_run ?_
    refine lst_four (ew H8) (fun H e => C1 H (e _ _ g78)) (fun H e => C2 H (e _ _ g78)) (fun H e => C3 H (e _ _ g78)) fun it q1 q2 q3 H9 hit e9 git g1 g2 g3' => ?_
    rw [hσ0]
    refine s_at [some (.ref p), some v, some (.ref kp), some (.ref o), some (.ref wq), some (.int (k : Int)), some (.ref it), none] rfl ?_
    have gv9 := gv8.ex e9
    have IT : ∀ x ∈ [V.ref wq, .ref q1, .ref q2, .ref q3], ∃ (a : Addr) (ws : List V), x = .ref a ∧ H9 a = some (.lst ws) ∧ GoodV K H9 ws ∧ ws.length ≤ 344 := by
      intro x hx
      simp only [List.mem_cons, List.not_mem_nil, or_false] at hx
      rcases hx with rfl | rfl | rfl | rfl
      · exact ⟨wq, us, rfl, e9 _ _ g78, gv9, by omega⟩
      · exact ⟨q1, _, rfl, g1, GoodV.app (GoodV.app (GoodV.cut gv9) (GoodV.rev (GoodV.cut gv9))) (GoodV.cut gv9), by rw [List.length_append, List.length_append, List.length_reverse]; omega⟩
      · exact ⟨q2, _, rfl, g2, GoodV.app (GoodV.app (GoodV.cut gv9) (GoodV.cut gv9)) (GoodV.cut gv9), by rw [List.length_append, List.length_append]; omega⟩
      · exact ⟨q3, _, rfl, g3', GoodV.cut gv9, by have := l276 none (some (-1)); omega⟩
    have hv9 := hv8.ex e9
    have ho9 := ex_t e9 ho8
    have g39 := e9 _ _ g38
    have bs9 := BeastsT.ex' bs8 e9
    refine q_forLn (K := K) (a := it) (ev_var rfl) (sq_of git) (fun i σ' H' => ∃ y, σ' = [some (.ref p), some v, some (.ref kp), some (.ref o), some (.ref wq), some (.int (k : Int)), some (.ref it), y] ∧ Ex H9 H') (fun H1 e1 => ⟨none, rfl, e1⟩) (fun i σ' H' _ hW => ?_) (fun i x σ' H' hx hW => ?_) (fun σ' H' hW => ?_)
    · obtain ⟨y, rfl, e⟩ := hW
      exact sq_of (e _ _ git)
    · obtain ⟨y, rfl, e⟩ := hW
      obtain ⟨a, ws, rfl, ga, gw, lw⟩ := IT x (List.mem_of_getElem? hx)
      refine s_at [some (.ref p), some v, some (.ref kp), some (.ref o), some (.ref wq), some (.int (k : Int)), some (.ref it), some (.ref a)] rfl ?_
      have same : Ev (tCall (spSame K 4) [] E0 (tCons (tCall (spShowsA K) [] E0 (tCons (tVar 1) (tCons (tVar 3) (tCons (tVar 7) tNil)))) (tCons (tCall (spDueA K) [] E0 (tCons (tVar 1) (tCons (tVar 3) (tCons (tVar 2) (tCons (tVar 7) tNil))))) tNil))) [some (.ref p), some v, some (.ref kp), some (.ref o), some (.ref wq), some (.int (k : Int)), some (.ref it), some (.ref a)] H' (.bl true) := fun H10 e10 Q10 k10 => by
        have e9a := e.trans e10
        obtain ⟨d, hd, hw⟩ := goodV_da (c := 0) (gw.ex e9a) (e9a _ _ ga) lw
        refine ⟨v, rfl, .ref o, rfl, .ref a, rfl, fun _ => False, v, .ref a, o, rs, l, d, 0, 2, rfl, hv9.ex e9a, by omega, ex_t e9a ho9, lp, hd, by decide, hw, fun H11 e11 => ?_⟩
        refine ⟨v, rfl, .ref o, rfl, .ref kp, rfl, .ref a, rfl, fun _ => False, v, .ref a, o, kp, rs, E1, B1, l, uk, d, 0, 2, rfl, hv9.ex (e9a.trans e11), by omega, ht, sE, nE, sB, nB, ex_t (e9a.trans e11) ho9, lp, (e9a.trans e11) _ _ g39, BeastsT.ex' bs9 (e9a.trans e11), hd.ex e11, by decide, hw, fun H12 e12 => ?_⟩
        exact ⟨_, _, rfl, .inl ⟨rfl, True.intro⟩, fun H13 e13 => k10 H13 ((e11.trans e12).trans e13)⟩
      refine s_when (b := false) (et_is (et_not (et_B same)) rfl) (fun z => by cases z) fun _ H10 e10 => ⟨_, rfl, e.trans e10⟩
    · obtain ⟨y, rfl, e⟩ := hW
      exact s_ret ev_c fun H10 e10 => q H10 (((((x2.trans x3).trans (.of e4)).trans x5).trans x58).trans (.of (e9.trans (e.trans e10))))
end
end K29
set_option maxHeartbeats 4000000
namespace K29
open PySem PySem.Spec PyProof.Rows L2 Evl HH RZ
section
variable {P : Program} {w : World} {K : PySem.W.Frag} {mg : Str → Option Value} {base : Heap}
theorem pe_revTK {X : Cx} {e : Expr} {te : TE} {k : Nat} {p1 p2 p3 pos : Pos} {K : PySem.W.Frag} (he : PE X e te) (h : X.K = K := by rfl) : PE X (.Subscript e (.Slice none none (some (.UnaryOp .USub (.Constant (.int 1) k p1) p2)) p3) pos) (tRevT K te) := by
  subst h
  exact pe_revT he
theorem op_inTK {X : Cx} {K : PySem.W.Frag} (hu : X.A.units + 65 < cLine) (h : X.K = K := by rfl) : OpR X (compareOp .In) (rInT K) := by
  subst h
  exact op_inT hu
theorem call_list_ofK {X : Cx} {K : PySem.W.Frag} (h : X.K = K := by rfl) : CallR X (.type "list") (rListS K) := by
  subst h
  exact call_list_of
theorem it_good {p a : Addr} {K : PySem.W.Frag} {H : Hp} {xs : List V} (g : GoodV K H xs) (ga : H a = some (.lst xs)) (l : xs.length ≤ 60) (n : a ≠ p) : ItA (· = p) K H (.ref a) := by
  obtain ⟨ds, hds, bs⟩ := goodV_all g
  refine ⟨_, (deeds_da hds ga n bs).to (by decide), ?_⟩
  rw [deeds_wtL, ← All2.len hds]
  omega
theorem ei_good {p : Addr} {K : PySem.W.Frag} {te : TE} {σ : _root_.L2.St} {H : Hp} {xs : List V} (h : EvL te σ H xs) (g : GoodV K H xs) (l : xs.length ≤ 60) (hp : ∃ o, H p = some o) : EvI (· = p) K te σ H := fun H1 e1 Q q => h H1 e1 _ fun a H2 ha e2 g2 => q _ _ e2 (it_good (g.ex (e1.trans e2)) g2 l (fun z => by
    obtain ⟨o, ho⟩ := hp
    rw [z, e1 _ _ ho] at ha
    cases ha))
theorem ei_tupG {p a : Addr} {K : PySem.W.Frag} {te : TE} {σ : _root_.L2.St} {H : Hp} {xs : List V} (h : Ev te σ H (.ref a)) (g : GoodV K H xs) (ga : H a = some (.lst xs)) (l : xs.length ≤ 60) : EvI (· = p) K (tThen te (kTup K)) σ H := fun H1 e1 Q q => h H1 e1 _ fun H2 e2 => .inl ⟨a, xs, rfl, sq_of ((e1.trans e2) _ _ ga), fun t ht => by
    have n := Ex.new (o := .tup xs) ht
    obtain ⟨ds, hds, bs⟩ := goodV_all (g.ex ((e1.trans e2).trans n))
    refine q _ _ (e2.trans n) ⟨.tuple (ds.map deedD), (da_tup (k := 1) (st_of upd_same) ⟨by rw [List.length_map]; exact All2.len hds, fun i x e hx he => ?_⟩).to (by decide), ?_⟩
    · rw [List.getElem?_map] at he
      obtain ⟨z, hz, hz2⟩ := All2.get hds hx
      rw [hz] at he
      cases he
      exact deed_da hz2 (bs z (List.mem_of_getElem? hz))
    · show 10 + wtDs _ ≤ 20000
      rw [deeds_wt, ← All2.len hds]
      omega⟩
theorem el_revW {K : PySem.W.Frag} {te : TE} {σ : _root_.L2.St} {H : Hp} {a : Addr} {xs : List V} (h : Ev te σ H (.ref a)) (hs : SqL K H a xs) : EvL (tRevL K te) σ H xs.reverse := fun H1 e Q q => h H1 e _ fun H2 e2 => ⟨a, xs, rfl, ex_l (e.trans e2) hs, fun p hp => q p _ (fresh_back e2 hp) (e2.trans (Ex.new hp)) upd_same⟩
theorem ite_b {b : Bool} {p q : Prop} (h1 : p) (h2 : q) : if b = true then p else q := by
  cases b
  · exact h2
  · exact h1
theorem at_natN {α : Type} {xs : List α} {j : Nat} {v : α} (h : xs[j]? = some v) : atI xs (j : Int) = some v := by
  have hj := (List.getElem?_eq_some_iff.mp h).1
  unfold atI
  rw [ixN_nat hj]
  exact h
theorem cT9 {ta : TA} {σ : _root_.L2.St} {H : Hp} {Q : VK} (h : ta σ H fun xs H1 => xs.length ≤ sizeLine ∧ ∀ p, H1 p = none → Q (.ref p) (upd H1 p (.tup xs))) : tTup ta σ H Q := h
theorem cC9 {te : TE} {tr : TA} {σ : _root_.L2.St} {H : Hp} {Q : List V → Hp → Prop} (h : te σ H fun v H1 => tr σ H1 fun vs H2 => Q (v :: vs) H2) : tCons te tr σ H Q := h
theorem das_bl {b : Bool} {P : Addr → Prop} {K : PySem.W.Frag} {c k : Nat} {H : Hp} : Da P K c H k (.bl b) (.bool b) := da_atom rfl
theorem da_word {P : Addr → Prop} {K : PySem.W.Frag} {c k : Nat} {H : Hp} {b : Bool} : Da P K c H k (.str (wordOf b)) (.str (wordOf b)) := da_atom ⟨rfl, by cases b <;> exact ⟨by decide +kernel, by decide +kernel⟩⟩
theorem da_nat {P : Addr → Prop} {K : PySem.W.Frag} {c k : Nat} {H : Hp} {n : Nat} (h : n ≤ 1000) : Da P K c H k (.int (n : Int)) (.int (n : Int)) := da_atom ⟨rfl, by
  have : (10 : Nat) ^ 30 = 1000000000000000000000000000000 := by decide
  omega⟩
theorem ei_lcG {P : Addr → Prop} {K : PySem.W.Frag} {te te2 : TE} {g : TG} {σ : _root_.L2.St} {H : Hp} {a : Addr} {us : List V} {vs : List Nat} (h : Ev te σ H (.ref a)) (ga : H a = some (.lst us)) (l : us.length ≤ 60) (hP : ∀ z, P z → ∃ o, H z = some o)
    (hb : ∀ x ∈ us, ∀ H1, Ex H H1 → ∀ P' : Addr → Prop, (∀ z, P' z → ∃ o, H1 z = some o) → ∀ Q : VK, (∀ v H2 d, Ex H1 H2 → Da P' K 2 H2 1 v d → wtD d ≤ 114 → Q v H2) → g x (wipe σ vs) H1 fun σ2 H2 => wipe σ2 vs = wipe σ vs ∧ te2 σ2 H2 Q) : EvI P K (tLc (iList K te) g tYes te2 vs) σ H := fun H0 e Q q => by
  refine h H0 e _ fun H1 e1 => ⟨a, rfl, ⟨us, sq_of ((e.trans e1) _ _ ga)⟩, fun Dl hD => lc_it (walk_list (xs := us)) (fun i H2 => Ex H1 H2 ∧ ∃ acc es, H2 Dl = some (.lst acc) ∧ DaS (Da (fun z => P z ∨ z = Dl) K 2 H2 1) acc es ∧ acc.length = i ∧ wtDs es ≤ 116 * i) ⟨Ex.new hD, [], [], upd_same, DaS.nil, rfl, Nat.zero_le _⟩ (fun i H2 _ w => sq_of (((e.trans e1).trans w.1) _ _ ga)) (fun i x H2 H3 hi w y => ?_) (fun H2 w => ?_)⟩
  · obtain ⟨rfl, hx⟩ := y
    obtain ⟨w1, acc, es, w2, w3, w4, w5⟩ := w
    have li := (List.getElem?_eq_some_iff.mp hx).1
    refine hb x (List.mem_of_getElem? hx) H3 ((e.trans e1).trans w1) (fun z => P z ∨ z = Dl) (fun z hz => ?_) _ fun v H4 d e4 dv wd => ?_
    · rcases hz with hz | rfl
      · obtain ⟨o, ho⟩ := hP z hz
        exact ⟨o, ((e.trans e1).trans w1) _ _ ho⟩
      · exact ⟨_, w2⟩
    · have g4 := e4 _ _ w2
      have xu : ExB Dl H4 (upd H4 Dl (.lst (acc ++ [v]))) := (ExB.refl _ _).upd
      refine ⟨acc, g4, sz_lt (by omega), Ex.mut (w1.trans e4) hD, acc ++ [v], es ++ [d], upd_same, ((w3.ex e4).exB (p := Dl) (.inr rfl) xu g4).app (DaS.cons (dv.exB (p := Dl) (.inr rfl) xu g4) DaS.nil), by rw [List.length_append, w4]; rfl, ?_⟩
      rw [wtDs_app]
      show wtDs es + (wtD d + 2 + 0) ≤ 116 * (i + 1)
      omega
  · obtain ⟨w1, acc, es, w2, w3, w4, w5⟩ := w
    refine q (.ref Dl) H2 (e1.trans w1) ⟨.list es, (da_lst (k := 1) (fun z => ?_) w2 (w3.sub fun a ha => .inl ha)).to (by decide), ?_⟩
    · obtain ⟨o, ho⟩ := hP _ z
      rw [(e.trans e1) _ _ ho] at hD
      cases hD
    · show 10 + wtDs es ≤ 20000
      omega
theorem el_twoU {K : PySem.W.Frag} {te t : TE} {σ : _root_.L2.St} {H : Hp} {x1 x2 y1 y2 : V} {j : Nat} {vs : List Nat} (h : EvU te σ H [x1, x2]) (hw : ∀ x, wipe ((wipe σ vs).set j (some x)) vs = wipe σ vs) (k1 : ∀ H1, Ex H H1 → Ev t ((wipe σ vs).set j (some x1)) H1 y1) (k2 : ∀ H1, Ex H H1 → Ev t ((wipe σ vs).set j (some x2)) H1 y2) : EvL (tLc (iTup K te) (gName j) tYes t vs) σ H [y1, y2] := fun H1 e1 Q q =>
  h H1 e1 _ fun a H4 ha e4 gT => ⟨a, rfl, ⟨_, st_of gT⟩, fun Dl hD => by
    have e04 := e1.trans e4
    refine in_it (walk_tup (xs := [x1, x2])) (fun k H' => Ex H4 H' ∧ H' Dl = some (.lst ([y1, y2].take k))) ⟨Ex.new hD, upd_same⟩ (fun k H' _ p => st_of (p.1 _ _ gT)) (fun k x H5 H6 hk p y => ?_) (fun H' p => q Dl H' (fresh_back e4 hD) (e4.trans p.1) p.2)
    obtain ⟨rfl, hx⟩ := y
    obtain ⟨p1, p2⟩ := p
    have e5 := e04.trans p1
    match k, hx with
    | 0, hx =>
      cases hx
      exact ⟨hw _, t_yes (k1 H6 e5 H6 (Ex.refl H6) _ fun H7 e7 => ⟨_, e7 _ _ p2, by show 0 < sizeLine; decide, Ex.mut (p1.trans e7) hD, upd_same⟩)⟩
    | 1, hx =>
      cases hx
      exact ⟨hw _, t_yes (k2 H6 e5 H6 (Ex.refl H6) _ fun H7 e7 => ⟨_, e7 _ _ p2, by show 1 < sizeLine; decide, Ex.mut (p1.trans e7) hD, upd_same⟩)⟩
    | k + 2, hx => cases hx⟩
theorem ev_callN3 {σ : _root_.L2.St} {H : Hp} {sp : Sp} {E : XK} {z x1 x2 x3 : V} {t1 t2 t3 : TE} {gV : List V → List V → List V} (h1 : Ev t1 σ H x1) (h2 : Ev t2 σ H x2) (h3 : Ev t3 σ H x3) (hs : SpV sp (gV [] [x1, x2, x3]) H z) : Ev (tCallN 0 3 sp gV E tNil (tCons t1 (tCons t2 (tCons t3 tNil)))) σ H z := fun H1 e Q q =>
  h1 H1 e _ fun H2 e2 => h2 H2 (e.trans e2) _ fun H3 e3 => h3 H3 ((e.trans e2).trans e3) _ fun H4 e4 => ⟨rfl, rfl, hs H4 (((e.trans e2).trans e3).trans e4) Q (fun H5 e5 => q H5 (((e2.trans e3).trans e4).trans e5)) E⟩
theorem ev_shows1 {K : PySem.W.Frag} {σ : _root_.L2.St} {H : Hp} {tr tn : TE} {rs : HH.Row} {x : V} {dx : PyData} {w : Str} (h1 : EvR K tr σ H rs) (hl : rs.length = 2) (hn : ∀ H1, Ex H H1 → Ev tn σ H1 x) (hx : atomOk 0 x dx) (hf : StrFit w) :
    Ev (tCall (spShowsA K) [] E0 (tCons tr (tCons (tTup (tCons (tC (.int 1)) (tCons (tC (.int 0)) tNil))) (tCons (tLst (tCons (tTup (tCons (tC (.str w)) (tCons tn tNil))) tNil)) tNil)))) σ H (.bl (showsD rs [1, 0] (.list [.tuple [.str w, dx]]))) := fun H1 e1 Q q =>
  h1 H1 e1 _ fun vr H2 e2 hr => (eu_tup (ea_cons ev_c (ea_cons ev_c ea_nil)) (by show 2 ≤ 100000; decide) : EvU (tTup (tCons (tC (.int 1)) (tCons (tC (.int 0)) tNil))) σ H2 [.int 1, .int 0]) H2 (Ex.refl _) _ fun t H3 ht e3 g3 =>
    (ed_lst (P := fun _ => False) (K := K) (c := 0) (k := 1) (fun _ z => z.elim) (as_cons (ed_tup (k := 0) (as_cons (ed_at (v := .str w) (d := .str w) ev_c ⟨rfl, hf⟩) (as_cons (ed_at (d := dx) (hn H3 ((e1.trans e2).trans e3)) hx) as_nil)) (by show 2 ≤ 10000; decide)) as_nil) (by show 1 ≤ 10000; decide)) H3 (Ex.refl _) _ fun y H4 e4 hy =>
      ⟨fun _ => False, vr, y, t, rs, [1, 0], _, 0, 2, rfl, hr.ex (e3.trans e4), by omega, st_of (e4 _ _ g3), by rw [hl]; exact List.Perm.swap 0 1 [], hy, by decide, by
        have : wtD dx ≤ 50 := by
          unfold atomOk at hx
          split at hx
          · exact Nat.le_refl _
          · exact Nat.le_refl _
          · exact Nat.le_refl _
          · exact Nat.le_refl _
          · exact hx.elim
        show 10 + (10 + (50 + 2 + (wtD dx + 2 + 0)) + 2 + 0) ≤ 40000
        omega, fun H5 e5 => q H5 ((e2.trans (e3.trans e4)).trans e5)⟩
theorem shows_two {a b : Int × Int} {w : Bool} {n : Nat} (hn : n = if w then 1 else 0) (c : canZ [a, b] (w, (n : Int)) = true) : showsD [a, b] [1, 0] (.list [.tuple [.str (wordOf w), .int (n : Int)]]) = true := by
  have h1 : deedOf (.tuple [.str (wordOf w), .int (n : Int)]) = some (w, (n : Int)) := by
    cases w
    · show (if (wordOf false) = ("pass" : Str) then some (true, (n : Int)) else if (wordOf false) = ("fall" : Str) then some (false, (n : Int)) else none) = _
      rw [if_neg (by decide +kernel), if_pos (show wordOf false = ("fall" : Str) from rfl)]
    · show (if (wordOf true) = ("pass" : Str) then some (true, (n : Int)) else if (wordOf true) = ("fall" : Str) then some (false, (n : Int)) else none) = _
      rw [if_pos (show wordOf true = ("pass" : Str) from rfl)]
  have h2 : ([.tuple [.str (wordOf w), .int (n : Int)]] : List PyData).all isDeedD = true := by
    rw [List.all_cons, show isDeedD (.tuple [.str (wordOf w), .int (n : Int)]) = true by unfold isDeedD; rw [h1]; rfl]
    rfl
  have h3 : ([.tuple [.str (wordOf w), .int (n : Int)]] : List PyData).filterMap deedOf = [(w, (n : Int))] := by
    rw [List.filterMap_cons, h1]
    rfl
  rw [showsD_list, h2, h3, decide_eq_true (show ([.tuple [.str (wordOf w), .int (n : Int)]] : List PyData).length = (tab [1, 0] ([a, b] : HH.Row).length ([a, b] : HH.Row).length).length by show 1 = (tab [1, 0] 2 2).length; decide +kernel)]
  have h4 : ledK ([a, b], List.range ([a, b] : HH.Row).length) [(w, (n : Int))] 0 = .inr (movZ [a, b] (w, (n : Int)), swapL (List.range 2) (atZ (w, (n : Int)))) := by
    show (if canZ [a, b] (w, (n : Int)) = true then ledK (movZ [a, b] (w, (n : Int)), swapL (List.range 2) (atZ (w, (n : Int)))) [] 1 else .inl 0) = _
    rw [if_pos c]
    rfl
  unfold leadsB
  rw [h4]
  subst hn
  cases w
  · show decide (swapL (List.range 2) (atZ (false, ((0 : Nat) : Int))) = [1, 0]) = true
    decide +kernel
  · show decide (swapL (List.range 2) (atZ (true, ((1 : Nat) : Int))) = [1, 0]) = true
    decide +kernel
theorem shows_bl {rs : HH.Row} {l : List Nat} {w : Str} {b : Bool} : showsD rs l (.list [.tuple [.str w, .bool b]]) = false := by
  rw [showsD_list]
  simp [isDeedD, deedOf]
theorem ok_law_right {f f1 f2 f3 f4 f5 f6 f7 f8 f9 f10 f11 : Addr} {fd fd1 fd2 fd3 fd4 fd5 fd6 fd7 fd8 fd9 fd10 fd11 : FuncData} (F : FnP K "_law_right" s_law_right f fd) (g : mg "_law_right" = some (.ref f)) (b : Binds K fd ["_law_box"] [])
    (h_law_row : Has P w K mg base 3 "_law_row" ["_law_box", "_law_most"] (spRow K) f1 fd1) (h_law_kept : Has P w K mg base 4 "_law_kept" ["_law_box", "_law_row_now"] (spKeptBy K) f2 fd2) (h_law_near : Has P w K mg base 2 "_law_near" ["_law_box", "_law_queue", "_law_kept_here", "_law_many"] (spNear K) f3 fd3) (h_law_drawn_way : Has P w K mg base 3 "_law_drawn_way" ["_law_box", "_law_pen", "_law_seats"] (spDrawnWay K) f4 fd4) (h_law_take : Has P w K mg base 1 "_law_take" ["_law_box", "_law_many"] spTake f5 fd5) (h_shows_way : Has P w K mg base 6 "shows_way" ["row", "order", "thing"] (spShowsA K) f6 fd6) (kb_shows_way : KBn K fd6 ["row", "order", "thing"] 0 ["thing", "order", "row"] (fun _ ws => ws.reverse) (fun _ zs => zs.reverse)) (h_law_same : Has P w K mg base 4 "_law_same" ["_law_found", "_law_due_here"] (spSame K 4) f7 fd7) (h_law_due : Has P w K mg base 3 "_law_due" ["_law_pen", "_law_seats", "_law_fixed", "_law_item"] (spDueA K) f8 fd8) (h_law_detour : Has P w K mg base 3 "_law_detour" ["_law_box", "_law_pen", "_law_went"] (spDetour K) f9 fd9) (h_law_bent : Has P w K mg base 8 "_law_bent" ["_law_box", "_law_odd_thing"] (spBentE K) f10 fd10) (h_law_great_right : Has P w K mg base 7 "_law_great_right" ["_law_box"] spGreatW f11 fd11)
    (m_len : mg "len" = none) (m_list : mg "list" = none) (m_range : mg "range" = none) (m_tuple : mg "tuple" = none) (m_repr : mg "repr" = none) : HasG P w K mg base 9 "_law_right" ["_law_box"] spRight f fd := by
  refine ⟨FnG.of F sc_law_right (fun vs H Q E h => ?_) (fun cdv A outer s H vs Q E gd hr h => ?_), g, F.kp, b⟩
  · obtain ⟨p, rfl, _⟩ := h
    rfl
  · obtain ⟨p, rfl, hb, q⟩ := h
    have hu : (A.deeper (envOfC "_law_right" (defScope s_law_right) s.heap.objs.size f cdv)).units + 70 < cLine := by
      have := hr.un
      omega
    refine ⟨_, PSs.nox (pss_cons (ps_set (i := 1) sc_law_right.nd rfl (.inl rfl) (pe_call h_law_row.G (hr.mono (by decide)) (by rfl) h_law_row.g h_law_row.kp h_law_row.b .nil pass0 (pa_cons (pv 0) (pa_cons pe_int pa_nil))))
      (pss_cons (ps_set (i := 2) sc_law_right.nd rfl (.inl rfl) (pe_call h_law_kept.G (hr.mono (by decide)) (by rfl) h_law_kept.g h_law_kept.kp h_law_kept.b .nil pass0 (pa_cons (pv 0) (pa_cons (pv 1) pa_nil))))
      (pss_cons (ps_set (i := 3) sc_law_right.nd rfl (.inl rfl) (pe_call h_law_near.G (hr.mono (by decide)) (by rfl) h_law_near.g h_law_near.kp h_law_near.b .nil pass0 (pa_cons (pv 0) (pa_cons (pe_listRg rfl (by rfl) m_list (prg_1 (by rfl) m_range (pe_callB call_len_seq (by rfl) m_len PySem.boot_len (pa_cons (pv 1) pa_nil)))) (pa_cons (pv 2) (pa_cons pe_int pa_nil))))))
      (pss_cons (ps_set (i := 4) sc_law_right.nd rfl (.inl rfl) (pe_call h_law_drawn_way.G (hr.mono (by decide)) (by rfl) h_law_drawn_way.g h_law_drawn_way.kp h_law_drawn_way.b .nil pass0 (pa_cons (pv 0) (pa_cons (pv 1) (pa_cons (pv 3) pa_nil)))))
      (pss_cons (ps_set (i := 5) sc_law_right.nd rfl (.inl rfl) (pe_lst (pa_cons (pv 4) (pa_cons (pe_call h_law_detour.G (hr.mono (by decide)) (by rfl) h_law_detour.g h_law_detour.kp h_law_detour.b .nil pass0 (pa_cons (pv 0) (pa_cons (pv 1) (pa_cons (pv 4) pa_nil)))) (pa_cons (pe_revL (pv 4)) (pa_cons (pe_slice sl_list (pv 4) po_none (po_some (pe_un un_neg pe_int))) (pa_cons (pe_tupleOf (by rfl) m_tuple (pv 4)) (pa_cons (pe_lc (own := [("_law_deed", 16)]) (g := gName 16) (by rfl) sc_law_right.nd (pi_list (pv 4)) (blkOk_by (own := [("_law_deed", 16)]) (N := ["_law_box", "_law_pen", "_law_fixed", "_law_seats", "_law_went", "_law_items", "_law_turn", "_law_bent_here", "_law_odd", "_law_item", "_law_goal", "_law_due_here", "_law_kept_here", "_law_told", "_law_pair", "_law_place_due", "_law_deed", "_law_word", "_law_at"]) (sc := defScope s_law_right) (by decide +kernel)) (fun _ _ _ _ _ => (pg_name (i := 16) sc_law_right.nd rfl (Or.inl rfl))) (fun _ _ _ _ _ => pts_nil) (fun _ _ _ _ _ => (pe_callTy (T := "list") (call_list_ofK (K := K)) (by rfl) m_list (by decide +kernel) (pa_cons (pv 16) pa_nil)))) pa_nil))))))))
      (pss_cons (ps_set (i := 5) sc_law_right.nd rfl (.inl rfl) (pe_op op_cat (pv 5) (pe_lst (pa_cons pe_non (pa_cons (pe_lst pa_nil) (pa_cons (pe_tup pa_nil) (pa_cons pe_int (pa_cons pe_str (pa_cons (pe_lst (pa_cons (pe_tup (pa_cons pe_str pa_nil)) pa_nil)) (pa_cons (pe_lst (pa_cons (pe_tup (pa_cons pe_str (pa_cons pe_int pa_nil))) pa_nil)) (pa_cons (pe_lst (pa_cons (pe_tup (pa_cons pe_str (pa_cons (pe_op op_sub (pe_callB call_len_seq (by rfl) m_len PySem.boot_len (pa_cons (pv 1) pa_nil)) pe_int) pa_nil))) pa_nil)) (pa_cons (pe_lst (pa_cons (pe_tup (pa_cons pe_str (pa_cons pe_bl pa_nil))) pa_nil)) pa_nil))))))))))))
      (pss_cons (ps_expr (pe_bm PySem.F.plainAttrs_list PySem.F.slot_list_append PySem.F.type_list_append mt_append (pv 5) (pa_cons (pe_lc (own := [("_law_word", 17), ("_law_at", 18)]) (g := gTup K 2 (gCons (gName 17) (gCons (gName 18) gNil))) (by rfl) sc_law_right.nd (pi_list (pv 4)) (blkOk_by (own := [("_law_word", 17), ("_law_at", 18)]) (N := ["_law_box", "_law_pen", "_law_fixed", "_law_seats", "_law_went", "_law_items", "_law_turn", "_law_bent_here", "_law_odd", "_law_item", "_law_goal", "_law_due_here", "_law_kept_here", "_law_told", "_law_pair", "_law_place_due", "_law_deed", "_law_word", "_law_at"]) (sc := defScope s_law_right) (by decide +kernel)) (fun _ _ _ _ _ => (pg_tup rfl (pgs_cons (pg_name (i := 17) sc_law_right.nd rfl (Or.inl rfl)) (pgs_cons (pg_name (i := 18) sc_law_right.nd rfl (Or.inl rfl)) pgs_nil)))) (fun _ _ _ _ _ => pts_nil) (fun _ _ _ _ _ => (pe_ifExp (pt_cmpR (op_inTK (K := K) (room_u65 hr)) (pv 18) (pe_tup (pa_cons pe_int (pa_cons pe_int pa_nil))) (by with_unfolding_all rfl)) (pe_tup (pa_cons (pv 17) (pa_cons (pe_cmpR op_eq (pv 18) pe_int (nomark _)) pa_nil))) (pe_tup (pa_cons (pv 17) (pa_cons (pv 18) pa_nil)))))) pa_nil)))
      (pss_cons (ps_for PassesOwn.never rfl (pi_range1 (by rfl) m_range (pa_cons pe_int pa_nil)) (pg_name (i := 6) sc_law_right.nd rfl (Or.inl rfl))
        (pss_cons (ps_set (i := 7) sc_law_right.nd rfl (.inl rfl) (pe_call h_law_bent.G (hr.mono (by decide)) (by rfl) h_law_bent.g h_law_bent.kp h_law_bent.b .nil pass0 (pa_cons (pv 0) (pa_cons (pe_ix ix_list (pv 5) (pe_call h_law_take.G (hr.mono (by decide)) (by rfl) h_law_take.g h_law_take.kp h_law_take.b .nil pass0 (pa_cons (pv 0) (pa_cons pe_int pa_nil))) (fun _ _ => rfl)) pa_nil))))
      (pss_one (ps_expr (pe_bm PySem.F.plainAttrs_list PySem.F.slot_list_append PySem.F.type_list_append mt_append (pv 5) (pa_cons (pe_ifExp (pt_cmpR op_eq (pe_call h_law_take.G (hr.mono (by decide)) (by rfl) h_law_take.g h_law_take.kp h_law_take.b .nil pass0 (pa_cons (pv 0) (pa_cons pe_int pa_nil))) pe_int (nomark _)) (pe_call h_law_bent.G (hr.mono (by decide)) (by rfl) h_law_bent.g h_law_bent.kp h_law_bent.b .nil pass0 (pa_cons (pv 0) (pa_cons (pv 7) pa_nil))) (pv 7)) pa_nil))))))
      (pss_cons (ps_set (i := 8) sc_law_right.nd rfl (.inl rfl) (pe_call h_law_near.G (hr.mono (by decide)) (by rfl) h_law_near.g h_law_near.kp h_law_near.b .nil pass0 (pa_cons (pv 0) (pa_cons (pv 3) (pa_cons (pe_lst pa_nil) (pa_cons pe_int pa_nil))))))
      (pss_cons (ps_for PassesOwn.never rfl (pi_list (pv 5)) (pg_name (i := 9) sc_law_right.nd rfl (Or.inl rfl))
        (pss_one (ps_for PassesOwn.never rfl (pi_tup (pe_tup (pa_cons (pv 3) (pa_cons (pv 8) pa_nil)))) (pg_name (i := 10) sc_law_right.nd rfl (Or.inl rfl))
        (pss_cons (ps_par (i := 11) (j := 12) (by rfl) sc_law_right.nd rfl rfl (by decide) rfl rfl (pa_cons (pe_call h_law_due.G (hr.mono (by decide)) (by rfl) h_law_due.g h_law_due.kp h_law_due.b .nil pass0 (pa_cons (pv 1) (pa_cons (pv 10) (pa_cons (pv 2) (pa_cons (pv 9) pa_nil))))) (pa_cons (pe_callB (call_reprA gd hu) (by rfl) m_repr (by decide +kernel) (pa_cons (pv 9) pa_nil)) pa_nil)) (by rfl))
      (pss_cons (ps_set (i := 13) sc_law_right.nd rfl (.inl rfl) (pe_lst (pa_cons (pe_call h_shows_way.G (hr.mono (by decide)) (by rfl) h_shows_way.g h_shows_way.kp h_shows_way.b .nil pass0 (pa_cons (pv 1) (pa_cons (pv 10) (pa_cons (pv 9) pa_nil)))) (pa_cons (pe_callN0 h_shows_way.G (hr.mono (by decide)) (by rfl) h_shows_way.g h_shows_way.kp kb_shows_way pass0 (pk_cons (pv 9) (pk_cons (pv 10) (pk_cons (pv 1) pk_nil)))) pa_nil))))
      (pss_one (ps_if (PW.pt (pw_or (pt_not (pt_val (pe_call h_law_same.G (hr.mono (by decide)) (by rfl) h_law_same.g h_law_same.kp h_law_same.b .nil pass0 (pa_cons (pv 13) (pa_cons (pe_lst (pa_cons (pv 11) (pa_cons (pv 11) pa_nil))) pa_nil))))) (pw_or1 (pt_cmpR op_ne (pe_callB (call_reprA gd hu) (by rfl) m_repr (by decide +kernel) (pa_cons (pv 9) pa_nil)) (pv 12) (nomark _))))) (pss_one (ps_ret pe_bl)) pss_nil)))))))
      (pss_cons (ps_set (i := 14) sc_law_right.nd rfl (.inr rfl) (pe_tup (pa_cons (pe_tup (pa_cons pe_int (pa_cons pe_int pa_nil))) (pa_cons (pe_tup (pa_cons (pe_op op_add pe_int (pe_call h_law_take.G (hr.mono (by decide)) (by rfl) h_law_take.g h_law_take.kp h_law_take.b .nil pass0 (pa_cons (pv 0) (pa_cons pe_int pa_nil)))) (pa_cons pe_int pa_nil))) pa_nil))))
      (pss_cons (ps_setLc (i := 13) (own := [("_law_place_due", 15)]) (g := gName 15) (by rfl) sc_law_right.nd rfl rfl (sw_true rfl rfl rfl (by decide +kernel)) (pi_tup (pe_tup (pa_cons pe_int (pa_cons pe_bl pa_nil)))) (blkOk_by (own := [("_law_place_due", 15)]) (N := ["_law_box", "_law_pen", "_law_fixed", "_law_seats", "_law_went", "_law_items", "_law_turn", "_law_bent_here", "_law_odd", "_law_item", "_law_goal", "_law_due_here", "_law_kept_here", "_law_told", "_law_pair", "_law_place_due", "_law_deed", "_law_word", "_law_at"]) (sc := defScope s_law_right) (by decide +kernel)) (fun _ _ _ _ _ => (pg_name (i := 15) sc_law_right.nd rfl (Or.inl rfl))) (fun _ _ _ _ _ => pts_nil) (fun _ _ _ _ _ => (pe_call h_shows_way.G (hr.mono (by decide)) (by rfl) h_shows_way.g h_shows_way.kp h_shows_way.b .nil pass0 (pa_cons (pv 14) (pa_cons (pe_tup (pa_cons pe_int (pa_cons pe_int pa_nil))) (pa_cons (pe_lst (pa_cons (pe_tup (pa_cons pe_str (pa_cons (pv 15) pa_nil))) pa_nil)) pa_nil))))))
      (pss_cons (ps_set (i := 13) sc_law_right.nd rfl (.inl rfl) (pe_op op_cat (pv 13) (pe_lc (own := [("_law_place_due", 15)]) (g := gName 15) (by rfl) sc_law_right.nd (pi_tup (pe_tup (pa_cons pe_int (pa_cons pe_bl pa_nil)))) (blkOk_by (own := [("_law_place_due", 15)]) (N := ["_law_box", "_law_pen", "_law_fixed", "_law_seats", "_law_went", "_law_items", "_law_turn", "_law_bent_here", "_law_odd", "_law_item", "_law_goal", "_law_due_here", "_law_kept_here", "_law_told", "_law_pair", "_law_place_due", "_law_deed", "_law_word", "_law_at"]) (sc := defScope s_law_right) (by decide +kernel)) (fun _ _ _ _ _ => (pg_name (i := 15) sc_law_right.nd rfl (Or.inl rfl))) (fun _ _ _ _ _ => pts_nil) (fun _ _ _ _ _ => (pe_call h_shows_way.G (hr.mono (by decide)) (by rfl) h_shows_way.g h_shows_way.kp h_shows_way.b .nil pass0 (pa_cons ((pe_revTK (K := K)) (pv 14)) (pa_cons (pe_tup (pa_cons pe_int (pa_cons pe_int pa_nil))) (pa_cons (pe_lst (pa_cons (pe_tup (pa_cons pe_str (pa_cons (pv 15) pa_nil))) pa_nil)) pa_nil))))))))
      (pss_one (ps_ret (pe_and (pe_cmpR (op_eqD hr.units) (pv 13) (pe_op op_rep (pe_lst (pa_cons pe_bl (pa_cons pe_bl pa_nil))) pe_int) (nomark _)) (pe_and (pe_cmpR op_is_bl (pe_call h_shows_way.G (hr.mono (by decide)) (by rfl) h_shows_way.g h_shows_way.kp h_shows_way.b .nil pass0 (pa_cons (pv 1) (pa_cons (pv 3) (pa_cons (pv 4) pa_nil)))) pe_bl (nomark _)) (pe_one (pe_call h_law_great_right.G (hr.mono (by decide)) (by rfl) h_law_great_right.g h_law_great_right.kp h_law_great_right.b .nil pass0 (pa_cons (pv 0) pa_nil)))))))))))))))))))), ?_⟩
    have hlim : 20000 < Lim := lim_ok (by decide)
    refine ⟨.ref p, rfl, p, 6, 0, rfl, by omega, by omega, hb, by omega, fun v H2 rs x2 b2 hv r0 rm tm => ?_⟩
    have hl : rs.length ≤ 6 := rm
    have ht : ∀ b ∈ rs, 0 ≤ b.2 := fun b hb => (tm b hb).2.2.1
    have low : ∀ b ∈ rs, Low b := fun b hb => (tm b hb).low
    refine g_at [some (.ref p), some v, none, none, none, none, none, none, none, none, none, none, none, none, none, none, none, none, none] rfl ?_
    refine ⟨.ref p, rfl, v, rfl, p, v, rs, 100, rfl, hv, r0, by omega, ht, b2, by omega, fun kp uk E1 B1 H3 sE nE sB nB hkp x3 b3 g3 bs3 => ?_⟩
    have nkp : kp ≠ p := (b2.ne hkp).symm
    have hv3 := hv.exB x3 b2
    refine g_at [some (.ref p), some v, some (.ref kp), none, none, none, none, none, none, none, none, none, none, none, none, none, none, none, none] rfl ?_
    refine ⟨.ref p, rfl, ?_⟩
    refine (el_listRg (ev_lenR (K := K) (ev_var rfl) hv3) (by omega) : EvL (tLstRg (tRg1 (tCB (rLenS K) (tCons (tVar 1) tNil)))) [some (.ref p), some v, some (.ref kp), none, none, none, none, none, none, none, none, none, none, none, none, none, none, none, none] H3 _) H3 (Ex.refl _) _ fun la H4 hla e4 g4 => ?_
    rw [rg_nats] at g4
    refine ⟨.ref kp, rfl, ?_⟩
    refine ⟨p, la, kp, List.range rs.length, _, uk, 12, 2100, Keeps rs, rfl, .inl (sq_of g4), e4 _ _ g3, BeastsT.ex' bs3 e4, nkp, by rw [List.length_range]; exact r0, by rw [List.length_range]; omega, by omega, b3.ex e4, by omega, keeps_self ht, fun A a b C k h => keeps_swap ht sE nE sB nB k h, fun o l H5 x5 b5 ho g5 ll kl => ?_⟩
    refine g_at [some (.ref p), some v, some (.ref kp), some (.ref o), none, none, none, none, none, none, none, none, none, none, none, none, none, none, none] rfl ?_
    have hv5 := (hv3.ex e4).exB x5 (b3.ex e4)
    have g35 : H5 kp = some (.lst uk) := x5 _ _ nkp (e4 _ _ g3)
    obtain ⟨bl4, hbl4⟩ := (b3.ex e4).lst
    have bs5 := BeastsT.exB' (BeastsT.ex' bs3 e4) x5 hbl4
    have lp : l.Perm (List.range rs.length) := kl.ids
    refine ⟨.ref p, rfl, v, rfl, .ref o, rfl, p, v, o, rs, l, 2112, rfl, hv5, by omega, ht, st_of g5, kl, b5, by omega, fun wq us ds H6 x6 b6 hwq nwp g6 d6 way => ?_⟩
    refine g_at [some (.ref p), some v, some (.ref kp), some (.ref o), some (.ref wq), none, none, none, none, none, none, none, none, none, none, none, none, none, none] rfl ?_
    obtain ⟨Lr, _, _, dl⟩ := wayN_run way ht kl
    have t15 := tab_len l rs.length rs.length
    have t36 := Nat.mul_le_mul hl hl
    have dn : ds.length ≤ 36 := by omega
    have ul : us.length ≤ 36 := by rw [All2.len d6]; omega
    have dpl : ∀ d ∈ ds, d.2 ≤ 1000 := fun d hd => by
      have := wayN_place way ht kl d hd
      omega
    have gv6 := goodV_of d6 dpl
    try dsimp only
    have hv6 := hv5.exB x6 b5
    refine q_run ?_
    refine ⟨.ref wq, rfl, ?_⟩
    refine ⟨.ref p, rfl, v, rfl, .ref wq, rfl, p, v, wq, rs, us, ds, 3112, rfl, hv6, by omega, g6, nwp, d6, by omega, b6, by omega, fun dq us2 ds2 H7 x7 b7 ndq gdq d7 l7 p7 => ?_⟩
    obtain ⟨bl6, hbl6⟩ := b6.lst
    obtain ⟨bl7, hbl7⟩ := b7.lst
    have gv7 : GoodV K H7 us := gv6.exB x7 hbl6
    have gw7 : H7 wq = some (.lst us) := x7 _ _ nwp g6
    have gd7 : GoodV K H7 us2 := goodV_of d7 fun d hd => by
      rcases p7 d hd with z | z
      · exact dpl d z
      · omega
    have it7d : ItA (· = p) K H7 (.ref dq) := it_good gd7 gdq (by rw [All2.len d7]; omega) ndq
    have it7w : ItA (· = p) K H7 (.ref wq) := it_good gv7 gw7 (by omega) nwp
    have hp7 : ∃ o, H7 p = some o := ⟨_, hbl7⟩
    have i3 := ei_good (p := p) (el_revW (K := K) (te := tVar 4) (σ := [some (.ref p), some v, some (.ref kp), some (.ref o), some (.ref wq), none, none, none, none, none, none, none, none, none, none, none, none, none, none]) (ev_var rfl) (sq_of gw7)) gv7.rev (by rw [List.length_reverse]; omega) hp7
    have i4 := ei_good (p := p) (el_cutV (K := K) (te := tVar 4) (σ := [some (.ref p), some v, some (.ref kp), some (.ref o), some (.ref wq), none, none, none, none, none, none, none, none, none, none, none, none, none, none]) (ev_var rfl) gw7 eop_none (eop_part (ev_un (ev_c (v := .int 1)) ru_neg))) gv7.cut (Nat.le_trans (cut_less _ _ _) (by omega)) hp7
    have i5 := ei_tupG (p := p) (te := tVar 4) (σ := [some (.ref p), some v, some (.ref kp), some (.ref o), some (.ref wq), none, none, none, none, none, none, none, none, none, none, none, none, none, none]) (ev_var rfl) gv7 gw7 (by omega)
    have hP7 : ∀ z, z = p → ∃ o, H7 z = some o := fun z hz => by
      rw [hz]
      exact hp7
    have word : ∀ u ∈ us, ∀ H', Ex H7 H' → ∃ (t : Addr) (d : Deed), u = .ref t ∧ SqT K H' t [.str (wordOf d.1), .int (d.2 : Int)] ∧ d.2 ≤ 1000 := fun u hu H' e' => by
      obtain ⟨d, ⟨t, rfl, hs⟩, bd⟩ := gv7 u hu
      exact ⟨t, d, rfl, ex_t e' hs, bd⟩
    have i6 : EvI (· = p) K (tLc (iList K (tVar 4)) (gName 16) tYes (tCB (rListS K) (tCons (tVar 16) tNil)) [16]) [some (.ref p), some v, some (.ref kp), some (.ref o), some (.ref wq), none, none, none, none, none, none, none, none, none, none, none, none, none, none] H7 := ei_lcG (ev_var rfl) gw7 (by omega) hP7 fun x hx H8 e8 P' hP' Q q => by
      obtain ⟨t, d, rfl, hs, bd⟩ := word x hx H8 e8
      refine ⟨rfl, .ref t, rfl, t, _, rfl, .inr hs, fun c hc => q (.ref c) _ (.list [.str (wordOf d.1), .int (d.2 : Int)]) (Ex.new hc) (da_lst (fun z => ?_) upd_same (DaS.cons da_word (DaS.cons (da_nat bd) DaS.nil))) (by show 10 + (50 + 2 + (50 + 2 + 0)) ≤ 114; decide)⟩
      obtain ⟨o, ho⟩ := hP' _ z
      rw [ho] at hc
      cases hc
    refine (is_cons i3 (is_cons i4 (is_cons i5 (is_cons i6 is_nil)))) H7 (Ex.refl _) _ fun us0 H8 e8 l8 it8 => ⟨sz_of (by show us0.length + 1 + 1 ≤ 100000; omega), fun a0 ha0 => ?_⟩
    have n8 := Ex.new (o := .lst (.ref wq :: .ref dq :: us0)) ha0
    have g9 : (upd H8 a0 (.lst (.ref wq :: .ref dq :: us0))) a0 = some (.lst (.ref wq :: .ref dq :: us0)) := upd_same
    have it9 : ∀ x ∈ (.ref wq :: .ref dq :: us0 : List V), ItA (· = p) K (upd H8 a0 (.lst (.ref wq :: .ref dq :: us0))) x := fun x hx => by
      rcases List.mem_cons.mp hx with rfl | hx
      · exact it7w.ex (e8.trans n8)
      · rcases List.mem_cons.mp hx with rfl | hx
        · exact it7d.ex (e8.trans n8)
        · exact (it8 x hx).ex n8
    have e79 := e8.trans n8
    try dsimp only
    generalize upd H8 a0 (.lst (.ref wq :: .ref dq :: us0)) = H9 at g9 it9 e79 ⊢
    refine g_at [some (.ref p), some v, some (.ref kp), some (.ref o), some (.ref wq), some (.ref a0), none, none, none, none, none, none, none, none, none, none, none, none, none] rfl ?_
    have hv9 := (hv6.exB x7 b6).ex e79
    have b9 := b7.ex e79
    have hP9 : ∀ z, z = p → ∃ o, H9 z = some o := fun z hz => by
      obtain ⟨ys, hys⟩ := b9.lst
      rw [hz]
      exact ⟨_, hys⟩
    have i0 : ∀ {σ : _root_.L2.St} {k : Nat}, EvDa (· = p) K 0 k (tC (.int 0)) σ H9 (.int 0) := fun {σ k} => ed_at ev_c ⟨rfl, Nat.zero_le _⟩
    have iw : ∀ {σ : _root_.L2.St} {k : Nat} (b : Bool), EvDa (· = p) K 0 k (tC (.str (wordOf b))) σ H9 (.str (wordOf b)) := fun {σ k} b => ed_at ev_c ⟨rfl, by cases b <;> exact ⟨by decide +kernel, by decide +kernel⟩⟩
    have one : ∀ {σ : _root_.L2.St} {ta : TA} {ds : List PyData}, EvDs (· = p) K 0 0 ta σ H9 ds → ds.length ≤ 100 → EvDa (· = p) K 0 2 (tLst (tCons (tTup ta) tNil)) σ H9 (.list [.tuple ds]) := fun {σ ta ds} h hl => ed_lst hP9 (as_cons (ed_tup (k := 0) h (by omega)) as_nil) (by show 1 ≤ 10000; decide)
    refine q_catIs (P := (· = p)) (K := K) (n := 9) (T := a0) (ev_var rfl) g9 it9 (is_cons (ei_of (c := 0) (k := 0) (d := .none) (ed_at (v := .non) ev_c True.intro) (by decide) (by decide) (by decide)) (is_cons (ei_of (ed_lst (k := 0) (c := 0) hP9 as_nil (Nat.zero_le _)) (by decide) (by decide) (by decide)) (is_cons (ei_of (ed_tup (k := 0) (c := 0) as_nil (Nat.zero_le _)) (by decide) (by decide) (by decide)) (is_cons (ei_of (k := 0) i0 (by decide) (by decide) (by decide)) (is_cons (ei_of (k := 0) (iw true) (by decide) (by decide) (by decide : wtD (.str (wordOf true)) ≤ 8000)) (is_cons (ei_of (one (as_cons (iw true) as_nil) (by show 1 ≤ 100; decide)) (by decide) (by decide) (by decide : wtD (.list [.tuple [.str (wordOf true)]]) ≤ 8000)) (is_cons (ei_of (one (as_cons (iw true) (as_cons i0 as_nil)) (by show 2 ≤ 100; decide)) (by decide) (by decide) (by decide : wtD (.list [.tuple [.str (wordOf true), .int 0]]) ≤ 8000)) (is_cons (ei_of (one (as_cons (iw false) (as_cons (ed_at (v := .int ((rs.length : Int) - 1)) (d := .int ((rs.length : Int) - 1)) (ev_op (ev_lenR (K := K) (ev_var rfl) hv9) ev_c rv_I0) ⟨rfl, ?_⟩) as_nil)) (by show 2 ≤ 100; decide)) (by decide) (by decide) (by show 10 + (10 + (50 + 2 + (50 + 2 + 0)) + 2 + 0) ≤ 8000; decide)) (is_cons (ei_of (one (as_cons (iw true) (as_cons (ed_at (v := .bl true) (d := .bool true) ev_c rfl) as_nil)) (by show 2 ≤ 100; decide)) (by decide) (by decide) (by decide : wtD (.list [.tuple [.str (wordOf true), .bool true]]) ≤ 8000)) is_nil))))))))) (by show us0.length + 1 + 1 + 9 ≤ 10000; omega) fun a vs9 HA ha eA gA lA itA => ?_
    · have : (10 : Nat) ^ 30 = 1000000000000000000000000000000 := by decide
      omega
    have bA := b9.ex eA
    have nap : a ≠ p := (b9.ne ha).symm
    have e7A := e79.trans eA
    refine s_at [some (.ref p), some v, some (.ref kp), some (.ref o), some (.ref wq), some (.ref a), none, none, none, none, none, none, none, none, none, none, none, none, none] rfl ?_
    have hPA : ∀ {H' : Hp} {m : Nat} {ws : List V}, Bx H' p m → H' a = some (.lst ws) → ∀ z, (z = p ∨ z = a) → ∃ o, H' z = some o := fun {H' m ws} b' g' z hz => by
      rcases hz with rfl | rfl
      · obtain ⟨o, ho⟩ := b'.lst
        exact ⟨_, ho⟩
      · exact ⟨_, g'⟩
    have i7 : EvI (fun z => z = p ∨ z = a) K (tLc (iList K (tVar 4)) (gTup K 2 (gCons (gName 17) (gCons (gName 18) gNil))) tYes (tIf (tTest (tOp (rInT K) (tVar 18) (tTup (tCons (tC (.int 0)) (tCons (tC (.int 1)) tNil))))) (tTup (tCons (tVar 17) (tCons (tOp rEq (tVar 18) (tC (.int 1))) tNil))) (tTup (tCons (tVar 17) (tCons (tVar 18) tNil)))) [17, 18]) [some (.ref p), some v, some (.ref kp), some (.ref o), some (.ref wq), some (.ref a), none, none, none, none, none, none, none, none, none, none, none, none, none] HA := ei_lcG (ev_var rfl) (e7A _ _ gw7) (by omega) (hPA bA gA) fun x hx HB eB P' hP' Q q => by
      obtain ⟨t, d, rfl, hs, bd⟩ := word x hx HB (e7A.trans eB)
      refine ⟨t, _, rfl, hs, rfl, _, _, rfl, _, _, rfl, rfl, rfl, .int (d.2 : Int), rfl, ?_⟩
      refine (eu_tup (ea_cons ev_c (ea_cons ev_c ea_nil)) (by decide) : EvU (tTup (tCons (tC (.int 0)) (tCons (tC (.int 1)) tNil))) _ HB [.int 0, .int 1]) HB (Ex.refl _) _ fun tp HC htp eC gC => ⟨.int (d.2 : Int), [.int 0, .int 1], .int _, .tup (st_of gC) (.cons (.int _) (.cons (.int _) .nil)), rfl, by decide +kernel, _, rfl, ?_⟩
      have fin : ∀ (y : V) (dy : PyData), (∀ H', Da P' K 2 H' 0 y dy) → wtD dy = 50 → ∀ H', Ex HB H' → ∀ tt, H' tt = none → Q (.ref tt) (upd H' tt (.tup [.str (wordOf d.1), y])) := fun y dy hy wy H' e' tt htt => q (.ref tt) _ (.tuple [.str (wordOf d.1), dy]) (e'.trans (Ex.new htt)) (da_tup (st_of upd_same) (DaS.cons da_word (DaS.cons (hy _) DaS.nil))) (by show 10 + (50 + 2 + (wtD dy + 2 + 0)) ≤ 114; omega)
      refine ite_b ?_ ?_
      · exact ⟨.str (wordOf d.1), rfl, .int (d.2 : Int), rfl, rfl, by show 2 ≤ sizeLine; decide, fun tt htt => fin _ _ (fun _ => das_bl) rfl HC eC tt htt⟩
      · exact ⟨.str (wordOf d.1), rfl, .int (d.2 : Int), rfl, by show 2 ≤ sizeLine; decide, fun tt htt => fin _ _ (fun _ => da_nat bd) rfl HC eC tt htt⟩
    refine qs_run ?_
    refine ⟨.ref a, rfl, .inl ⟨rfl, _, sq_of gA⟩, ?_⟩
    refine i7 HA (Ex.refl _) _ fun y HB eB iy => ⟨a, _, y, rfl, rfl, eB _ _ gA, sz_lt (by rw [List.length_append, lA]; show us0.length + 1 + 1 + 9 < 100000; omega), ?_⟩
    have gB := eB _ _ gA
    have xu : ExB a HB (upd HB a (.lst (((.ref wq :: .ref dq :: us0) ++ vs9) ++ [y]))) := (ExB.refl _ _).upd
    have itB : ∀ x ∈ ((.ref wq :: .ref dq :: us0) ++ vs9) ++ [y], ItA (fun z => z = p ∨ z = a) K (upd HB a (.lst (((.ref wq :: .ref dq :: us0) ++ vs9) ++ [y]))) x := fun x hx => by
      rcases List.mem_append.mp hx with hx | hx
      · exact ((itA x hx).ex eB).exB (p := a) (.inr rfl) xu gB
      · cases List.mem_singleton.mp hx
        exact iy.exB (p := a) (.inr rfl) xu gB
    have e7B := e7A.trans eB
    have x07 : ExB p H H7 := ((((x2.trans x3).trans (.of e4)).trans x5).trans x6).trans x7
    have haH : H a = none := (x07.trans (.of e79)).back ha nap
    have x57 := x6.trans x7
    obtain ⟨bl5, hbl5⟩ := b5.lst
    have nka : kp ≠ a := fun z => by
      rw [← z, e79 _ _ (x57 _ _ nkp g35)] at ha
      cases ha
    have bd2 : ∀ d ∈ ds2, d.2 ≤ 1000 := fun d hd => by
      rcases p7 d hd with z | z
      · exact dpl d z
      · omega
    have fx : ∀ (H' : Hp), Prop := fun H' => RowAt K H' v rs ∧ SqT K H' o (natsV l) ∧ H' kp = some (.lst uk) ∧ BeastsT H' uk (tabP (keepP (E1.map (·.1)) (B1.map (·.1))) rs.length rs.length) ∧ Da (fun z => z = p ∨ z = a) K 0 H' 2 (.ref wq) (.list (ds.map deedD)) ∧ Da (fun z => z = p ∨ z = a) K 0 H' 2 (.ref dq) (.list (ds2.map deedD))
    have X : ∃ Fx : Hp → Prop, Fx = fun H' => RowAt K H' v rs ∧ SqT K H' o (natsV l) ∧ H' kp = some (.lst uk) ∧ BeastsT H' uk (tabP (keepP (E1.map (·.1)) (B1.map (·.1))) rs.length rs.length) ∧ Da (fun z => z = p ∨ z = a) K 0 H' 2 (.ref wq) (.list (ds.map deedD)) ∧ Da (fun z => z = p ∨ z = a) K 0 H' 2 (.ref dq) (.list (ds2.map deedD)) := ⟨_, rfl⟩
    obtain ⟨Fx, hFx⟩ := X
    have fxE : ∀ {H1 H2 : Hp}, Fx H1 → Ex H1 H2 → Fx H2 := fun {H1 H2} f e => by
      rw [hFx] at f ⊢
      obtain ⟨q1, q2, q3, q4, q5, q6⟩ := f
      exact ⟨q1.ex e, ex_t e q2, e _ _ q3, BeastsT.ex' q4 e, q5.ex e, q6.ex e⟩
    have fxB : ∀ {H1 H2 : Hp} {q : Addr} {ys : List V}, Fx H1 → ExB q H1 H2 → (q = p ∨ q = a) → H1 q = some (.lst ys) → Fx H2 := fun {H1 H2 q ys} f e hq gq => by
      rw [hFx] at f ⊢
      obtain ⟨q1, q2, q3, q4, q5, q6⟩ := f
      exact ⟨q1.exL e gq, e.t gq q2, e _ _ (fun z => by rcases hq with h | h <;> rw [h] at z; exact nkp z; exact nka z) q3, BeastsT.exB' q4 e gq, q5.exB (p := q) hq e gq, q6.exB (p := q) hq e gq⟩
    have f9 : ∃ Hx, Hx = HA := ⟨_, rfl⟩
    have fA : Fx HA := by
      rw [hFx]
      exact ⟨(hv6.exB x7 b6).ex e7A, ex_t e7A (x57.t hbl5 (st_of g5)), e7A _ _ (x57 _ _ nkp g35), BeastsT.ex' (BeastsT.exB' bs5 x57 hbl5) e7A, (((deeds_da (P := (· = p)) (c := 0) (deeds_exB x7 hbl6 d6) gw7 nwp dpl).ex e79).add ha).ex eA, (((deeds_da (P := (· = p)) (c := 0) d7 gdq ndq bd2).ex e79).add ha).ex eA⟩
    have fU := fxB (fxE fA eB) xu (.inr rfl) gB
    have gU : (upd HB a (.lst (((.ref wq :: .ref dq :: us0) ++ vs9) ++ [y]))) a = some (.lst (((.ref wq :: .ref dq :: us0) ++ vs9) ++ [y])) := upd_same
    have xU : ExB p H (upd HB a (.lst (((.ref wq :: .ref dq :: us0) ++ vs9) ++ [y]))) := (x07.trans (.of e7B)).mut haH
    have bU : Bx (upd HB a (.lst (((.ref wq :: .ref dq :: us0) ++ vs9) ++ [y]))) p 3113 := (b7.ex e7B).mut nap.symm
    have lU : (((.ref wq :: .ref dq :: us0) ++ vs9) ++ [y] : List V).length = 16 := by
      rw [List.length_append, List.length_append, lA]
      show us0.length + 1 + 1 + 9 + 1 = 16
      omega
    have w0 : (((.ref wq :: .ref dq :: us0) ++ vs9) ++ [y] : List V)[0]? = some (.ref wq) := rfl
    have w1 : (((.ref wq :: .ref dq :: us0) ++ vs9) ++ [y] : List V)[1]? = some (.ref dq) := rfl
    generalize ((.ref wq :: .ref dq :: us0) ++ vs9) ++ [y] = ws0 at gU itB fU xU bU lU w0 w1 ⊢
    generalize upd HB a (.lst ws0) = HU at gU itB fU xU bU ⊢
    try dsimp only
    refine q_forR1 (n := 12) (ea_cons ev_c ea_nil) ⟨by decide, by decide⟩ (fun j σ' H' => ∃ (ws : List V) (z6 z7 : Option V), σ' = [some (.ref p), some v, some (.ref kp), some (.ref o), some (.ref wq), some (.ref a), z6, z7, none, none, none, none, none, none, none, none, none, none, none] ∧ ExB p H H' ∧ Bx H' p (3113 + 50 * j) ∧ H' a = some (.lst ws) ∧ ws.length = 16 + j ∧ ws[0]? = some (.ref wq) ∧ ws[1]? = some (.ref dq) ∧ Fx H' ∧ ∀ x ∈ ws, ItA (fun z => z = p ∨ z = a) K H' x) (fun H1 e1 => ⟨ws0, none, none, rfl, xU.trans (.of e1), bU.ex e1, e1 _ _ gU, lU, w0, w1, fxE fU e1, fun x hx => (itB x hx).ex e1⟩) (fun j σ' H1 hj hW => ?_) (fun σ' H1 hW => ?_)
    · obtain ⟨ws, z6, z7, rfl, x1, b1, g1, l1, q0, q1, f1, it1⟩ := hW
      have hj : j < 12 := by omega
      refine ⟨.ref p, rfl, .ref a, rfl, .ref p, rfl, p, 2, _, rfl, by decide, by decide, b1, by omega, fun r Ht r0' r1' xt bt => ?_⟩
      obtain ⟨blt, hblt⟩ := b1.lst
      have gt : Ht a = some (.lst ws) := xt _ _ nap g1
      have ft := fxB f1 xt (.inl rfl) hblt
      obtain ⟨u, du, hau, hdu, wdu⟩ : ∃ (u : V) (du : PyData), atI ws r = some u ∧ Da (fun z => z = p ∨ z = a) K 0 Ht 2 u du ∧ wtD du ≤ 4500 := by
        have ft' := ft
        rw [hFx] at ft'
        obtain ⟨_, _, _, _, q5, q6⟩ := ft'
        obtain rfl | rfl : r = 0 ∨ r = 1 := by omega
        · exact ⟨_, _, at_natN (j := 0) q0, q5, by rw [deeds_wtL]; omega⟩
        · exact ⟨_, _, at_natN (j := 1) q1, q6, by rw [deeds_wtL]; omega⟩
      refine ⟨a, ws, r, u, rfl, rfl, sq_of gt, hau, ?_⟩
      refine .inl ⟨(fun z => z = p ∨ z = a), p, u, du, 0, 3113 + 50 * j + 1, rfl, .inl rfl, hPA bt gt, hdu, by omega, by decide, bt, (by show 3113 + 50 * j + 1 + 15 < Lim; omega), fun y d' H2 x2' b2' hd2 w2' => ?_⟩
      have b2' : Bx H2 p (3113 + 50 * j + 1 + 15) := b2'
      have hd2 : Da (fun z => z = p ∨ z = a) K 1 H2 4 y d' := hd2
      have g2' : H2 a = some (.lst ws) := x2' _ _ nap gt
      obtain ⟨bl2, hbl2⟩ := b2'.lst
      refine g_at [some (.ref p), some v, some (.ref kp), some (.ref o), some (.ref wq), some (.ref a), some (.int (j : Int)), some y, none, none, none, none, none, none, none, none, none, none, none] rfl ?_
      refine ⟨.ref a, rfl, .inl ⟨rfl, ws, sq_of g2'⟩, draw0 rfl (by decide) (by decide) b2' (by omega) fun cc H3' x3' b3' => ?_⟩
      have x13 := (xt.trans x2').trans x3'
      have g3' : H3' a = some (.lst ws) := x3' _ _ nap g2'
      have app : ∀ (H9 : Hp) (z : V) (σ2 : _root_.L2.St), σ2 = [some (.ref p), some v, some (.ref kp), some (.ref o), some (.ref wq), some (.ref a), some (.int (j : Int)), some y, none, none, none, none, none, none, none, none, none, none, none] → ExB p H1 H9 → Bx H9 p (3113 + 50 * (j + 1)) → ItA (fun z => z = p ∨ z = a) K H9 z → ∃ (ws' : List V) (z6 z7 : Option V), σ2 = [some (.ref p), some v, some (.ref kp), some (.ref o), some (.ref wq), some (.ref a), z6, z7, none, none, none, none, none, none, none, none, none, none, none] ∧ ExB p H (upd H9 a (.lst (ws ++ [z]))) ∧ Bx (upd H9 a (.lst (ws ++ [z]))) p (3113 + 50 * (j + 1)) ∧ (upd H9 a (.lst (ws ++ [z]))) a = some (.lst ws') ∧ ws'.length = 16 + (j + 1) ∧ ws'[0]? = some (.ref wq) ∧ ws'[1]? = some (.ref dq) ∧ Fx (upd H9 a (.lst (ws ++ [z]))) ∧ ∀ x ∈ ws', ItA (fun z => z = p ∨ z = a) K (upd H9 a (.lst (ws ++ [z]))) x := fun H9 z σ2 hσ x9 b9 iz => by
        have g9 : H9 a = some (.lst ws) := x9 _ _ nap g1
        have xv : ExB a H9 (upd H9 a (.lst (ws ++ [z]))) := (ExB.refl _ _).upd
        refine ⟨ws ++ [z], _, _, hσ, (x1.trans x9).mut haH, b9.mut nap.symm, upd_same, by rw [List.length_append, l1]; rfl, by rw [List.getElem?_append_left (by omega)]; exact q0, by rw [List.getElem?_append_left (by omega)]; exact q1, fxB (fxB f1 x9 (.inl rfl) hblt) xv (.inr rfl) g9, fun x hx => ?_⟩
        rcases List.mem_append.mp hx with hx | hx
        · exact ((it1 x hx).exB (p := p) (.inl rfl) x9 hblt).exB (p := a) (.inr rfl) xv g9
        · cases List.mem_singleton.mp hx
          exact iz.exB (p := a) (.inr rfl) xv g9
      cases cc with
      | true =>
        refine ite_t ⟨.ref p, rfl, y, rfl, .inr ⟨(fun z => z = p ∨ z = a), p, y, d', 1, 3113 + 50 * j + 1 + 15 + 1, rfl, .inl rfl, hPA b3' g3', hd2.exB (p := p) (.inl rfl) x3' hbl2, by omega, by decide, b3', (by show 3113 + 50 * j + 1 + 15 + 1 + 25 < Lim; omega), fun y2 d3 H9 x9 b9 hd9 w9 => ?_⟩⟩
        have b9 : Bx H9 p (3113 + 50 * j + 1 + 15 + 1 + 25) := b9
        refine ⟨a, ws, y2, rfl, rfl, x9 _ _ nap g3', sz_lt (by omega), ?_⟩
        exact app H9 y2 _ rfl (x13.trans x9) (b9.le (by omega)) ⟨d3, hd9, by omega⟩
      | false =>
        refine ite_f ⟨y, rfl, a, ws, y, rfl, rfl, g3', sz_lt (by omega), ?_⟩
        exact app H3' y _ rfl x13 (b3'.le (by omega)) ⟨d', ((hd2.exB (p := p) (.inl rfl) x3' hbl2).to (by decide)).cc (by decide), by omega⟩
    · obtain ⟨ws, z6, z7, rfl, x1, b1, g1, l1, q0, q1, f1, it1⟩ := hW
      have b1 : Bx H1 p (3113 + 50 * 12) := b1
      have l1 : ws.length = 28 := l1
      obtain ⟨bl1, hbl1⟩ := b1.lst
      have so1 : SqT K H1 o (natsV l) := by
        rw [hFx] at f1
        exact f1.2.1
      refine ⟨.ref p, rfl, .ref o, rfl, by show 0 ≤ sizeLine; decide, fun e0 he0 => ?_⟩
      have n0 := Ex.new (o := .lst []) he0
      refine ⟨p, o, e0, l, [], [], 2, 3713, fun l => l.Perm (List.range rs.length), rfl, .inr (ex_t n0 so1), upd_same, .nil, (b1.ne he0).symm, by rw [lp.length_eq, List.length_range]; exact r0, by rw [lp.length_eq, List.length_range]; omega, by decide, b1.ex n0, by omega, lp, fun A a b B h _ => ((List.Perm.swap a b B).append_left A).trans h, fun o2 l2 H2 x2' b2' ho2 g2 ll2 pl2 => ?_⟩
      have x12 := (ExB.of n0).trans x2'
      have f2 := fxB f1 x12 (.inl rfl) hbl1
      have g2a : H2 a = some (.lst ws) := x12 _ _ nap g1
      have it2 : ∀ x ∈ ws, ItA (fun z => z = p ∨ z = a) K H2 x := fun x hx => (it1 x hx).exB (p := p) (.inl rfl) x12 hbl1
      have x02 := x1.trans x12
      refine g_at [some (.ref p), some v, some (.ref kp), some (.ref o), some (.ref wq), some (.ref a), z6, z7, some (.ref o2), none, none, none, none, none, none, none, none, none, none] rfl ?_
      refine q_forLn (K := K) (a := a) (xs := ws) (ev_var rfl) (sq_of g2a) (fun k σ' H' => ∃ (y9 y10 y11 y12 y13 : Option V), σ' = [some (.ref p), some v, some (.ref kp), some (.ref o), some (.ref wq), some (.ref a), z6, z7, some (.ref o2), y9, y10, y11, y12, y13, none, none, none, none, none] ∧ Ex H2 H') (fun H3 e3 => ⟨none, none, none, none, none, rfl, e3⟩) (fun k σ' H3 _ hW => ?_) (fun k x σ' H3 hx hW => ?_) (fun σ' H3 hW => ?_)
      · obtain ⟨y9, y10, y11, y12, y13, rfl, e3⟩ := hW
        exact sq_of (e3 _ _ g2a)
      · obtain ⟨y9, y10, y11, y12, y13, rfl, e3⟩ := hW
        obtain ⟨d, hd, wd⟩ := (it2 x (List.mem_of_getElem? hx)).ex e3
        refine s_at [some (.ref p), some v, some (.ref kp), some (.ref o), some (.ref wq), some (.ref a), z6, z7, some (.ref o2), some x, y10, y11, y12, y13, none, none, none, none, none] rfl ?_
        refine s_forNU (K := K) (xs := [.ref o, .ref o2]) (eu_tup (ea_cons (ev_var rfl) (ea_cons (ev_var rfl) ea_nil)) (by show 2 ≤ 100000; decide)) (fun tp i σ' H' => ∃ (y10 y11 y12 y13 : Option V), σ' = [some (.ref p), some v, some (.ref kp), some (.ref o), some (.ref wq), some (.ref a), z6, z7, some (.ref o2), some x, y10, y11, y12, y13, none, none, none, none, none] ∧ H' tp = some (.tup [.ref o, .ref o2]) ∧ Ex H3 H') (fun tp H4 _ e4 g4 => ⟨y10, y11, y12, y13, rfl, g4, e4⟩) (fun tp i σ' H4 _ hW => ?_) (fun tp i w' σ' H4 hw hW => ?_) (fun tp σ' H4 hW => ?_)
        · obtain ⟨y10, y11, y12, y13, rfl, g4, e4⟩ := hW
          exact st_of g4
        · obtain ⟨y10, y11, y12, y13, rfl, g4, e4⟩ := hW
          have f4 := fxE f2 (e3.trans e4)
          have f4' := f4
          rw [hFx] at f4'
          obtain ⟨hv4, so4, gk4, bk4, _, _⟩ := f4'
          obtain ⟨og, lg, rfl, sog, pg⟩ : ∃ (og : Addr) (lg : List Nat), w' = .ref og ∧ SqT K H4 og (natsV lg) ∧ lg.Perm (List.range rs.length) := by
            match i, hw with
            | 0, hw => cases hw; exact ⟨o, l, rfl, so4, lp⟩
            | 1, hw => cases hw; exact ⟨o2, l2, rfl, st_of ((e3.trans e4) _ _ g2), pl2⟩
            | i + 2, hw => cases hw
          have hd4 := hd.ex e4
          refine s_at [some (.ref p), some v, some (.ref kp), some (.ref o), some (.ref wq), some (.ref a), z6, z7, some (.ref o2), some x, some (.ref og), y11, y12, y13, none, none, none, none, none] rfl ?_
          refine q_par2 ?_
          refine ⟨v, rfl, .ref og, rfl, .ref kp, rfl, x, rfl, _, v, x, og, kp, rs, E1, B1, lg, uk, d, 2, 6, rfl, hv4, by omega, ht, sE, nE, sB, nB, sog, pg, gk4, bk4, hd4, by decide, by omega, fun H5 e5 => ?_⟩
          have rep : ∀ (σ : _root_.L2.St) (H' : Hp), σ[9]? = some (some x) → Ex H4 H' → Ev (tCB (fun xs H Q => ∃ (v : V) (d : PyData), xs = [v] ∧ Dp K H v d ∧ Nice 60 d ∧ d.showable = true ∧ d.shown.length ≤ sizeLine ∧ Q (.str d.shown) H) (tCons (tVar 9) tNil)) σ H' (.str d.shown) := fun σ H' h9 e' => ev_cb (ea_cons (ev_var h9) ea_nil) (rc_reprI (hd4.ex e') (by decide) (by decide) (by omega))
          refine rep _ H5 rfl e5 H5 (Ex.refl _) _ fun H6 e6 => ⟨_, _, rfl, ?_⟩
          have e46 := e5.trans e6
          generalize htx : d.shown = tx at rep
          refine s_at [some (.ref p), some v, some (.ref kp), some (.ref o), some (.ref wq), some (.ref a), z6, z7, some (.ref o2), some x, some (.ref og), some (.bl (showsD rs lg d)), some (.str tx), y13, none, none, none, none, none] rfl ?_
          have sv : SpV (spShowsA K) [v, .ref og, x] H6 (.bl (showsD rs lg d)) := fun Ha ea Q q E => ⟨_, v, x, og, rs, lg, d, 2, 6, rfl, hv4.ex (e46.trans ea), by omega, ex_t (e46.trans ea) sog, pg, hd4.ex (e46.trans ea), by decide, by omega, fun Hb eb => q Hb eb⟩
          refine q_asgL (xs := [.bl (showsD rs lg d), .bl (showsD rs lg d)]) (el_lst (ea_cons (ev_call (ea_cons (ev_var rfl) (ea_cons (ev_var rfl) (ea_cons (ev_var rfl) ea_nil))) sv) (ea_cons (ev_callN3 (ev_var rfl) (ev_var rfl) (ev_var rfl) sv) ea_nil)) (by show 2 ≤ 100000; decide)) fun tl H7 htl e7 g7' => ?_
          refine s_at [some (.ref p), some v, some (.ref kp), some (.ref o), some (.ref wq), some (.ref a), z6, z7, some (.ref o2), some x, some (.ref og), some (.bl (showsD rs lg d)), some (.str tx), some (.ref tl), none, none, none, none, none] rfl ?_
          have same : Ev (tCall (spSame K 4) [] E0 (tCons (tVar 13) (tCons (tLst (tCons (tVar 11) (tCons (tVar 11) tNil))) tNil))) [some (.ref p), some v, some (.ref kp), some (.ref o), some (.ref wq), some (.ref a), z6, z7, some (.ref o2), some x, some (.ref og), some (.bl (showsD rs lg d)), some (.str tx), some (.ref tl), none, none, none, none, none] H7 (.bl true) := fun H8 e8 Q8 k8 => ⟨.ref tl, rfl, (el_lst (ea_cons (ev_var rfl) (ea_cons (ev_var rfl) ea_nil)) (by show 2 ≤ 100000; decide) : EvL (tLst (tCons (tVar 11) (tCons (tVar 11) tNil))) [some (.ref p), some v, some (.ref kp), some (.ref o), some (.ref wq), some (.ref a), z6, z7, some (.ref o2), some x, some (.ref og), some (.bl (showsD rs lg d)), some (.str tx), some (.ref tl), none, none, none, none, none] H8 [.bl (showsD rs lg d), .bl (showsD rs lg d)]) H8 (Ex.refl _) _ fun c H9 hc e9 g9 => ⟨.ref tl, .ref c, rfl, alike_two (d := 3) (sq_of ((e8.trans e9) _ _ g7')) (sq_of g9) (.inl ⟨rfl, True.intro⟩) (.inl ⟨rfl, True.intro⟩), fun H10 e10 => k8 H10 (e9.trans e10)⟩⟩
          refine s_when (b := false) (et_is (et_or (et_not (et_B same)) fun _ => et_test (ev_op (rep _ H7 rfl (e46.trans e7)) (ev_var rfl) (rv_ne rfl))) (by rw [decide_eq_true rfl]; rfl)) (fun z => by cases z) fun _ H8 e8 => ⟨_, _, _, _, rfl, ((e46.trans e7).trans e8) _ _ g4, e4.trans ((e46.trans e7).trans e8)⟩
        · obtain ⟨y10, y11, y12, y13, rfl, g4, e4⟩ := hW
          exact ⟨_, _, _, _, _, rfl, e3.trans e4⟩
      · obtain ⟨y9, y10, y11, y12, y13, rfl, e3⟩ := hW
        have x03 := x02.trans (.of e3)
        have f3 := fxE f2 e3
        have b3' := b2'.ex e3
        have b3' : Bx H3 p 3715 := b3'
        try dsimp only
        refine q_run ?_
        refine cT9 (cC9 ?_)
        refine (eu_tup (ea_cons ev_c (ea_cons ev_c ea_nil)) (by show 2 ≤ 100000; decide) : EvU (tTup (tCons (tC (.int 0)) (tCons (tC (.int 0)) tNil))) [some (.ref p), some v, some (.ref kp), some (.ref o), some (.ref wq), some (.ref a), z6, z7, some (.ref o2), y9, y10, y11, y12, y13, none, none, none, none, none] H3 [.int 0, .int 0]) H3 (Ex.refl _) _ fun t1 H4 ht1 e4' g4' => ?_
        refine ⟨.ref p, rfl, p, 9, 3715, rfl, by decide, by decide, b3'.ex e4', by omega, fun r H5 r0' r1' x5' b5' => ⟨1, r, rfl, rfl, ?_⟩⟩
        refine ⟨by show 2 ≤ sizeLine; decide, fun t2 ht2 => ⟨by show 2 ≤ sizeLine; decide, fun t3 ht3 => ?_⟩⟩
        have n6 := Ex.new (o := .tup [.int (1 + r), .int 0]) ht2
        have n7 := Ex.new (o := .tup [.ref t1, .ref t2]) ht3
        have x35 : ExB p H3 H5 := (ExB.of e4').trans x5'
        obtain ⟨bl3, hbl3⟩ := b3'.lst
        have f5 := fxB f3 x35 (.inl rfl) hbl3
        have nt1 : t1 ≠ p := fun z => by
          rw [z, hbl3] at ht1
          cases ht1
        have gt1 : H5 t1 = some (.tup [.int 0, .int 0]) := x5' _ _ nt1 g4'
        have gt3 : (upd (upd H5 t2 (.tup [.int (1 + r), .int 0])) t3 (.tup [.ref t1, .ref t2])) t3 = some (.tup [.ref t1, .ref t2]) := upd_same
        have gt2 : (upd (upd H5 t2 (.tup [.int (1 + r), .int 0])) t3 (.tup [.ref t1, .ref t2])) t2 = some (.tup [.int (1 + r), .int 0]) := n7 _ _ upd_same
        have e57 := n6.trans n7
        try dsimp only
        generalize upd (upd H5 t2 (.tup [.int (1 + r), .int 0])) t3 (.tup [.ref t1, .ref t2]) = H6 at gt3 gt2 e57 ⊢
        refine s_at [some (.ref p), some v, some (.ref kp), some (.ref o), some (.ref wq), some (.ref a), z6, z7, some (.ref o2), y9, y10, y11, y12, y13, some (.ref t3), none, none, none, none] rfl ?_
        have gt1' := e57 _ _ gt1
        have rw2 : ∀ {H' : Hp} {c : Addr}, Ex H6 H' → H' c = some (.tup [.ref t1, .ref t2]) → RowAt K H' (.ref c) [(0, 0), (1 + r, 0)] := fun {H' c} e' g' => ⟨c, _, rfl, st_of g', BeastsT.be (us := [.ref t1, .ref t2]) (ps := [(0, 0), (1 + r, 0)]) (.cons ⟨t1, rfl, e' _ _ gt1'⟩ (.cons ⟨t2, rfl, e' _ _ gt2⟩ .nil))⟩
        have rw3 : ∀ {H' : Hp} {c : Addr}, Ex H6 H' → H' c = some (.tup [.ref t2, .ref t1]) → RowAt K H' (.ref c) [(1 + r, 0), (0, 0)] := fun {H' c} e' g' => ⟨c, _, rfl, st_of g', BeastsT.be (us := [.ref t2, .ref t1]) (ps := [(1 + r, 0), (0, 0)]) (.cons ⟨t2, rfl, e' _ _ gt2⟩ (.cons ⟨t1, rfl, e' _ _ gt1'⟩ .nil))⟩
        have fp : StrFit (wordOf true) := ⟨by decide +kernel, by decide +kernel⟩
        have ff : StrFit (wordOf false) := ⟨by decide +kernel, by decide +kernel⟩
        have st1 : showsD [(0, 0), (1 + r, 0)] [1, 0] (.list [.tuple [.str (wordOf true), .int 1]]) = true := shows_two (w := true) (n := 1) rfl (by
          show letsZ [(0, 0), (1 + r, 0)] ((1 : Nat) : Int) = true
          rw [letsZ_nat (by show 1 < 2; decide)]
          show (decide (0 < 1) && decide ((1 + r) - 0 > (0 : Int))) = true
          rw [decide_eq_true (show (1 + r) - 0 > (0 : Int) by omega)]
          rfl)
        have st2 : showsD [(1 + r, 0), (0, 0)] [1, 0] (.list [.tuple [.str (wordOf false), .int 0]]) = true := shows_two (w := false) (n := 0) rfl (by
          show (decide ((0 : Int) ≤ 0 ∧ (0 : Int) + 1 < 2) && decide ((1 + r) > (0 : Int))) = true
          rw [decide_eq_true (show (1 + r) > (0 : Int) by omega)]
          rfl)
        refine q_asgL (xs := [.bl true, .bl false]) (el_twoU (eu_tup (ea_cons ev_c (ea_cons ev_c ea_nil)) (by show 2 ≤ 100000; decide)) (fun _ => rfl) (fun H7 e7 => ev_is (ev_shows1 (w := wordOf true) (dx := .int 1) (x := .int 1) (er_val (ev_var rfl) (rw2 e7 (e7 _ _ gt3))) rfl (fun H8 e8 => ev_var rfl) ⟨rfl, by decide⟩ fp) (by rw [st1])) (fun H7 e7 => ev_is (ev_shows1 (w := wordOf true) (dx := .bool true) (x := .bl true) (er_val (ev_var rfl) (rw2 e7 (e7 _ _ gt3))) rfl (fun H8 e8 => ev_var rfl) rfl fp) (by rw [shows_bl]))) fun tl H7 htl e7 g7' => ?_
        refine s_at [some (.ref p), some v, some (.ref kp), some (.ref o), some (.ref wq), some (.ref a), z6, z7, some (.ref o2), y9, y10, y11, y12, some (.ref tl), some (.ref t3), none, none, none, none] rfl ?_
        refine q_run ?_
        refine ⟨.ref tl, rfl, ?_⟩
        refine (el_twoU (K := K) (σ := [some (.ref p), some v, some (.ref kp), some (.ref o), some (.ref wq), some (.ref a), z6, z7, some (.ref o2), y9, y10, y11, y12, some (.ref tl), some (.ref t3), none, none, none, none]) (H := H7) (y1 := .bl true) (y2 := .bl false) (eu_tup (ea_cons ev_c (ea_cons ev_c ea_nil)) (by show 2 ≤ 100000; decide)) (fun _ => rfl) (fun H8 e8 => ev_is (ev_shows1 (w := wordOf false) (dx := .int 0) (x := .int 0) (fun H9 e9 Q k => (eu_revT (ev_var rfl) (st_of ((e7.trans (e8.trans e9)) _ _ gt3))) H9 (Ex.refl _) _ fun c H10 _ e10 g10 => k _ H10 e10 (rw3 ((e7.trans (e8.trans e9)).trans e10) g10)) rfl (fun H9 e9 => ev_var rfl) ⟨rfl, by decide⟩ ff) (by rw [st2])) (fun H8 e8 => ev_is (ev_shows1 (w := wordOf false) (dx := .bool false) (x := .bl false) (fun H9 e9 Q k => (eu_revT (ev_var rfl) (st_of ((e7.trans (e8.trans e9)) _ _ gt3))) H9 (Ex.refl _) _ fun c H10 _ e10 g10 => k _ H10 e10 (rw3 ((e7.trans (e8.trans e9)).trans e10) g10)) rfl (fun H9 e9 => ev_var rfl) rfl ff) (by rw [shows_bl]))) H7 (Ex.refl _) _ fun tm H8 htm e8 g8' => ?_
        refine ⟨tl, tm, _, _, rfl, rfl, e8 _ _ g7', g8', by show 4 ≤ sizeLine; decide, fun tn htn => ?_⟩
        have n9 := Ex.new (o := .lst ([.bl true, .bl false] ++ [.bl true, .bl false])) htn
        have g9 : (upd H8 tn (.lst ([V.bl true, .bl false] ++ [.bl true, .bl false]))) tn = some (.lst [.bl true, .bl false, .bl true, .bl false]) := upd_same
        have e69 := (e7.trans e8).trans n9
        try dsimp only
        generalize upd H8 tn (.lst ([V.bl true, .bl false] ++ [.bl true, .bl false])) = H9 at g9 e69 ⊢
        refine s_at [some (.ref p), some v, some (.ref kp), some (.ref o), some (.ref wq), some (.ref a), z6, z7, some (.ref o2), y9, y10, y11, y12, some (.ref tn), some (.ref t3), none, none, none, none] rfl ?_
        have e59 := e57.trans e69
        have f9' := fxE f5 e59
        rw [hFx] at f9'
        obtain ⟨hv9', so9, _, _, dw9, _⟩ := f9'
        have b9' := b5'.ex e59
        have x09 := (x03.trans x35).trans (.of e59)
        have dpB : ∀ {H' : Hp} {c : Addr}, H' c = some (.lst [.bl true, .bl false, .bl true, .bl false]) → Dp K H' (.ref c) (.list [.bool true, .bool false, .bool true, .bool false]) := fun {H' c} g' => .lst (sq_of g') (.cons (.bl _) (.cons (.bl _) (.cons (.bl _) (.cons (.bl _) .nil))))
        have nB : Nice 1 (.list [.bool true, .bool false, .bool true, .bool false]) := ⟨by decide +kernel, by decide +kernel⟩
        refine ret_run ?_
        refine ⟨.ref tn, rfl, ?_⟩
        refine (el_lst (ea_cons ev_c (ea_cons ev_c ea_nil)) (by show 2 ≤ 100000; decide) : EvL (tLst (tCons (tC (.bl true)) (tCons (tC (.bl false)) tNil))) [some (.ref p), some v, some (.ref kp), some (.ref o), some (.ref wq), some (.ref a), z6, z7, some (.ref o2), y9, y10, y11, y12, some (.ref tn), some (.ref t3), none, none, none, none] H9 [.bl true, .bl false]) H9 (Ex.refl _) _ fun tb HB1 htb eB1 gB1 => ⟨tb, 2, _, rfl, rfl, gB1, by decide, by decide, by decide, fun tc htc => ?_⟩
        have nC := Ex.new (o := .lst (List.replicate (2 : Int).toNat [V.bl true, .bl false]).flatten) htc
        have gC : (upd HB1 tc (.lst (List.replicate (2 : Int).toNat [V.bl true, .bl false]).flatten)) tc = some (.lst [.bl true, .bl false, .bl true, .bl false]) := upd_same
        have e9C := eB1.trans nC
        try dsimp only
        generalize upd HB1 tc (.lst (List.replicate (2 : Int).toNat [V.bl true, .bl false]).flatten) = HC at gC e9C ⊢
        refine rv_eqD1 (H := HC) (dpB (e9C _ _ g9)) (dpB gC) nB (by decide) HC (Ex.refl _) _ fun HD eD => ⟨true, rfl, ?_⟩
        have e9D := e9C.trans eD
        refine ite_t ?_
        refine ⟨v, rfl, .ref o, rfl, .ref wq, rfl, _, v, .ref wq, o, rs, l, .list (ds.map deedD), 0, 2, rfl, hv9'.ex e9D, by omega, ex_t e9D so9, lp, dw9.ex e9D, by decide, by rw [deeds_wtL]; omega, fun HE eE => ?_⟩
        rw [wayN_shows way ht kl]
        refine ⟨true, true, rfl, rfl, true, rfl, ite_t ?_⟩
        have e9E := e9D.trans eE
        exact ⟨.ref p, rfl, p, 3716, rfl, b9'.ex e9E, by omega, fun HF xF => q HF ((x09.trans (.of e9E)).trans xF)⟩
theorem okG_law {f f1 f2 f3 : Addr} {fd fd1 fd2 fd3 : FuncData} (F : FnP K "law" s_law f fd) (h_law_folded : Has P w K mg base 1 "_law_folded" ["_law_script", "_law_many"] (spFolded K) f1 fd1) (h_law_dip : Has P w K mg base 1 "_law_dip" ["_law_script", "_law_k"] (spDip K) f2 fd2) (h_law_right : HasG P w K mg base 9 "_law_right" ["_law_box"] spRight f3 fd3)
    (m_range : mg "range" = none) (m_len : mg "len" = none) (m_all : mg "all" = none) : FnG P w K mg base 10 f fd ["_law_script"] (spLaw K) := by
  refine FnG.of F sc_law (fun vs H Q E h => ?_) (fun cdv A outer s H vs Q E gd hr h => ?_)
  · obtain ⟨a, ns, rfl, _⟩ := h
    rfl
  · obtain ⟨a, ns, rfl, hS, hlen, q⟩ := h
    refine ⟨_, PSs.nox (pss_cons (ps_set (i := 1) sc_law.nd rfl (.inr rfl) (pe_call h_law_folded.G (hr.mono (by decide)) (by rfl) h_law_folded.g h_law_folded.kp h_law_folded.b .nil pass0 (pa_cons (pv 0) (pa_cons pe_int pa_nil))))
      (pss_one (ps_ret (pe_callB (cr_all rfl) (by rfl) m_all (by decide +kernel) (pa_cons (pe_lc (own := [("_law_k", 2)]) (g := gName 2) (by rfl) sc_law.nd (pi_range1 (by rfl) m_range (pa_cons (pe_op op_add pe_int (pe_callB call_len_seq (by rfl) m_len PySem.boot_len (pa_cons (pv 1) pa_nil))) pa_nil)) (blkOk_by (own := [("_law_k", 2)]) (N := ["_law_script", "_law_cells", "_law_k"]) (sc := defScope s_law) (by decide +kernel)) (fun _ _ _ _ _ => (pg_name (i := 2) sc_law.nd rfl (Or.inl rfl))) (fun _ _ _ _ _ => pts_nil) (fun _ _ _ _ _ => (pe_callG h_law_right.G gd (hr.mono (by decide)) (by rfl) h_law_right.g h_law_right.kp h_law_right.b (pa_cons (pe_call h_law_dip.G (hr.mono (by decide)) (by rfl) h_law_dip.g h_law_dip.kp h_law_dip.b .nil pass0 (pa_cons (pv 1) (pa_cons (pv 2) pa_nil))) pa_nil)))) pa_nil))))), ?_⟩
    refine q_call ⟨.ref a, rfl, a, 3, ns, rfl, by decide, by decide, hS, hlen, fun l H1 ms hl e1 hm h1 => ?_⟩
    refine s_ret (D := { nx := fun _ H' => Q .non H', rt := Q }) (ev_allT (n := 1 + ms.length) ?_) fun H2 e2 => q H2
    have key := el_lcR1 (σ := [some (.ref a), some (.ref l), none]) (H := H1) (n := ((1 + ms.length : Nat) : Int)) (ta := tCons (tOp (rI0 fun i j => .int (i + j)) (tC (.int 1)) (tCB (rLenS K) (tCons (tVar 1) tNil))) tNil) (j := 2) (vs := [2]) (t := tYes) (te := tCall spRight [] E0 (tCons (tCall (spDip K) [] E0 (tCons (tVar 1) (tCons (tVar 2) tNil))) tNil)) (fun _ => true) (fun _ => .bl true) (ea_cons (ev_is (ev_op ev_c (ev_len (ev_var rfl) (sq_of h1)) rv_I0) (by congr 1; rw [List.length_map]; omega)) ea_nil) ⟨by omega, by omega⟩ (fun x => rfl) (fun i H1 e1 hi => et_yes) (fun i H3 e3 hi _ => ?_)
    · have e0 : given ((1 + ms.length : Nat) : Int).toNat (fun _ => true) (fun _ => V.bl true) = (List.replicate (1 + ms.length) true).map V.bl := by
        rw [Int.toNat_natCast, given_all _ (fun _ => true)]
        congr 1
        rw [List.eq_replicate_iff]
        refine ⟨by rw [List.length_map, List.length_range], fun b hb => ?_⟩
        obtain ⟨_, _, rfl⟩ := List.mem_map.mp hb
        rfl
      rw [e0] at key
      exact key
    · intro H4 e4 Q4 q4
      refine ⟨.ref l, rfl, .int (i : Int), rfl, l, i, ms, rfl, sq_of ((e3.trans e4) _ _ h1), by omega, fun b H5 hb e5 hx => ?_⟩
      refine ⟨b, rfl, hx, fun H6 x6 => q4 H6 fun c o hc => x6 c o (ne_of_none hc hb) (e5 c o hc)⟩
end
end K29
set_option maxHeartbeats 0
namespace K29
open PySem PySem.Spec PyProof.Rows L2 Evl HH RZ
def d_is_number : He.DefD := ⟨("is_number", none), "is_number", "is_number", defArgs s_is_number, defBody s_is_number, defScope s_is_number, [], []⟩
def d_can_pass : He.DefD := ⟨("can_pass", none), "can_pass", "can_pass", defArgs s_can_pass, defBody s_can_pass, defScope s_can_pass, [], []⟩
def d_can_fall : He.DefD := ⟨("can_fall", none), "can_fall", "can_fall", defArgs s_can_fall, defBody s_can_fall, defScope s_can_fall, [], []⟩
def d_passed : He.DefD := ⟨("passed", none), "passed", "passed", defArgs s_passed, defBody s_passed, defScope s_passed, [], []⟩
def d_fallen : He.DefD := ⟨("fallen", none), "fallen", "fallen", defArgs s_fallen, defBody s_fallen, defScope s_fallen, [], []⟩
def d_swapped : He.DefD := ⟨("swapped", none), "swapped", "swapped", defArgs s_swapped, defBody s_swapped, defScope s_swapped, [], []⟩
def d_can_do : He.DefD := ⟨("can_do", none), "can_do", "can_do", defArgs s_can_do, defBody s_can_do, defScope s_can_do, [], []⟩
def d_led : He.DefD := ⟨("led", none), "led", "led", defArgs s_led, defBody s_led, defScope s_led, [], []⟩
def d_places_of : He.DefD := ⟨("places_of", none), "places_of", "places_of", defArgs s_places_of, defBody s_places_of, defScope s_places_of, [], []⟩
def d_turned_about : He.DefD := ⟨("turned_about", none), "turned_about", "turned_about", defArgs s_turned_about, defBody s_turned_about, defScope s_turned_about, [], []⟩
def d_is_deed : He.DefD := ⟨("is_deed", none), "is_deed", "is_deed", defArgs s_is_deed, defBody s_is_deed, defScope s_is_deed, [], []⟩
def d_leads_to : He.DefD := ⟨("leads_to", none), "leads_to", "leads_to", defArgs s_leads_to, defBody s_leads_to, defScope s_leads_to, [], []⟩
def d_shows_way : He.DefD := ⟨("shows_way", none), "shows_way", "shows_way", defArgs s_shows_way, defBody s_shows_way, defScope s_shows_way, [], []⟩
def d_law_dip : He.DefD := ⟨("_law_dip", none), "_law_dip", "_law_dip", defArgs s_law_dip, defBody s_law_dip, defScope s_law_dip, [], []⟩
def d_law_take : He.DefD := ⟨("_law_take", none), "_law_take", "_law_take", defArgs s_law_take, defBody s_law_take, defScope s_law_take, [], []⟩
def d_law_folded : He.DefD := ⟨("_law_folded", none), "_law_folded", "_law_folded", defArgs s_law_folded, defBody s_law_folded, defScope s_law_folded, [], []⟩
def d_law_same : He.DefD := ⟨("_law_same", none), "_law_same", "_law_same", defArgs s_law_same, defBody s_law_same, defScope s_law_same, [], []⟩
def d_law_of : He.DefD := ⟨("_law_of", none), "_law_of", "_law_of", defArgs s_law_of, defBody s_law_of, defScope s_law_of, [], []⟩
def d_law_row : He.DefD := ⟨("_law_row", none), "_law_row", "_law_row", defArgs s_law_row, defBody s_law_row, defScope s_law_row, [], []⟩
def d_law_lets : He.DefD := ⟨("_law_lets", none), "_law_lets", "_law_lets", defArgs s_law_lets, defBody s_law_lets, defScope s_law_lets, [], []⟩
def d_law_passed : He.DefD := ⟨("_law_passed", none), "_law_passed", "_law_passed", defArgs s_law_passed, defBody s_law_passed, defScope s_law_passed, [], []⟩
def d_law_fallen : He.DefD := ⟨("_law_fallen", none), "_law_fallen", "_law_fallen", defArgs s_law_fallen, defBody s_law_fallen, defScope s_law_fallen, [], []⟩
def d_law_ended : He.DefD := ⟨("_law_ended", none), "_law_ended", "_law_ended", defArgs s_law_ended, defBody s_law_ended, defScope s_law_ended, [], []⟩
def d_law_begun : He.DefD := ⟨("_law_begun", none), "_law_begun", "_law_begun", defArgs s_law_begun, defBody s_law_begun, defScope s_law_begun, [], []⟩
def d_law_bent : He.DefD := ⟨("_law_bent", none), "_law_bent", "_law_bent", defArgs s_law_bent, defBody s_law_bent, defScope s_law_bent, [], []⟩
def d_law_pairs : He.DefD := ⟨("_law_pairs", none), "_law_pairs", "_law_pairs", defArgs s_law_pairs, defBody s_law_pairs, defScope s_law_pairs, [], []⟩
def d_law_turned : He.DefD := ⟨("_law_turned", none), "_law_turned", "_law_turned", defArgs s_law_turned, defBody s_law_turned, defScope s_law_turned, [], []⟩
def d_law_kept : He.DefD := ⟨("_law_kept", none), "_law_kept", "_law_kept", defArgs s_law_kept, defBody s_law_kept, defScope s_law_kept, [], []⟩
def d_law_near : He.DefD := ⟨("_law_near", none), "_law_near", "_law_near", defArgs s_law_near, defBody s_law_near, defScope s_law_near, [], []⟩
def d_law_drawn_way : He.DefD := ⟨("_law_drawn_way", none), "_law_drawn_way", "_law_drawn_way", defArgs s_law_drawn_way, defBody s_law_drawn_way, defScope s_law_drawn_way, [], []⟩
def d_law_detour : He.DefD := ⟨("_law_detour", none), "_law_detour", "_law_detour", defArgs s_law_detour, defBody s_law_detour, defScope s_law_detour, [], []⟩
def d_law_due : He.DefD := ⟨("_law_due", none), "_law_due", "_law_due", defArgs s_law_due, defBody s_law_due, defScope s_law_due, [], []⟩
def d_law_great_right : He.DefD := ⟨("_law_great_right", none), "_law_great_right", "_law_great_right", defArgs s_law_great_right, defBody s_law_great_right, defScope s_law_great_right, [], []⟩
def d_law_right : He.DefD := ⟨("_law_right", none), "_law_right", "_law_right", defArgs s_law_right, defBody s_law_right, defScope s_law_right, [], []⟩
def d_law : He.DefD := ⟨("law", none), "law", "law", defArgs s_law, defBody s_law, defScope s_law, [], []⟩
def d_ini_MayNot : He.DefD := ⟨("MayNot", some "__init__"), "__init__", "MayNot.__init__", defArgs s_ini_MayNot, defBody s_ini_MayNot, defScope s_ini_MayNot, [], []⟩
def d_ini_NotLet : He.DefD := ⟨("NotLet", some "__init__"), "__init__", "NotLet.__init__", defArgs s_ini_NotLet, defBody s_ini_NotLet, defScope s_ini_NotLet, [], []⟩
def fnsL : List He.DefD := [d_is_number, d_can_pass, d_can_fall, d_passed, d_fallen, d_swapped, d_can_do, d_led, d_places_of, d_turned_about, d_is_deed, d_leads_to, d_shows_way, d_law_dip, d_law_take, d_law_folded, d_law_same, d_law_of, d_law_row, d_law_lets, d_law_passed, d_law_fallen, d_law_ended, d_law_begun, d_law_bent, d_law_pairs, d_law_turned, d_law_kept, d_law_near, d_law_drawn_way, d_law_detour, d_law_due, d_law_great_right, d_law_right, d_law, d_ini_MayNot, d_ini_NotLet]
def faL : List He.Fa := [.glo "is_number", .glo "can_pass", .glo "can_fall", .glo "passed", .glo "fallen", .glo "swapped", .glo "can_do", .glo "led", .glo "places_of", .glo "turned_about", .glo "is_deed", .glo "leads_to", .glo "shows_way", .glo "_law_dip", .glo "_law_take", .glo "_law_folded", .glo "_law_same", .glo "_law_of", .glo "_law_row", .glo "_law_lets", .glo "_law_passed", .glo "_law_fallen", .glo "_law_ended", .glo "_law_begun", .glo "_law_bent", .glo "_law_pairs", .glo "_law_turned", .glo "_law_kept", .glo "_law_near", .glo "_law_drawn_way", .glo "_law_detour", .glo "_law_due", .glo "_law_great_right", .glo "_law_right", .glo "law", .free "RuntimeError", .free "abs", .free "all", .free "any", .free "bool", .free "dict", .free "enumerate", .free "int", .free "isinstance", .free "len", .free "list", .free "max", .free "range", .free "repr", .free "sorted", .free "str", .free "tuple", .free "zip", .glo "MayNot", .glo "NotLet"]
def exK (K : PySem.W.Frag) : Bool := exTyB K .run "place" (He.ga K "MayNot") (He.ma K (He.ga K "MayNot") "__init__") && (exTyB K .run "number" (He.ga K "NotLet") (He.ma K (He.ga K "NotLet") "__init__") && (decide (PySem.W.exmOne K (.ref (He.ga K "NotLet")) (.ref (He.ga K "NotLet")) = some true) && (decide (PySem.W.kitOne K (.ref (He.ga K "MayNot")) (.ref (He.ga K "MayNot")) = some true) && (decide (PySem.W.kitOne K (.ref (He.ga K "MayNot")) (.type "RuntimeError") = some true)))))
abbrev R : PySem.W.OpenRow := PySem.W.OpenLaw.row PySem.Challenge.rw_hayherd_k29_ways_shown_or_not
abbrev hk : PySem.W.Hook := He.hookX 4 faL fnsL [] [] exK
def ob (s : PySem.W.SharedT) : He.AlX := He.obsX 4 faL fnsL [] [] exK (HandSHeadRun.getT s)
theorem ob_eq (s : PySem.W.SharedT) : ob s = hk.obs s.abs := He.obsX_eq (HandSHeadRun.getT_eq s)
def loose0 : List PySem.Str := ["MayNot", "NotLet", "is_number", "can_pass", "can_fall", "passed", "fallen", "swapped", "can_do", "led", "places_of", "turned_about", "is_deed", "leads_to", "shows_way", "_law_dip", "_law_take", "_law_folded", "_law_same", "_law_of", "_law_row", "_law_lets"]
def loose1 : List PySem.Str := ["_law_passed", "_law_fallen", "_law_ended", "_law_begun", "_law_bent", "_law_pairs", "_law_turned", "_law_kept", "_law_near", "_law_drawn_way", "_law_detour", "_law_due", "_law_great_right", "_law_right"]
def loose : List PySem.Str := loose0 ++ loose1
theorem run (w : World) : HandSHeadRun.RunEq R (PySem.W.view R.prog [41]) hk ob 3000 loose w := by
  intro os
  kernel_rfl
end K29
set_option maxHeartbeats 0
namespace K29
open PySem PySem.Spec PyProof.Rows L2 Evl HH RZ
theorem facts {P : Program} {w : World} {K : PySem.W.Frag} {h : Heap} {mg : Str → Option Value} {f : Addr} (X : K.In h) (G : h.Ns mainGlobals mg) (hfa : mg ("law" : Str) = some (.ref f)) {h0 : Heap} (cx : He.SaysX faL fnsL [] [] exK w h0 K) :
    ∃ fd : FuncData, (∀ (s : Shared) (v : Value), BindsTo s fd ⟨[v], []⟩ [("_law_script", v)]) ∧ ∀ base : Heap, K.In base → base.Ns mainGlobals mg → FnG P w K mg base 10 f fd ["_law_script"] (spLaw K) := by
  have c := cx.t.d
  obtain ⟨fd_is_number, F_is_number⟩ := c.def_ 0 (d := d_is_number) rfl
  have g_is_number := He.glo_ok X G (c.fact 0 (f := .glo "is_number") rfl)
  have b_is_number : Binds K fd_is_number ["thing"] [] := F_is_number.bindsN fun _ _ _ _ _ _ us hl => match us, hl with | [_], _ => rfl
  obtain ⟨fd_can_pass, F_can_pass⟩ := c.def_ 1 (d := d_can_pass) rfl
  have g_can_pass := He.glo_ok X G (c.fact 1 (f := .glo "can_pass") rfl)
  have b_can_pass : Binds K fd_can_pass ["row", "place"] [] := F_can_pass.bindsN fun _ _ _ _ _ _ us hl => match us, hl with | [_, _], _ => rfl
  obtain ⟨fd_can_fall, F_can_fall⟩ := c.def_ 2 (d := d_can_fall) rfl
  have g_can_fall := He.glo_ok X G (c.fact 2 (f := .glo "can_fall") rfl)
  have b_can_fall : Binds K fd_can_fall ["row", "place"] [] := F_can_fall.bindsN fun _ _ _ _ _ _ us hl => match us, hl with | [_, _], _ => rfl
  obtain ⟨fd_passed, F_passed⟩ := c.def_ 3 (d := d_passed) rfl
  have g_passed := He.glo_ok X G (c.fact 3 (f := .glo "passed") rfl)
  have b_passed : Binds K fd_passed ["row", "place"] [] := F_passed.bindsN fun _ _ _ _ _ _ us hl => match us, hl with | [_, _], _ => rfl
  obtain ⟨fd_fallen, F_fallen⟩ := c.def_ 4 (d := d_fallen) rfl
  have g_fallen := He.glo_ok X G (c.fact 4 (f := .glo "fallen") rfl)
  have b_fallen : Binds K fd_fallen ["row", "place"] [] := F_fallen.bindsN fun _ _ _ _ _ _ us hl => match us, hl with | [_, _], _ => rfl
  obtain ⟨fd_swapped, F_swapped⟩ := c.def_ 5 (d := d_swapped) rfl
  have g_swapped := He.glo_ok X G (c.fact 5 (f := .glo "swapped") rfl)
  have b_swapped : Binds K fd_swapped ["order", "place"] [] := F_swapped.bindsN fun _ _ _ _ _ _ us hl => match us, hl with | [_, _], _ => rfl
  obtain ⟨fd_can_do, F_can_do⟩ := c.def_ 6 (d := d_can_do) rfl
  have g_can_do := He.glo_ok X G (c.fact 6 (f := .glo "can_do") rfl)
  have b_can_do : Binds K fd_can_do ["row", "word", "place"] [] := F_can_do.bindsN fun _ _ _ _ _ _ us hl => match us, hl with | [_, _, _], _ => rfl
  obtain ⟨fd_led, F_led⟩ := c.def_ 7 (d := d_led) rfl
  have g_led := He.glo_ok X G (c.fact 7 (f := .glo "led") rfl)
  have b_led : Binds K fd_led ["row", "deeds"] [] := F_led.bindsN fun _ _ _ _ _ _ us hl => match us, hl with | [_, _], _ => rfl
  obtain ⟨fd_places_of, F_places_of⟩ := c.def_ 8 (d := d_places_of) rfl
  have g_places_of := He.glo_ok X G (c.fact 8 (f := .glo "places_of") rfl)
  have b_places_of : Binds K fd_places_of ["order"] [] := F_places_of.bindsN fun _ _ _ _ _ _ us hl => match us, hl with | [_], _ => rfl
  obtain ⟨fd_turned_about, F_turned_about⟩ := c.def_ 9 (d := d_turned_about) rfl
  have g_turned_about := He.glo_ok X G (c.fact 9 (f := .glo "turned_about") rfl)
  have b_turned_about : Binds K fd_turned_about ["order"] [] := F_turned_about.bindsN fun _ _ _ _ _ _ us hl => match us, hl with | [_], _ => rfl
  obtain ⟨fd_is_deed, F_is_deed⟩ := c.def_ 10 (d := d_is_deed) rfl
  have g_is_deed := He.glo_ok X G (c.fact 10 (f := .glo "is_deed") rfl)
  have b_is_deed : Binds K fd_is_deed ["thing"] [] := F_is_deed.bindsN fun _ _ _ _ _ _ us hl => match us, hl with | [_], _ => rfl
  obtain ⟨fd_leads_to, F_leads_to⟩ := c.def_ 11 (d := d_leads_to) rfl
  have g_leads_to := He.glo_ok X G (c.fact 11 (f := .glo "leads_to") rfl)
  have b_leads_to : Binds K fd_leads_to ["row", "order", "deeds"] [] := F_leads_to.bindsN fun _ _ _ _ _ _ us hl => match us, hl with | [_, _, _], _ => rfl
  obtain ⟨fd_shows_way, F_shows_way⟩ := c.def_ 12 (d := d_shows_way) rfl
  have g_shows_way := He.glo_ok X G (c.fact 12 (f := .glo "shows_way") rfl)
  have b_shows_way : Binds K fd_shows_way ["row", "order", "thing"] [] := F_shows_way.bindsN fun _ _ _ _ _ _ us hl => match us, hl with | [_, _, _], _ => rfl
  obtain ⟨fd_law_dip, F_law_dip⟩ := c.def_ 13 (d := d_law_dip) rfl
  have g_law_dip := He.glo_ok X G (c.fact 13 (f := .glo "_law_dip") rfl)
  have b_law_dip : Binds K fd_law_dip ["_law_script", "_law_k"] [] := F_law_dip.bindsN fun _ _ _ _ _ _ us hl => match us, hl with | [_, _], _ => rfl
  obtain ⟨fd_law_take, F_law_take⟩ := c.def_ 14 (d := d_law_take) rfl
  have g_law_take := He.glo_ok X G (c.fact 14 (f := .glo "_law_take") rfl)
  have b_law_take : Binds K fd_law_take ["_law_box", "_law_many"] [] := F_law_take.bindsN fun _ _ _ _ _ _ us hl => match us, hl with | [_, _], _ => rfl
  obtain ⟨fd_law_folded, F_law_folded⟩ := c.def_ 15 (d := d_law_folded) rfl
  have g_law_folded := He.glo_ok X G (c.fact 15 (f := .glo "_law_folded") rfl)
  have b_law_folded : Binds K fd_law_folded ["_law_script", "_law_many"] [] := F_law_folded.bindsN fun _ _ _ _ _ _ us hl => match us, hl with | [_, _], _ => rfl
  obtain ⟨fd_law_same, F_law_same⟩ := c.def_ 16 (d := d_law_same) rfl
  have g_law_same := He.glo_ok X G (c.fact 16 (f := .glo "_law_same") rfl)
  have b_law_same : Binds K fd_law_same ["_law_found", "_law_due_here"] [] := F_law_same.bindsN fun _ _ _ _ _ _ us hl => match us, hl with | [_, _], _ => rfl
  obtain ⟨fd_law_of, F_law_of⟩ := c.def_ 17 (d := d_law_of) rfl
  have g_law_of := He.glo_ok X G (c.fact 17 (f := .glo "_law_of") rfl)
  have b_law_of : Binds K fd_law_of ["_law_box", "_law_pool"] [] := F_law_of.bindsN fun _ _ _ _ _ _ us hl => match us, hl with | [_, _], _ => rfl
  obtain ⟨fd_law_row, F_law_row⟩ := c.def_ 18 (d := d_law_row) rfl
  have g_law_row := He.glo_ok X G (c.fact 18 (f := .glo "_law_row") rfl)
  have b_law_row : Binds K fd_law_row ["_law_box", "_law_most"] [] := F_law_row.bindsN fun _ _ _ _ _ _ us hl => match us, hl with | [_, _], _ => rfl
  obtain ⟨fd_law_lets, F_law_lets⟩ := c.def_ 19 (d := d_law_lets) rfl
  have g_law_lets := He.glo_ok X G (c.fact 19 (f := .glo "_law_lets") rfl)
  have b_law_lets : Binds K fd_law_lets ["_law_row_now", "_law_place"] [] := F_law_lets.bindsN fun _ _ _ _ _ _ us hl => match us, hl with | [_, _], _ => rfl
  obtain ⟨fd_law_passed, F_law_passed⟩ := c.def_ 20 (d := d_law_passed) rfl
  have g_law_passed := He.glo_ok X G (c.fact 20 (f := .glo "_law_passed") rfl)
  have b_law_passed : Binds K fd_law_passed ["_law_row_now", "_law_place"] [] := F_law_passed.bindsN fun _ _ _ _ _ _ us hl => match us, hl with | [_, _], _ => rfl
  obtain ⟨fd_law_fallen, F_law_fallen⟩ := c.def_ 21 (d := d_law_fallen) rfl
  have g_law_fallen := He.glo_ok X G (c.fact 21 (f := .glo "_law_fallen") rfl)
  have b_law_fallen : Binds K fd_law_fallen ["_law_row_now", "_law_place"] [] := F_law_fallen.bindsN fun _ _ _ _ _ _ us hl => match us, hl with | [_, _], _ => rfl
  obtain ⟨fd_law_ended, F_law_ended⟩ := c.def_ 22 (d := d_law_ended) rfl
  have g_law_ended := He.glo_ok X G (c.fact 22 (f := .glo "_law_ended") rfl)
  have b_law_ended : Binds K fd_law_ended ["_law_box", "_law_row_now"] [] := F_law_ended.bindsN fun _ _ _ _ _ _ us hl => match us, hl with | [_, _], _ => rfl
  obtain ⟨fd_law_begun, F_law_begun⟩ := c.def_ 23 (d := d_law_begun) rfl
  have g_law_begun := He.glo_ok X G (c.fact 23 (f := .glo "_law_begun") rfl)
  have b_law_begun : Binds K fd_law_begun ["_law_box", "_law_row_now"] [] := F_law_begun.bindsN fun _ _ _ _ _ _ us hl => match us, hl with | [_, _], _ => rfl
  obtain ⟨fd_law_bent, F_law_bent⟩ := c.def_ 24 (d := d_law_bent) rfl
  have g_law_bent := He.glo_ok X G (c.fact 24 (f := .glo "_law_bent") rfl)
  have b_law_bent : Binds K fd_law_bent ["_law_box", "_law_odd_thing"] [] := F_law_bent.bindsN fun _ _ _ _ _ _ us hl => match us, hl with | [_, _], _ => rfl
  obtain ⟨fd_law_pairs, F_law_pairs⟩ := c.def_ 25 (d := d_law_pairs) rfl
  have g_law_pairs := He.glo_ok X G (c.fact 25 (f := .glo "_law_pairs") rfl)
  have b_law_pairs : Binds K fd_law_pairs ["_law_many"] [] := F_law_pairs.bindsN fun _ _ _ _ _ _ us hl => match us, hl with | [_], _ => rfl
  obtain ⟨fd_law_turned, F_law_turned⟩ := c.def_ 26 (d := d_law_turned) rfl
  have g_law_turned := He.glo_ok X G (c.fact 26 (f := .glo "_law_turned") rfl)
  have b_law_turned : Binds K fd_law_turned ["_law_queue"] [] := F_law_turned.bindsN fun _ _ _ _ _ _ us hl => match us, hl with | [_], _ => rfl
  obtain ⟨fd_law_kept, F_law_kept⟩ := c.def_ 27 (d := d_law_kept) rfl
  have g_law_kept := He.glo_ok X G (c.fact 27 (f := .glo "_law_kept") rfl)
  have b_law_kept : Binds K fd_law_kept ["_law_box", "_law_row_now"] [] := F_law_kept.bindsN fun _ _ _ _ _ _ us hl => match us, hl with | [_, _], _ => rfl
  obtain ⟨fd_law_near, F_law_near⟩ := c.def_ 28 (d := d_law_near) rfl
  have g_law_near := He.glo_ok X G (c.fact 28 (f := .glo "_law_near") rfl)
  have b_law_near : Binds K fd_law_near ["_law_box", "_law_queue", "_law_kept_here", "_law_many"] [] := F_law_near.bindsN fun _ _ _ _ _ _ us hl => match us, hl with | [_, _, _, _], _ => rfl
  obtain ⟨fd_law_drawn_way, F_law_drawn_way⟩ := c.def_ 29 (d := d_law_drawn_way) rfl
  have g_law_drawn_way := He.glo_ok X G (c.fact 29 (f := .glo "_law_drawn_way") rfl)
  have b_law_drawn_way : Binds K fd_law_drawn_way ["_law_box", "_law_pen", "_law_seats"] [] := F_law_drawn_way.bindsN fun _ _ _ _ _ _ us hl => match us, hl with | [_, _, _], _ => rfl
  obtain ⟨fd_law_detour, F_law_detour⟩ := c.def_ 30 (d := d_law_detour) rfl
  have g_law_detour := He.glo_ok X G (c.fact 30 (f := .glo "_law_detour") rfl)
  have b_law_detour : Binds K fd_law_detour ["_law_box", "_law_pen", "_law_went"] [] := F_law_detour.bindsN fun _ _ _ _ _ _ us hl => match us, hl with | [_, _, _], _ => rfl
  obtain ⟨fd_law_due, F_law_due⟩ := c.def_ 31 (d := d_law_due) rfl
  have g_law_due := He.glo_ok X G (c.fact 31 (f := .glo "_law_due") rfl)
  have b_law_due : Binds K fd_law_due ["_law_pen", "_law_seats", "_law_fixed", "_law_item"] [] := F_law_due.bindsN fun _ _ _ _ _ _ us hl => match us, hl with | [_, _, _, _], _ => rfl
  obtain ⟨fd_law_great_right, F_law_great_right⟩ := c.def_ 32 (d := d_law_great_right) rfl
  have g_law_great_right := He.glo_ok X G (c.fact 32 (f := .glo "_law_great_right") rfl)
  have b_law_great_right : Binds K fd_law_great_right ["_law_box"] [] := F_law_great_right.bindsN fun _ _ _ _ _ _ us hl => match us, hl with | [_], _ => rfl
  obtain ⟨fd_law_right, F_law_right⟩ := c.def_ 33 (d := d_law_right) rfl
  have g_law_right := He.glo_ok X G (c.fact 33 (f := .glo "_law_right") rfl)
  have b_law_right : Binds K fd_law_right ["_law_box"] [] := F_law_right.bindsN fun _ _ _ _ _ _ us hl => match us, hl with | [_], _ => rfl
  obtain ⟨fd_law, F_law⟩ := c.def_ 34 (d := d_law) rfl
  have m_RuntimeError := He.free_ok X G (c.fact 35 (f := .free "RuntimeError") rfl)
  have m_abs := He.free_ok X G (c.fact 36 (f := .free "abs") rfl)
  have m_all := He.free_ok X G (c.fact 37 (f := .free "all") rfl)
  have m_any := He.free_ok X G (c.fact 38 (f := .free "any") rfl)
  have m_bool := He.free_ok X G (c.fact 39 (f := .free "bool") rfl)
  have m_dict := He.free_ok X G (c.fact 40 (f := .free "dict") rfl)
  have m_enumerate := He.free_ok X G (c.fact 41 (f := .free "enumerate") rfl)
  have m_int := He.free_ok X G (c.fact 42 (f := .free "int") rfl)
  have m_isinstance := He.free_ok X G (c.fact 43 (f := .free "isinstance") rfl)
  have m_len := He.free_ok X G (c.fact 44 (f := .free "len") rfl)
  have m_list := He.free_ok X G (c.fact 45 (f := .free "list") rfl)
  have m_max := He.free_ok X G (c.fact 46 (f := .free "max") rfl)
  have m_range := He.free_ok X G (c.fact 47 (f := .free "range") rfl)
  have m_repr := He.free_ok X G (c.fact 48 (f := .free "repr") rfl)
  have m_sorted := He.free_ok X G (c.fact 49 (f := .free "sorted") rfl)
  have m_str := He.free_ok X G (c.fact 50 (f := .free "str") rfl)
  have m_tuple := He.free_ok X G (c.fact 51 (f := .free "tuple") rfl)
  have m_zip := He.free_ok X G (c.fact 52 (f := .free "zip") rfl)
  have mm : exK K = true := cx.more
  unfold exK at mm
  obtain ⟨T0_MayNot, mm⟩ := band mm
  obtain ⟨T0_NotLet, mm⟩ := band mm
  obtain ⟨D_k1, mm⟩ := band mm
  obtain ⟨D_k2, mm⟩ := band mm
  have D_k3 := mm
  have k1 := of_decide_eq_true D_k1
  have k2 := of_decide_eq_true D_k2
  have k3 := of_decide_eq_true D_k3
  obtain ⟨fd_ini_MayNot, F_ini_MayNot⟩ := c.def_ 35 (d := d_ini_MayNot) rfl
  have g_MayNot := He.glo_ok X G (c.fact 53 (f := .glo "MayNot") rfl)
  have b_ini_MayNot : Binds K fd_ini_MayNot ["self", "place"] [] := F_ini_MayNot.bindsN fun _ _ _ _ _ _ us hl => match us, hl with | [_, _], _ => rfl
  have T_MayNot := exTyB_ok T0_MayNot (by kernel_rfl)
  obtain ⟨fd_ini_NotLet, F_ini_NotLet⟩ := c.def_ 36 (d := d_ini_NotLet) rfl
  have g_NotLet := He.glo_ok X G (c.fact 54 (f := .glo "NotLet") rfl)
  have b_ini_NotLet : Binds K fd_ini_NotLet ["self", "number"] [] := F_ini_NotLet.bindsN fun _ _ _ _ _ _ us hl => match us, hl with | [_, _], _ => rfl
  have T_NotLet := exTyB_ok T0_NotLet (by kernel_rfl)
  have e := hfa.symm.trans (He.glo_ok X G (c.fact 34 (f := .glo "law") rfl))
  cases e
  have bl := FunD.bindsA (ps := ["_law_script"]) F_law fun _ _ _ _ _ _ us hl => match us, hl with | [_], _ => rfl
  refine ⟨fd_law, fun s v => bl s [v] rfl, fun base _ _ => ?_⟩
  have kb_shows_way : KBn K fd_shows_way ["row", "order", "thing"] 0 ["thing", "order", "row"] (fun _ ws => ws.reverse) (fun _ zs => zs.reverse) := kb_of F_shows_way (fun ws => ws.reverse) (vals_rev) fun _ _ _ _ _ _ ws hl => match ws, hl with | [_, _, _], _ => rfl
  have x_MayNot := ok_ini_MayNot (P := P) (w := w) (mg := mg) (base := base) F_ini_MayNot T_MayNot g_MayNot b_ini_MayNot m_RuntimeError
  have x_NotLet := ok_ini_NotLet (P := P) (w := w) (mg := mg) (base := base) F_ini_NotLet T_NotLet g_NotLet b_ini_NotLet m_RuntimeError
  have h_is_number := ok_is_number (P := P) (w := w) (mg := mg) (base := base) F_is_number g_is_number b_is_number m_isinstance m_int m_bool
  have h_can_pass := ok_can_pass (P := P) (w := w) (mg := mg) (base := base) F_can_pass g_can_pass b_can_pass m_len
  have h_can_fall := ok_can_fall (P := P) (w := w) (mg := mg) (base := base) F_can_fall g_can_fall b_can_fall m_len
  have h_passed := ok_passed (P := P) (w := w) (mg := mg) (base := base) F_passed g_passed b_passed x_MayNot h_can_pass
  have h_fallen := ok_fallen (P := P) (w := w) (mg := mg) (base := base) F_fallen g_fallen b_fallen x_MayNot h_can_fall
  have h_swapped := ok_swapped (P := P) (w := w) (mg := mg) (base := base) F_swapped g_swapped b_swapped
  have h_can_do := ok_can_do (P := P) (w := w) (mg := mg) (base := base) F_can_do g_can_do b_can_do h_can_pass h_can_fall
  have h_led := ok_led (P := P) (w := w) (mg := mg) (base := base) F_led g_led b_led x_NotLet h_can_do h_passed h_fallen h_swapped m_tuple m_range m_len m_enumerate
  have h_places_of := ok_places_of (P := P) (w := w) (mg := mg) (base := base) F_places_of g_places_of b_places_of m_enumerate
  have h_turned_about := ok_turned_about (P := P) (w := w) (mg := mg) (base := base) F_turned_about g_turned_about b_turned_about h_places_of m_len m_range
  have h_is_deed := ok_is_deed (P := P) (w := w) (mg := mg) (base := base) F_is_deed g_is_deed b_is_deed h_is_number m_isinstance m_tuple m_len
  have h_leads_to := ok_leads_to (P := P) (w := w) (mg := mg) (base := base) F_leads_to g_leads_to b_leads_to x_NotLet h_led k1
  have h_shows_way := ok_shows_way (P := P) (w := w) (mg := mg) (base := base) F_shows_way g_shows_way b_shows_way h_turned_about h_is_deed h_leads_to m_isinstance m_list m_len m_all
  have h_law_dip := ok_law_dip (P := P) (w := w) (mg := mg) (base := base) F_law_dip g_law_dip b_law_dip m_len m_abs m_int
  have h_law_take := ok_law_take (P := P) (w := w) (mg := mg) (base := base) F_law_take g_law_take b_law_take
  have h_law_folded := ok_law_folded (P := P) (w := w) (mg := mg) (base := base) F_law_folded g_law_folded b_law_folded m_list m_enumerate
  have h_law_same := ok_law_same (P := P) (w := w) (mg := mg) (base := base) F_law_same g_law_same b_law_same m_isinstance m_list m_tuple m_bool m_str m_int m_len m_all m_zip 4
  have h_law_of := ok_law_of (P := P) (w := w) (mg := mg) (base := base) F_law_of g_law_of b_law_of h_law_take m_len
  have h_law_row := ok_law_row (P := P) (w := w) (mg := mg) (base := base) F_law_row g_law_row b_law_row h_law_take h_law_of m_range m_tuple
  have h_law_lets := ok_law_lets (P := P) (w := w) (mg := mg) (base := base) F_law_lets g_law_lets b_law_lets
  have h_law_passed := ok_law_passed (P := P) (w := w) (mg := mg) (base := base) F_law_passed g_law_passed b_law_passed
  have h_law_fallen := ok_law_fallen (P := P) (w := w) (mg := mg) (base := base) F_law_fallen g_law_fallen b_law_fallen
  have h_law_ended := ok_law_ended (P := P) (w := w) (mg := mg) (base := base) F_law_ended g_law_ended b_law_ended h_law_of h_law_lets h_law_passed m_range m_tuple m_list m_len
  have h_law_begun := ok_law_begun (P := P) (w := w) (mg := mg) (base := base) F_law_begun g_law_begun b_law_begun h_law_of h_law_fallen m_range m_tuple m_list m_len
  have h_law_bent := ok_law_bent (P := P) (w := w) (mg := mg) (base := base) F_law_bent g_law_bent b_law_bent h_law_take h_law_of m_isinstance m_list m_tuple m_int m_bool m_len
  have h_law_pairs := ok_law_pairs (P := P) (w := w) (mg := mg) (base := base) F_law_pairs g_law_pairs b_law_pairs m_range
  have h_law_turned := ok_law_turned (P := P) (w := w) (mg := mg) (base := base) F_law_turned g_law_turned b_law_turned h_law_pairs m_dict m_enumerate m_len
  have h_law_kept := ok_law_kept (P := P) (w := w) (mg := mg) (base := base) F_law_kept g_law_kept b_law_kept h_law_ended h_law_begun h_law_pairs m_len
  have h_law_near := ok_law_near (P := P) (w := w) (mg := mg) (base := base) F_law_near g_law_near b_law_near h_law_take m_list m_range m_max m_len m_tuple m_sorted
  have h_law_drawn_way := ok_law_drawn_way (P := P) (w := w) (mg := mg) (base := base) F_law_drawn_way g_law_drawn_way b_law_drawn_way h_law_turned h_law_of h_law_lets h_law_passed h_law_fallen m_tuple m_len m_range
  have h_law_detour := ok_law_detour (P := P) (w := w) (mg := mg) (base := base) F_law_detour g_law_detour b_law_detour h_law_lets h_law_of m_len m_range
  have h_law_due := ok_law_due (P := P) (w := w) (mg := mg) (base := base) F_law_due g_law_due b_law_due h_law_turned h_law_lets h_law_passed h_law_fallen m_isinstance m_list m_tuple m_int m_bool m_len m_range m_any
  have h_law_great_right := ok_law_great_right (P := P) (w := w) (mg := mg) (base := base) F_law_great_right g_law_great_right b_law_great_right h_law_row h_law_kept h_law_near h_law_drawn_way h_law_take h_shows_way h_law_same h_law_due m_len m_list m_range
  have h_law_right := ok_law_right (P := P) (w := w) (mg := mg) (base := base) F_law_right g_law_right b_law_right h_law_row h_law_kept h_law_near h_law_drawn_way h_law_take h_shows_way kb_shows_way h_law_same h_law_due h_law_detour h_law_bent h_law_great_right m_len m_list m_range m_tuple m_repr
  exact okG_law F_law h_law_folded h_law_dip h_law_right m_range m_len m_all
end K29
open PySem PySem.W PySem.Calls PyProof.Rows
theorem PySem.Challenge.cw_hayherd_k29_ways_shown_or_not_holds : PySem.Challenge.rw_hayherd_k29_ways_shown_or_not.Holds := by
  w_on; o_law
  refine HandSHeadRun.head_any (r := OpenLaw.row PySem.Challenge.rw_hayherd_k29_ways_shown_or_not) (q := view (OpenLaw.row PySem.Challenge.rw_hayherd_k29_ways_shown_or_not).prog [41]) (H := K29.hk) (ob := K29.ob) (M := 3000) (loose := K29.loose) (d := HandSHeadRun.topDef (OpenLaw.row PySem.Challenge.rw_hayherd_k29_ways_shown_or_not).prog 41) (kwd := []) K29.ob_eq
    (by kernel_rfl) (fun s => by kernel_rfl) K29.run (by kernel_rfl) (by kernel_rfl) (by kernel_rfl) (by rfl) (by first | assumption | decide +kernel) (by decide +kernel) ⟨rfl, rfl, rfl, rfl, rfl, by decide +kernel⟩ ?hw ?hc
  case hw => w_witness2
  case hc =>
    refine HH.walk_ofG (l := PySem.Challenge.rw_hayherd_k29_ways_shown_or_not) (n := 63) (k := 10) (x := "_law_script") rfl (by decide) (by kernel_rfl) ⟨rfl, by decide, by decide⟩ ?F
    intro w mg fa h Y G hmg0
    obtain ⟨K, KX, c⟩ := Y
    have hmg : mg ("law" : PySem.Str) = some (.ref fa) := by
      have e : (HandSHeadRun.topDef (OpenLaw.row PySem.Challenge.rw_hayherd_k29_ways_shown_or_not).prog 41).name = ("law" : PySem.Str) := by kernel_rfl
      rw [← e]
      exact hmg0
    obtain ⟨fd, hb, hF⟩ := K29.facts (P := (PySem.Challenge.rw_hayherd_k29_ways_shown_or_not).prog) (w := w) KX G hmg c
    exact ⟨K, fd, HH.spLaw K, KX, hb, fun H a ns hl _ hS => ⟨a, ns, rfl, hS, hl, fun _ => rfl⟩, hF⟩
