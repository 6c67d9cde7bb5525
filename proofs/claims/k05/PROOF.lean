import PyProof.Rows.All
import Wide.All
import OpenK.AllK
import Wide.FinOn
import KE.KStateDown
import HandS.ForMost
import HandS.Conv
import HandS.Flow
import HandS.Style
import HandS.TupAny
import HandS.TupMul
import HandS.IsInst
import HandS.Wide
import HandS.Defaults
import HandS.Zip
import HandS.Evl
import HandS.More
import HandS.WordsExc
import HandS.Head2
import HandS.HeadEnd
import HandS.HeadHook2
import HandS.Walk
import HandS.ExcInit
import HandS.HeadHook4
import KE.KExcIs
import KE.KTryMore
import KE.KExcInit
import PyProof.ReprRoads
import PyProof.ReprText
import PyProof.ReprLen
import HandS.RevRange
import HandS.SortInts
import KE.GoesMore
import HandS.DictComp
import HandS.Dict
import HandS.SortRule
import HandS.Deep
import HandS.Strs
import KE.GoesZip
import KE.GoesEnum
import HandS.DictTup
import KE.KDictZip
import HandS.SetFor
import HandS.Small
import KE.KSortTupAny
import HandS.CallLocal
import PySem.Challenge.RW_hayherd_k05_orders_or_not
set_option Elab.async false
set_option linter.all false
set_option maxRecDepth 100000
set_option maxHeartbeats 4000000
namespace HH
open PySem PySem.Spec PyProof.Rows L2
/-! own rules -/
section
variable {X : Cx}
/-- pow of great ints -/
def CPowW (i j : Int) : Prop := 0 ≤ j ∧ (Builtin.Int.intBits i : Int) * j ≤ 2 ^ 27
theorem op_powW : OpR X (binaryOp .Pow) (rI CPowW fun i j => .int (i ^ j.toNat)) := opI fun _ _ _ _ _ _ _ hc q => pow_int hc.1 hc.2 q
/-- xs[a:c] = ys -/
def gSl (to ta tc : TE) : TG := fun v σ H Q => to σ H fun o H1 => ta σ H1 fun a H2 => tc σ H2 fun c H3 => ∃ (l b : Addr) (xs ys : List V) (i j : Int), o = .ref l ∧ v = .ref b ∧ a = .int i ∧ c = .int j ∧ H3 l = some (.lst xs) ∧ H3 b = some (.lst ys) ∧ l ≠ b ∧ 0 ≤ i ∧ i ≤ j ∧ j ≤ xs.length ∧ xs.length + ys.length ≤ sizeLine ∧ Q σ (upd H3 l (.lst (xs.take i.toNat ++ ys ++ xs.drop j.toNat)))
theorem pg_sl {o a c : Expr} {to ta tc : TE} {p2 pos : Pos} (ho : PE X o to) (hl : PE X a ta) (hu : PE X c tc) : PG X (.Subscript o (.Slice (some a) (some c) none p2) pos) (gSl to ta tc) := by
  refine ⟨fun pins s σ H v u Q I0 r0 h0 => ?_⟩
  rw [arm_assign_Subscript]
  refine wpAny_bind (wpAny_holding (thn (ho.run pins s σ H _ I0 h0) fun ov s1 ⟨x, H1, I1, r1, q1⟩ => ?_))
  refine wpAny_bind (wpAny_holding (wpAny_Slice (thn (hl.run pins s1 σ H1 _ I1 q1) fun lv s2 ⟨y, H2, I2, r2, q2⟩ => ?_)))
  refine thn (hu.run pins s2 σ H2 _ I2 q2) fun uv s3 ⟨z, H3, I3, r3, q3⟩ => ?_
  obtain ⟨l, b, xs, ys, i, j, rfl, rfl, rfl, rfl, hH, hB, hne, h0, hij, hj, hz, q⟩ := q3
  cases r1
  cases r0
  refine wpAny_of_eq (evalPart_none _) ?_
  have I5 : Inv X pins σ H3 { s3 with heap := s3.heap.push { cls := .type "slice", data := .fields #[lv, uv, .none] } } := I3.kept (t' := s3.toks) fun b ob q => Heap.get?_push_of_some _ q
  refine wpAny_bind (wpAny_standAt (wpAny_bind (wpAny_holding (set_slice I5 hH hB hne (Heap.IsSliceOf.new _ _ _ _) r2 r3 h0 hij hj hz fun s' I6 => ?_))))
  exact wpAny_release ⟨σ, _, I6, q⟩
theorem ix_tupK {K : PySem.W.Frag} (h : X.K = K := by rfl) : IxR X (rIxT K) := by
  subst h
  exact ix_tup
theorem ix_listK {K : PySem.W.Frag} (h : X.K = K := by rfl) : IxR X (rIxL K) := by
  subst h
  exact ix_list
end
end HH
set_option maxHeartbeats 4000000
namespace HH
open PySem PySem.Spec PyProof.Rows L2 Evl
abbrev FnP (K : PySem.W.Frag) (x : Str) (st : Stmt) (f : Addr) (fd : FuncData) : Prop := FunD K x x (defArgs st) (defBody st) (defScope st) [] [] f fd
structure Has (P : Program) (w : World) (K : PySem.W.Frag) (mg : Str → Option Value) (base : Heap) (k : Nat) (x : Str) (ps : List Str) (sp : Sp) (f : Addr) (fd : FuncData) : Prop where
  G : FnOk P w K mg base CX0 k f fd ps sp
  g : mg x = some (.ref f)
  kp : PySem.W.keepIn K (.ref f) = true
  b : Binds K fd ps []
/-! heaps but for one list -/
def ExB (b : Addr) (H H' : Hp) : Prop := ∀ a o, a ≠ b → H a = some o → H' a = some o
theorem ExB.refl (b : Addr) (H : Hp) : ExB b H H := fun _ _ _ h => h
theorem ExB.trans {b : Addr} {H H1 H2 : Hp} (x : ExB b H H1) (y : ExB b H1 H2) : ExB b H H2 := fun a o n h => y a o n (x a o n h)
theorem ExB.of {b : Addr} {H H' : Hp} (e : Ex H H') : ExB b H H' := fun a o _ h => e a o h
theorem ExB.new {b p : Addr} {H H' : Hp} {o : HO} (e : ExB b H H') (h : H' p = none) : ExB b H (upd H' p o) := e.trans (.of (Ex.new h))
theorem ExB.upd {b : Addr} {H H' : Hp} {o : HO} (e : ExB b H H') : ExB b H (upd H' b o) := fun a u n h => by
  rw [upd_ne n]
  exact e a u n h
/-- an object that H does not know may change -/
theorem ExB.mut {b p : Addr} {H H' : Hp} {o : HO} (e : ExB b H H') (h : H p = none) : ExB b H (L2.upd H' p o) := fun a u n ha => by
  rw [upd_ne (ne_of_none ha h)]
  exact e a u n ha
theorem ExB.rd {b a : Addr} {H H' : Hp} {u : HO} (e : ExB b H H') (n : a ≠ b) (h : Rd H a u) : Rd H' a u := by
  rcases h with h | ⟨o, h⟩
  · exact .inl (e a _ n h)
  · exact .inr ⟨o, e a _ n h⟩
theorem ExB.l {K : PySem.W.Frag} {b a : Addr} {H H' : Hp} {xs : List V} (e : ExB b H H') (n : a ≠ b) (h : SqL K H a xs) : SqL K H' a xs := by
  rcases h with h | h
  · exact .inl (e.rd n h)
  · exact .inr h
theorem ExB.t {K : PySem.W.Frag} {b a : Addr} {H H' : Hp} {xs ys : List V} (e : ExB b H H') (hb : H b = some (.lst ys)) (h : SqT K H a xs) : SqT K H' a xs := by
  rcases h with h | h
  · refine .inl (e.rd (fun z => ?_) h)
    subst z
    rcases h with h | ⟨o, h⟩
    · rw [hb] at h
      cases h
    · rw [hb] at h
      cases h
  · exact .inr h
/-! the box -/
def Lim : Nat := 2 ^ 4000
def Bx (H : Hp) (p : Addr) (n : Nat) : Prop := ∃ a b c : Int, H p = some (.lst [.int a, .int b, .int c]) ∧ 0 ≤ a ∧ 0 ≤ b ∧ b < 2 ^ 62 ∧ 0 ≤ c ∧ c ≤ n
theorem Bx.ex {H H' : Hp} {p : Addr} {n : Nat} (h : Bx H p n) (e : Ex H H') : Bx H' p n := by
  obtain ⟨a, b, c, h1, h2⟩ := h
  exact ⟨a, b, c, e _ _ h1, h2⟩
theorem Bx.mut {H : Hp} {p q : Addr} {n : Nat} {o : HO} (h : Bx H p n) (e : p ≠ q) : Bx (upd H q o) p n := by
  obtain ⟨a, b, c, h1, h2⟩ := h
  exact ⟨a, b, c, by rw [upd_ne e]; exact h1, h2⟩
theorem Bx.le {H : Hp} {p : Addr} {n m : Nat} (h : Bx H p n) (e : n ≤ m) : Bx H p m := by
  obtain ⟨a, b, c, h1, h2, h3, h4, h5, h6⟩ := h
  exact ⟨a, b, c, h1, h2, h3, h4, h5, by omega⟩
theorem Bx.lst {H : Hp} {p : Addr} {n : Nat} (h : Bx H p n) : ∃ xs, H p = some (.lst xs) := by
  obtain ⟨a, b, c, h1, _⟩ := h
  exact ⟨_, h1⟩
theorem Bx.ne {H : Hp} {p q : Addr} {n : Nat} (h : Bx H p n) (hq : H q = none) : p ≠ q := by
  obtain ⟨xs, h⟩ := h.lst
  exact ne_of_none h hq
/-! rows -/
abbrev Row := List (Int × Int)
def BeastAt (K : PySem.W.Frag) (H : Hp) (v : V) (b : Int × Int) : Prop := ∃ p, v = .ref p ∧ SqT K H p [.int b.1, .int b.2]
def Beasts (K : PySem.W.Frag) (H : Hp) (vs : List V) (rs : Row) : Prop := vs.length = rs.length ∧ ∀ (i : Nat) (b : Int × Int), rs[i]? = some b → ∃ u, vs[i]? = some u ∧ BeastAt K H u b
def RowAt (K : PySem.W.Frag) (H : Hp) (v : V) (rs : Row) : Prop := ∃ a vs, v = .ref a ∧ SqT K H a vs ∧ Beasts K H vs rs
theorem BeastAt.ex {K : PySem.W.Frag} {H H' : Hp} {v : V} {b : Int × Int} (e : Ex H H') (h : BeastAt K H v b) : BeastAt K H' v b := by
  obtain ⟨p, h1, h2⟩ := h
  exact ⟨p, h1, ex_t e h2⟩
theorem BeastAt.exB {K : PySem.W.Frag} {H H' : Hp} {v : V} {b : Int × Int} {q : Addr} {ys : List V} (e : ExB q H H') (hq : H q = some (.lst ys)) (h : BeastAt K H v b) : BeastAt K H' v b := by
  obtain ⟨p, h1, h2⟩ := h
  exact ⟨p, h1, e.t hq h2⟩
theorem Beasts.ex {K : PySem.W.Frag} {H H' : Hp} {vs : List V} {rs : Row} (e : Ex H H') (h : Beasts K H vs rs) : Beasts K H' vs rs := ⟨h.1, fun i b hi => by
  obtain ⟨u, h1, h2⟩ := h.2 i b hi
  exact ⟨u, h1, h2.ex e⟩⟩
theorem Beasts.exB {K : PySem.W.Frag} {H H' : Hp} {vs : List V} {rs : Row} {q : Addr} {ys : List V} (e : ExB q H H') (hq : H q = some (.lst ys)) (h : Beasts K H vs rs) : Beasts K H' vs rs := ⟨h.1, fun i b hi => by
  obtain ⟨u, h1, h2⟩ := h.2 i b hi
  exact ⟨u, h1, h2.exB e hq⟩⟩
theorem RowAt.ex {K : PySem.W.Frag} {H H' : Hp} {v : V} {rs : Row} (h : RowAt K H v rs) (e : Ex H H') : RowAt K H' v rs := by
  obtain ⟨a, vs, h1, h2, h3⟩ := h
  exact ⟨a, vs, h1, ex_t e h2, h3.ex e⟩
theorem RowAt.exB {K : PySem.W.Frag} {H H' : Hp} {v : V} {rs : Row} {q : Addr} {n : Nat} (h : RowAt K H v rs) (e : ExB q H H') (hb : Bx H q n) : RowAt K H' v rs := by
  obtain ⟨a, vs, h1, h2, h3⟩ := h
  obtain ⟨ys, hy⟩ := hb.lst
  exact ⟨a, vs, h1, e.t hy h2, h3.exB e hy⟩
theorem Beasts.nil {K : PySem.W.Frag} {H : Hp} : Beasts K H [] [] := ⟨rfl, fun i b h => by simp at h⟩
theorem Beasts.app {K : PySem.W.Frag} {H : Hp} {vs us : List V} {rs ss : Row} (h : Beasts K H vs rs) (g : Beasts K H us ss) : Beasts K H (vs ++ us) (rs ++ ss) := by
  refine ⟨by rw [List.length_append, List.length_append, h.1, g.1], fun i b hi => ?_⟩
  by_cases hl : i < rs.length
  · rw [List.getElem?_append_left hl] at hi
    rw [List.getElem?_append_left (by rw [h.1]; exact hl)]
    exact h.2 i b hi
  · rw [List.getElem?_append_right (by omega)] at hi
    rw [List.getElem?_append_right (by rw [h.1]; omega), h.1]
    exact g.2 _ b hi
theorem Beasts.one {K : PySem.W.Frag} {H : Hp} {v : V} {b : Int × Int} (h : BeastAt K H v b) : Beasts K H [v] [b] := by
  refine ⟨rfl, fun i c hi => ?_⟩
  cases i with
  | zero =>
    cases hi
    exact ⟨v, rfl, h⟩
  | succ i => simp at hi
theorem Beasts.take {K : PySem.W.Frag} {H : Hp} {vs : List V} {rs : Row} (n : Nat) (h : Beasts K H vs rs) : Beasts K H (vs.take n) (rs.take n) := by
  refine ⟨by rw [List.length_take, List.length_take, h.1], fun i b hi => ?_⟩
  rw [List.getElem?_take] at hi ⊢
  by_cases hl : i < n
  · rw [if_pos hl] at hi ⊢
    exact h.2 i b hi
  · rw [if_neg hl] at hi
    cases hi
theorem Beasts.drop {K : PySem.W.Frag} {H : Hp} {vs : List V} {rs : Row} (n : Nat) (h : Beasts K H vs rs) : Beasts K H (vs.drop n) (rs.drop n) := by
  refine ⟨by rw [List.length_drop, List.length_drop, h.1], fun i b hi => ?_⟩
  rw [List.getElem?_drop] at hi ⊢
  exact h.2 _ b hi
/-! slices -/
theorem cut_to (xs : List V) (j : Nat) : cutV xs none (some (j : Int)) = xs.take j := by
  unfold cutV
  rw [HT.sIx_none, HT.sIx_nat, Nat.sub_zero, List.drop_zero]
  by_cases h : j ≤ xs.length
  · rw [Nat.min_eq_left h]
  · rw [Nat.min_eq_right (by omega), List.take_of_length_le (Nat.le_refl _), List.take_of_length_le (by omega)]
theorem cut_from (xs : List V) (j : Nat) : cutV xs (some (j : Int)) none = xs.drop j := by
  unfold cutV
  rw [HT.sIx_none, HT.sIx_nat]
  by_cases h : j ≤ xs.length
  · rw [Nat.min_eq_left h]
    exact List.take_of_length_le (by rw [List.length_drop]; omega)
  · rw [Nat.min_eq_right (by omega), Nat.sub_self, List.take_zero, List.drop_of_length_le (by omega)]
theorem cut_all {xs : List V} {lo hi : Option Int} (h : HT.sIx xs.length 0 lo = 0 ∧ HT.sIx xs.length xs.length hi = xs.length) : cutV xs lo hi = xs := by
  unfold cutV
  rw [h.1, h.2, Nat.sub_zero, List.drop_zero]
  exact List.take_of_length_le (Nat.le_refl _)
end HH
set_option maxHeartbeats 4000000
namespace HH
open PySem PySem.Spec PyProof.Rows L2 Evl
section
variable {K : PySem.W.Frag} {σ : L2.St} {H H' : Hp} {ta tb te tx : TE} {x y z v : V}
/-- a row, a beast come of it -/
def EvR (K : PySem.W.Frag) (te : TE) (σ : L2.St) (H : Hp) (rs : Row) : Prop := ∀ H1, Ex H H1 → ∀ Q : VK, (∀ v H2, Ex H1 H2 → RowAt K H2 v rs → Q v H2) → te σ H1 Q
def EvB (K : PySem.W.Frag) (te : TE) (σ : L2.St) (H : Hp) (b : Int × Int) : Prop := ∀ H1, Ex H H1 → ∀ Q : VK, (∀ v H2, Ex H1 H2 → BeastAt K H2 v b → Q v H2) → te σ H1 Q
theorem er_val {rs : Row} (h : Ev te σ H v) (hr : RowAt K H v rs) : EvR K te σ H rs := fun H1 e Q q => h H1 e Q fun H2 e2 => q v H2 e2 (hr.ex (e.trans e2))
theorem eb_val {b : Int × Int} (h : Ev te σ H v) (hr : BeastAt K H v b) : EvB K te σ H b := fun H1 e Q q => h H1 e Q fun H2 e2 => q v H2 e2 (hr.ex (e.trans e2))
theorem er_cat {rs ss : Row} (ha : EvR K ta σ H rs) (hb : EvR K tb σ H ss) (hl : rs.length + ss.length ≤ 100000) : EvR K (tOp (rCatA K) ta tb) σ H (rs ++ ss) := fun H1 e Q q =>
  ha H1 e _ fun v H2 e2 hv => hb H2 (e.trans e2) _ fun u H3 e3 hu => by
    obtain ⟨a, vs, rfl, h1, h2⟩ := hv.ex e3
    obtain ⟨b, us, rfl, g1, g2⟩ := hu
    refine ⟨a, b, vs, us, rfl, rfl, h1, g1, by rw [h2.1, g2.1]; exact sz_of hl, fun z => ?_, fun _ z => ?_, fun _ _ p hp => ?_⟩
    · subst z
      have e0 : rs = [] := List.length_eq_zero_iff.mp h2.1.symm
      subst e0
      exact q _ H3 (e2.trans e3) ⟨b, us, rfl, g1, g2⟩
    · subst z
      have e0 : ss = [] := List.length_eq_zero_iff.mp g2.1.symm
      subst e0
      rw [List.append_nil] at q
      exact q _ H3 (e2.trans e3) ⟨a, vs, rfl, h1, h2⟩
    · exact q _ _ ((e2.trans e3).trans (Ex.new hp)) ⟨p, _, rfl, st_of upd_same, (h2.app g2).ex (Ex.new hp)⟩
theorem er_to {rs : Row} {ti : TE} {j : Nat} {i : Int} (h : EvR K te σ H rs) (hi : Ev ti σ H (.int i)) (hj : i = (j : Int)) : EvR K (tSl (rSlA K) te tNoPart (tPart ti)) σ H (rs.take j) := fun H1 e Q q =>
  h H1 e _ fun v H2 e2 hv => hi H2 (e.trans e2) _ fun H3 e3 => by
    obtain ⟨a, vs, rfl, h1, h2⟩ := hv.ex e3
    subst hj
    refine ⟨(j : Int), rfl, a, vs, rfl, h1, fun z => ?_, fun _ p hp => ?_⟩
    · have e0 := cut_all z
      rw [cut_to] at e0
      refine q _ H3 (e2.trans e3) ⟨a, vs, rfl, h1, ?_⟩
      have h3 := h2.take j
      rw [e0] at h3
      exact h3
    · refine q _ _ ((e2.trans e3).trans (Ex.new hp)) ⟨p, _, rfl, st_of upd_same, ?_⟩
      rw [cut_to]
      exact (h2.take j).ex (Ex.new hp)
theorem er_from {rs : Row} {ti : TE} {j : Nat} {i : Int} (h : EvR K te σ H rs) (hi : Ev ti σ H (.int i)) (hj : i = (j : Int)) : EvR K (tSl (rSlA K) te (tPart ti) tNoPart) σ H (rs.drop j) := fun H1 e Q q =>
  h H1 e _ fun v H2 e2 hv => hi H2 (e.trans e2) _ fun H3 e3 => by
    obtain ⟨a, vs, rfl, h1, h2⟩ := hv.ex e3
    subst hj
    refine ⟨(j : Int), rfl, a, vs, rfl, h1, fun z => ?_, fun _ p hp => ?_⟩
    · have e0 := cut_all z
      rw [cut_from] at e0
      refine q _ H3 (e2.trans e3) ⟨a, vs, rfl, h1, ?_⟩
      have h3 := h2.drop j
      rw [e0] at h3
      exact h3
    · refine q _ _ ((e2.trans e3).trans (Ex.new hp)) ⟨p, _, rfl, st_of upd_same, ?_⟩
      rw [cut_from]
      exact (h2.drop j).ex (Ex.new hp)
theorem eb_tup {s t : Int} (h1 : Ev ta σ H (.int s)) (h2 : Ev tb σ H (.int t)) : EvB K (tTup (tCons ta (tCons tb tNil))) σ H (s, t) := fun H1 e Q q =>
  h1 H1 e _ fun H2 e2 => h2 H2 (e.trans e2) _ fun H3 e3 => ⟨by show 2 ≤ sizeLine; decide, fun p hp => q _ _ ((e2.trans e3).trans (Ex.new hp)) ⟨p, rfl, st_of upd_same⟩⟩
theorem er_one {b : Int × Int} (h1 : EvB K ta σ H b) : EvR K (tTup (tCons ta tNil)) σ H [b] := fun H1 e Q q =>
  h1 H1 e _ fun v H2 e2 hv => ⟨by show 1 ≤ sizeLine; decide, fun p hp => q _ _ (e2.trans (Ex.new hp)) ⟨p, _, rfl, st_of upd_same, Beasts.one (hv.ex (Ex.new hp))⟩⟩
theorem er_two {b c : Int × Int} (h1 : EvB K ta σ H b) (h2 : EvB K tb σ H c) : EvR K (tTup (tCons ta (tCons tb tNil))) σ H [b, c] := fun H1 e Q q =>
  h1 H1 e _ fun v H2 e2 hv => h2 H2 (e.trans e2) _ fun u H3 e3 hu => ⟨by show 2 ≤ sizeLine; decide, fun p hp => q _ _ ((e2.trans e3).trans (Ex.new hp)) ⟨p, _, rfl, st_of upd_same, (Beasts.one (hv.ex (e3.trans (Ex.new hp)))).app (Beasts.one (hu.ex (Ex.new hp)))⟩⟩
theorem s_retR {D : Ends} {rs : Row} (h : EvR K te σ H rs) (k : ∀ v H1, Ex H H1 → RowAt K H1 v rs → D.rt v H1) : tRet te D σ H := h H (Ex.refl H) _ fun v H1 e hv => k v H1 e hv
theorem ev_rowAt {a : Addr} {vs : List V} {rs : Row} {ti : TE} {j : Nat} {i : Int} {b : Int × Int} (h : Ev te σ H (.ref a)) (hs : SqT K H a vs) (hb : Beasts K H vs rs) (hi : Ev ti σ H (.int i)) (hj : i = (j : Int)) (hg : rs[j]? = some b) :
    ∃ p, Ev (tOp (rIxT K) te ti) σ H (.ref p) ∧ SqT K H p [.int b.1, .int b.2] := by
  obtain ⟨u, h1, p, rfl, h2⟩ := hb.2 j b hg
  subst hj
  exact ⟨p, ev_op h hi (rv_ixT hs (atI_nat h1)), h2⟩
theorem ev_beast {rs : Row} {ti : TE} {j : Nat} {i : Int} {b : Int × Int} (h : Ev te σ H v) (hr : RowAt K H v rs) (hi : Ev ti σ H (.int i)) (hj : i = (j : Int)) (hg : rs[j]? = some b) : ∃ p, Ev (tOp (rIxT K) te ti) σ H (.ref p) ∧ SqT K H p [.int b.1, .int b.2] := by
  obtain ⟨a, vs, rfl, hs, hb⟩ := hr
  exact ev_rowAt h hs hb hi hj hg
theorem ev_str {rs : Row} {ti : TE} {j : Nat} {i : Int} {b : Int × Int} (h : Ev te σ H v) (hr : RowAt K H v rs) (hi : Ev ti σ H (.int i)) (hj : i = (j : Int)) (hg : rs[j]? = some b) : Ev (tOp (rIxT K) (tOp (rIxT K) te ti) (tC (.int 0))) σ H (.int b.1) := by
  obtain ⟨p, h1, h2⟩ := ev_beast h hr hi hj hg
  exact ev_op h1 ev_c (rv_ixT h2 rfl)
theorem ev_tol {rs : Row} {ti : TE} {j : Nat} {i : Int} {b : Int × Int} (h : Ev te σ H v) (hr : RowAt K H v rs) (hi : Ev ti σ H (.int i)) (hj : i = (j : Int)) (hg : rs[j]? = some b) : Ev (tOp (rIxT K) (tOp (rIxT K) te ti) (tC (.int 1))) σ H (.int b.2) := by
  obtain ⟨p, h1, h2⟩ := ev_beast h hr hi hj hg
  exact ev_op h1 ev_c (rv_ixT h2 rfl)
theorem ev_lenR {rs : Row} (h : Ev te σ H v) (hr : RowAt K H v rs) : Ev (tCB (rLenS K) (tCons te tNil)) σ H (.int (rs.length : Int)) := fun H1 e Q q => by
  obtain ⟨a, vs, rfl, hs, hb⟩ := hr
  refine h H1 e _ fun H2 e2 => ⟨a, vs, rfl, Or.inr (ex_t (e.trans e2) hs), ?_⟩
  rw [hb.1]
  exact q H2 e2
end
/-! deeds on rows -/
def sS (rs : Row) (i : Nat) : Int := (rs[i]?.getD (0, 0)).1
def tS (rs : Row) (i : Nat) : Int := (rs[i]?.getD (0, 0)).2
theorem row_get {rs : Row} {i : Nat} (h : i < rs.length) : rs[i]? = some (sS rs i, tS rs i) := by
  unfold sS tS
  rw [List.getElem?_eq_getElem h] <;> rfl
def letsN (rs : Row) (i : Nat) : Bool := decide (0 < i) && decide (sS rs i - tS rs (i - 1) > sS rs (i - 1))
def fallsN (rs : Row) (i : Nat) : Bool := decide (sS rs i > sS rs (i + 1))
def passR (rs : Row) (p : Nat) : Row := rs.take (p - 1) ++ [(sS rs p - tS rs (p - 1), tS rs p), (sS rs (p - 1), tS rs (p - 1))] ++ rs.drop (p + 1)
def fallR (rs : Row) (p : Nat) : Row := rs.take p ++ [(sS rs (p + 1), tS rs (p + 1)), (sS rs p + tS rs (p + 1), tS rs p)] ++ rs.drop (p + 2)
def withR (rs : Row) (p : Nat) (d : Int) : Row := rs.take p ++ [(sS rs p + d, tS rs p)] ++ rs.drop (p + 1)
theorem passR_len {rs : Row} {p : Nat} (h0 : 0 < p) (h : p < rs.length) : (passR rs p).length = rs.length := by
  unfold passR
  rw [List.length_append, List.length_append, List.length_take, List.length_drop]
  show min (p - 1) rs.length + 2 + (rs.length - (p + 1)) = rs.length
  omega
theorem fallR_len {rs : Row} {p : Nat} (h : p + 1 < rs.length) : (fallR rs p).length = rs.length := by
  unfold fallR
  rw [List.length_append, List.length_append, List.length_take, List.length_drop]
  show min p rs.length + 2 + (rs.length - (p + 2)) = rs.length
  omega
theorem withR_len {rs : Row} {p : Nat} {d : Int} (h : p < rs.length) : (withR rs p d).length = rs.length := by
  unfold withR
  rw [List.length_append, List.length_append, List.length_take, List.length_drop]
  show min p rs.length + 1 + (rs.length - (p + 1)) = rs.length
  omega
/-! promises -/
def spCanPass (K : PySem.W.Frag) : Sp := fun vs H Q _ => ∃ (v : V) (rs : Row) (p : Nat), vs = [v, .int (p : Int)] ∧ RowAt K H v rs ∧ p < rs.length ∧ ∀ H', Ex H H' → Q (.bl (letsN rs p)) H'
def spCanFall (K : PySem.W.Frag) : Sp := fun vs H Q _ => ∃ (v : V) (rs : Row) (p : Nat), vs = [v, .int (p : Int)] ∧ RowAt K H v rs ∧ p < rs.length ∧ ∀ H', Ex H H' → Q (.bl (decide (p + 1 < rs.length) && fallsN rs p)) H'
def passL (rs : Row) : List V := given rs.length (letsN rs) (fun i => .int (i : Int))
def fallL (rs : Row) : List V := given rs.length (fun p => decide (p + 1 < rs.length) && fallsN rs p) (fun i => .int (i : Int))
def spMay (K : PySem.W.Frag) (g : Row → List V) : Sp := fun vs H Q _ => ∃ (v : V) (rs : Row), vs = [v] ∧ RowAt K H v rs ∧ rs.length ≤ 1000 ∧ RetL (g rs) H Q
def spEnd (K : PySem.W.Frag) (g : Row → List V) : Sp := fun vs H Q _ => ∃ (v : V) (rs : Row), vs = [v] ∧ RowAt K H v rs ∧ rs.length ≤ 1000 ∧ RetV (.bl (g rs).isEmpty) H Q
def spRowOp (K : PySem.W.Frag) (C : Row → Nat → Prop) (g : Row → Nat → Row) : Sp := fun vs H Q _ => ∃ (v : V) (rs : Row) (p : Nat), vs = [v, .int (p : Int)] ∧ RowAt K H v rs ∧ rs.length ≤ 1000 ∧ C rs p ∧ ∀ v' H', Ex H H' → RowAt K H' v' (g rs p) → Q v' H'
def spPassed (K : PySem.W.Frag) : Sp := spRowOp K (fun rs p => 0 < p ∧ p < rs.length) passR
def spFallen (K : PySem.W.Frag) : Sp := spRowOp K (fun rs p => p + 1 < rs.length) fallR
def spWith (K : PySem.W.Frag) : Sp := fun vs H Q _ => ∃ (v : V) (rs : Row) (p : Nat) (d : Int), vs = [v, .int (p : Int), .int d] ∧ RowAt K H v rs ∧ rs.length ≤ 1000 ∧ p < rs.length ∧ ∀ v' H', Ex H H' → RowAt K H' v' (withR rs p d) → Q v' H'
end HH
set_option maxHeartbeats 4000000
namespace HH
open PySem PySem.Spec PyProof.Rows L2 Evl
section
variable {K : PySem.W.Frag} {σ : L2.St} {H H' : Hp} {ta tb te tx : TE} {x y z v : V} {D : Ends} {tz : TS}
/-- a, b = e of a tuple of two -/
theorem q_asgT2 {i j : Nat} {p : Addr} (h : Ev te σ H (.ref p)) (hp : SqT K H p [x, y]) (k : ∀ H1, Ex H H1 → tz D ((σ.set i (some x)).set j (some y)) H1) : tSeq (tAsg te (gTup K 2 (gCons (gName i) (gCons (gName j) gNil)))) tz D σ H :=
  h H (Ex.refl H) _ fun H1 e => ⟨p, [x, y], rfl, ex_t e hp, rfl, x, [y], rfl, y, [], rfl, rfl, k H1 e⟩
/-- a, (b, c) = e1, e2 and (a, b), c = e1, e2 -/
theorem q_asg12 {i j l : Nat} {p : Addr} {u : V} (h : Ev ta σ H u) (h2 : Ev tb σ H (.ref p)) (hp : SqT K H p [x, y]) (k : ∀ H1, Ex H H1 → tz D (((σ.set i (some u)).set j (some x)).set l (some y)) H1) :
    tSeq (tAsg (tTup (tCons ta (tCons tb tNil))) (gTup K 2 (gCons (gName i) (gCons (gTup K 2 (gCons (gName j) (gCons (gName l) gNil))) gNil)))) tz D σ H :=
  h H (Ex.refl H) _ fun H1 e => h2 H1 e _ fun H2 e2 => ⟨by show 2 ≤ sizeLine; decide, fun q hq => ⟨q, _, rfl, st_of upd_same, rfl, u, _, rfl, .ref p, [], rfl, ⟨p, [x, y], rfl, ex_t ((e.trans e2).trans (Ex.new hq)) hp, rfl, x, [y], rfl, y, [], rfl, rfl, rfl, k _ ((e.trans e2).trans (Ex.new hq))⟩⟩⟩
theorem q_asg21 {i j l : Nat} {p : Addr} {u : V} (h2 : Ev ta σ H (.ref p)) (h : Ev tb σ H u) (hp : SqT K H p [x, y]) (k : ∀ H1, Ex H H1 → tz D (((σ.set i (some x)).set j (some y)).set l (some u)) H1) :
    tSeq (tAsg (tTup (tCons ta (tCons tb tNil))) (gTup K 2 (gCons (gTup K 2 (gCons (gName i) (gCons (gName j) gNil))) (gCons (gName l) gNil)))) tz D σ H :=
  h2 H (Ex.refl H) _ fun H1 e => h H1 e _ fun H2 e2 => ⟨by show 2 ≤ sizeLine; decide, fun q hq => ⟨q, _, rfl, st_of upd_same, rfl, .ref p, _, rfl, ⟨p, [x, y], rfl, ex_t ((e.trans e2).trans (Ex.new hq)) hp, rfl, x, [y], rfl, y, [], rfl, rfl, u, [], rfl, rfl, k _ ((e.trans e2).trans (Ex.new hq))⟩⟩⟩
theorem sv_can_pass {rs : Row} {p : Nat} (h : RowAt K H v rs) (hp : p < rs.length) : SpV (spCanPass K) [v, .int (p : Int)] H (.bl (letsN rs p)) := fun H1 e Q q E => ⟨v, rs, p, rfl, h.ex e, hp, q⟩
theorem sv_can_fall {rs : Row} {p : Nat} (h : RowAt K H v rs) (hp : p < rs.length) : SpV (spCanFall K) [v, .int (p : Int)] H (.bl (decide (p + 1 < rs.length) && fallsN rs p)) := fun H1 e Q q E => ⟨v, rs, p, rfl, h.ex e, hp, q⟩
theorem sl_may {rs : Row} {g : Row → List V} (h : RowAt K H v rs) (hl : rs.length ≤ 1000) : SpL (spMay K g) [v] H (g rs) := fun H1 e Q q E => ⟨v, rs, rfl, h.ex e, hl, q⟩
theorem sv_end {rs : Row} {g : Row → List V} (h : RowAt K H v rs) (hl : rs.length ≤ 1000) : SpV (spEnd K g) [v] H (.bl (g rs).isEmpty) := fun H1 e Q q E => ⟨v, rs, rfl, h.ex e, hl, q⟩
theorem ev_notL {xs : List V} (h : EvL te σ H xs) : Ev (tNotT K te) σ H (.bl xs.isEmpty) := fun H1 e Q q => h H1 e _ fun p H2 hp e2 h2 => ⟨!xs.isEmpty, .inl ⟨xs, sq_of h2, rfl⟩, by
  rw [Bool.not_not]
  exact q H2 e2⟩
end
end HH
set_option maxHeartbeats 4000000
namespace HH
open PySem PySem.Spec PyProof.Rows L2 Evl
theorem bits_le {i : Int} {n : Nat} (h : i.natAbs < 2 ^ n) : Builtin.Int.intBits i ≤ n := by
  unfold Builtin.Int.intBits
  split
  · exact Nat.zero_le _
  · rename_i z
    have hz : i.natAbs ≠ 0 := by
      intro e
      apply z
      have : i = 0 := by omega
      rw [this]
      rfl
    have := (Nat.log2_lt hz).mpr h
    omega
theorem pow_ok {i : Int} (h : i.natAbs < 2 ^ 4100) : CPowW i 5 := by
  refine ⟨by decide, ?_⟩
  have h1 := bits_le h
  have h2 : (Builtin.Int.intBits i : Int) ≤ 4100 := by omega
  have h3 : (2 : Int) ^ 27 = 134217728 := by decide
  rw [h3]
  omega
theorem mulW_ok {i j : Int} (h : i.natAbs < 2 ^ 4100) (g : j.natAbs < 2 ^ 4100) : CMulW i j := wide_mul h g (by decide) (by decide) (by decide)
theorem lim_big : Lim < 2 ^ 4000 + 1 := Nat.lt_succ_self _
theorem two_split : (2 : Nat) ^ 4100 = 2 ^ 4000 * 2 ^ 100 := by rw [← Nat.pow_add]
theorem big_of {c : Int} (h0 : 0 ≤ c) (h : c ≤ (Lim : Int) + 1) (k b : Int) (hk : 0 ≤ k) (hk2 : k ≤ 40000) (hb : 0 ≤ b) (hb2 : b ≤ 2 ^ 63) : (b + k * c).natAbs < 2 ^ 4100 := by
  have hl : Lim = 2 ^ 4000 := rfl
  have hp : 0 < (2 : Nat) ^ 4000 := Nat.pow_pos (by decide)
  rw [two_split]
  generalize (2 : Nat) ^ 4000 = L at *
  have h2 : c.toNat ≤ L + 1 := by omega
  have h3 : k.toNat * c.toNat ≤ 40000 * (L + 1) := Nat.mul_le_mul (by omega) h2
  have h4 : (b + k * c) = ((b.toNat + k.toNat * c.toNat : Nat) : Int) := by
    rw [Int.natCast_add, Int.natCast_mul, Int.toNat_of_nonneg hb, Int.toNat_of_nonneg hk, Int.toNat_of_nonneg h0]
  rw [h4, Int.natAbs_natCast]
  have h5 : b.toNat ≤ 2 ^ 63 := by omega
  have h6 : (2 : Nat) ^ 100 = 1267650600228229401496703205376 := by decide
  have h7 : (2 : Nat) ^ 63 = 9223372036854775808 := by decide
  rw [h6]
  rw [h7] at h5
  have h8 : L * 1267650600228229401496703205376 ≥ L * 40000 + L * 9223372036854775808 + L * 50000 := by omega
  omega
def spTake : Sp := fun vs H Q _ => ∃ (p : Addr) (m : Int) (n : Nat), vs = [.ref p, .int m] ∧ 0 < m ∧ m < 1073741824 ∧ Bx H p n ∧ n < Lim ∧ ∀ (r : Int) H', 0 ≤ r → r < m → ExB p H H' → Bx H' p (n + 1) → Q (.int r) H'
theorem divW_ok {i m : Int} (h : 0 < m) (g : m < 1073741824) : CDivW i m := wide_div h (show m.natAbs < 2 ^ 30 by
  have : (2 : Nat) ^ 30 = 1073741824 := by decide
  omega) (by decide) (by decide)
theorem fmod_lo {a m : Int} (h : 0 < m) : 0 ≤ a.fmod m := Int.fmod_nonneg_of_pos a h
theorem fmod_hi {a m : Int} (h : 0 < m) : a.fmod m < m := Int.fmod_lt_of_pos a h
end HH
set_option maxHeartbeats 4000000
namespace HH
open PySem PySem.Spec PyProof.Rows L2 Evl RZ
/-! kinds -/
inductive TyN (K : PySem.W.Frag) (H : Hp) : V → String → Prop where
  | non : TyN K H .non "NoneType"
  | bl (b : Bool) : TyN K H (.bl b) "bool"
  | int (i : Int) : TyN K H (.int i) "int"
  | str (s : Str) : TyN K H (.str s) "str"
  | lst {a : Addr} {xs : List V} (e : SqL K H a xs) : TyN K H (.ref a) "list"
  | tup {a : Addr} {xs : List V} (e : SqT K H a xs) : TyN K H (.ref a) "tuple"
theorem TyN.ex {K : PySem.W.Frag} {H H' : Hp} {x : V} {t : String} (h : TyN K H x t) (e : Ex H H') : TyN K H' x t := by
  cases h with
  | non => exact .non
  | bl b => exact .bl b
  | int i => exact .int i
  | str s => exact .str s
  | lst h => exact .lst (ex_l e h)
  | tup h => exact .tup (ex_t e h)
theorem TyN.x {K : PySem.W.Frag} {H : Hp} {x : V} {t : String} (h : TyN K H x t) : TyX K H x (.type t) := by
  cases h with
  | non => exact .base .non
  | bl b => exact .base (.bl b)
  | int i => exact .base (.int i)
  | str s => exact .base (.str s)
  | lst h =>
    rcases h with (h | ⟨o, h⟩) | h
    · exact .base (.lst h)
    · exact .base (.frz h)
    · obtain ⟨o, _, _, h1, h2, _⟩ := h
      exact .kList h1 h2
  | tup h =>
    rcases h with (h | ⟨o, h⟩) | h
    · exact .base (.tup h)
    · exact .fTuple h
    · obtain ⟨o, _, _, h1, h2, _⟩ := h
      exact .kTuple h1 h2
section
variable {K : PySem.W.Frag} {σ : L2.St} {H H' : Hp} {ta tb te tx : TE} {x y z v : V} {D : Ends} {tz : TS}
theorem ev_isi {T C : String} {b : Bool} (h : Ev te σ H x) (ht : TyN K H x T) (k : kitB T C = some b) : Ev (tCB (rIsi K) (tCons te (tCons (tC (.ty C)) tNil))) σ H (.bl b) := fun H1 e Q q =>
  h H1 e _ fun H2 e2 => ⟨x, .ty C, .type T, .type C, b, rfl, .ty C, (ht.ex (e.trans e2)).x, kit_ty k, q H2 e2⟩
theorem ev_isiT {T C C2 : String} {b : Bool} (h : Ev te σ H x) (ht : TyN K H x T) (k : PySem.W.kitAny K (.type T) [.type C, .type C2] = some b) : Ev (tCB (rIsiT K) (tCons te (tCons (tTup (tCons (tC (.ty C)) (tCons (tC (.ty C2)) tNil))) tNil))) σ H (.bl b) := fun H1 e Q q =>
  h H1 e _ fun H2 e2 => ⟨by show 2 ≤ sizeLine; decide, fun p hp => ⟨x, p, [.ty C, .ty C2], .type T, [.type C, .type C2], b, rfl, upd_same, .cons (.ty C) (.cons (.ty C2) .nil), (ht.ex ((e.trans e2).trans (Ex.new hp))).x, k, q _ (e2.trans (Ex.new hp))⟩⟩
theorem rv_isN : RV (fun x y H Q => y = .non ∧ Q (.bl (decide (x = .non))) H) x .non H (.bl (decide (x = .non))) := fun H1 _ _ q => ⟨rfl, q H1 (Ex.refl H1)⟩
theorem rv_isN2 {b : Bool} (h : decide (x = V.non) = b) : RV (fun x y H Q => y = .non ∧ Q (.bl (decide (x = .non))) H) x .non H (.bl b) := fun H1 _ _ q => ⟨rfl, by rw [h]; exact q H1 (Ex.refl H1)⟩
end
theorem walk_zipT {K : PySem.W.Frag} {a b : Addr} {xs ys : List V} {n : Nat} (hn : n = min xs.length ys.length) : Walk (ItzT K a b) n (fun H => SqT K H a xs ∧ SqT K H b ys) (YPair (fun i => xs[i]?) (fun i => ys[i]?)) := by
  subst hn
  refine ⟨fun i _ hi q => ?_, fun _ q => ⟨xs, ys, q.1, q.2, by omega⟩, fun i H v H' _ q y => ?_⟩
  · have g1 : i < xs.length := by omega
    have g2 : i < ys.length := by omega
    exact ⟨xs, ys, xs[i], ys[i], q.1, q.2, by simp [g1], by simp [g2]⟩
  · obtain ⟨T, x, z, h1, h2, h3, h4, h5⟩ := y
    exact ⟨T, x, z, h1, h2, h3, h4 xs q.1, h5 ys q.2⟩
/-! two things alike, kind by kind -/
def Flat : V → Prop
  | .int _ => True
  | .bl _ => True
  | .str _ => True
  | .non => True
  | _ => False
def Alike (K : PySem.W.Frag) (H : Hp) : Nat → V → V → Prop
  | 0, _, _ => False
  | d + 1, x, y => (x = y ∧ Flat x) ∨ ∃ (a b : Addr) (xs ys : List V), x = .ref a ∧ y = .ref b ∧ ((SqL K H a xs ∧ SqL K H b ys) ∨ (SqT K H a xs ∧ SqT K H b ys)) ∧ xs.length = ys.length ∧ xs.length ≤ 40000 ∧
    ∀ (i : Nat) (u v : V), xs[i]? = some u → ys[i]? = some v → Alike K H d u v
theorem Alike.ex {K : PySem.W.Frag} {H H' : Hp} (e : Ex H H') : ∀ {d : Nat} {x y : V}, Alike K H d x y → Alike K H' d x y
  | 0, _, _, h => h
  | d + 1, x, y, h => by
    rcases h with h | ⟨a, b, xs, ys, h1, h2, h3, h4, h5, h6⟩
    · exact .inl h
    · refine .inr ⟨a, b, xs, ys, h1, h2, ?_, h4, h5, fun i u v hu hv => Alike.ex e (h6 i u v hu hv)⟩
      rcases h3 with h3 | h3
      · exact .inl ⟨ex_l e h3.1, ex_l e h3.2⟩
      · exact .inr ⟨ex_t e h3.1, ex_t e h3.2⟩
def spSame (K : PySem.W.Frag) (d : Nat) : Sp := fun vs H Q _ => ∃ x y, vs = [x, y] ∧ Alike K H d x y ∧ RetV (.bl true) H Q
theorem has_none {P : Program} {w : World} {K : PySem.W.Frag} {mg : Str → Option Value} {base : Heap} {f : Addr} {fd : FuncData} {ps : List Str} : FnOk P w K mg base CX0 0 f fd ps (spSame K 0) :=
  ⟨fun _ _ _ _ h => by obtain ⟨_, _, _, h, _⟩ := h; exact h.elim, fun _ _ _ _ _ _ _ _ _ _ _ _ _ h => by obtain ⟨_, _, _, h, _⟩ := h; exact h.elim⟩
section
variable {K : PySem.W.Frag} {σ : L2.St} {H H' : Hp}
theorem el_same {d : Nat} {a b : Addr} {xs ys : List V} (hl : xs.length = ys.length) (hz : xs.length ≤ 40000) (h3 : (SqL K H a xs ∧ SqL K H b ys) ∨ (SqT K H a xs ∧ SqT K H b ys)) (h6 : ∀ (i : Nat) (u v : V), xs[i]? = some u → ys[i]? = some v → Alike K H d u v) :
    EvL (tLc (iZipA K (tCons (tVar 0) (tCons (tVar 1) tNil))) (gTup K 2 (gCons (gName 2) (gCons (gName 3) gNil))) tYes (tCall (spSame K d) [] E0 (tCons (tVar 2) (tCons (tVar 3) tNil))) [2, 3]) [some (.ref a), some (.ref b), none, none] H ((List.replicate xs.length true).map V.bl) := fun H0 e Q q => by
  have turn : ∀ (Dl : Addr) (i : Nat) (x : V) (H1 H2 : Hp), H0 Dl = none → i < xs.length → (Ex H0 H1 ∧ H1 Dl = some (.lst ((List.replicate i true).map V.bl))) → YPair (fun i => xs[i]?) (fun i => ys[i]?) i H1 x H2 →
      gTup K 2 (gCons (gName 2) (gCons (gName 3) gNil)) x (wipe [some (.ref a), some (.ref b), none, none] [2, 3]) H2 fun σ2 H3 => wipe σ2 [2, 3] = wipe [some (.ref a), some (.ref b), none, none] [2, 3] ∧ tYes σ2 H3 fun b H4 =>
      if b = true then tCall (spSame K d) [] E0 (tCons (tVar 2) (tCons (tVar 3) tNil)) σ2 H4 fun y H5 => ∃ acc, H5 Dl = some (.lst acc) ∧ acc.length < sizeLine ∧ (Ex H0 (upd H5 Dl (.lst (acc ++ [y]))) ∧ (upd H5 Dl (.lst (acc ++ [y]))) Dl = some (.lst ((List.replicate (i + 1) true).map V.bl))) else (Ex H0 H4 ∧ H4 Dl = some (.lst ((List.replicate (i + 1) true).map V.bl))) := by
    intro Dl i x H1 H2 hD hi p y
    obtain ⟨T, u, v, rfl, nT, rfl, hu, hv⟩ := y
    refine ⟨T, [u, v], rfl, st_of upd_same, rfl, u, [v], rfl, v, [], rfl, rfl, rfl, ?_⟩
    show tCall (spSame K d) [] E0 (tCons (tVar 2) (tCons (tVar 3) tNil)) _ _ _
    have e2 : Ex H0 (upd H1 T (.tup [u, v])) := p.1.trans (Ex.new nT)
    refine ⟨u, rfl, v, rfl, u, v, rfl, (h6 i u v hu hv).ex (e.trans e2), fun H5 e5 => ⟨_, e5 _ _ ((Ex.new nT) _ _ p.2), ?_, ?_, ?_⟩⟩
    · rw [List.length_map, List.length_replicate]
      exact sz_lt (by omega)
    · exact Ex.mut (e2.trans e5) hD
    · rw [upd_same, List.replicate_succ', List.map_append]
      rfl
  rcases h3 with ⟨ha, hb⟩ | ⟨ha, hb⟩
  · refine ⟨.ref a, rfl, .ref b, rfl, a, b, xs, ys, rfl, .inl ⟨ex_l e ha, ex_l e hb, fun Dl hD => ?_⟩⟩
    refine lc_it (walk_zip (n := xs.length) (xs := xs) (ys := ys) (by omega)) (fun i H1 => Ex H0 H1 ∧ H1 Dl = some (.lst ((List.replicate i true).map V.bl))) ⟨Ex.new hD, upd_same⟩ (fun i H1 _ p => ⟨ex_l (e.trans p.1) ha, ex_l (e.trans p.1) hb⟩) (fun i x H1 H2 hi p y => turn Dl i x H1 H2 hD hi p y) (fun H1 p => q Dl H1 hD p.1 p.2)
  · refine ⟨.ref a, rfl, .ref b, rfl, a, b, xs, ys, rfl, .inr ⟨ex_t e ha, ex_t e hb, fun Dl hD => ?_⟩⟩
    refine lc_it (walk_zipT (n := xs.length) (xs := xs) (ys := ys) (by omega)) (fun i H1 => Ex H0 H1 ∧ H1 Dl = some (.lst ((List.replicate i true).map V.bl))) ⟨Ex.new hD, upd_same⟩ (fun i H1 _ p => ⟨ex_t (e.trans p.1) ha, ex_t (e.trans p.1) hb⟩) (fun i x H1 H2 hi p y => turn Dl i x H1 H2 hD hi p y) (fun H1 p => q Dl H1 hD p.1 p.2)
theorem ev_allT {n : Nat} {te : TE} (h : EvL te σ H ((List.replicate n true).map V.bl)) : Ev (tCB (rAll K) (tCons te tNil)) σ H (.bl true) := fun H1 e Q q =>
  h H1 e _ fun p H2 hp e2 h2 => ⟨p, List.replicate n true, rfl, sq_of h2, by
    have e3 : (List.replicate n true).all id = true := by
      rw [List.all_eq_true]
      intro x hx
      rw [(List.mem_replicate.mp hx).2]
      rfl
    rw [e3]
    exact q H2 e2⟩
theorem ev_lenA {a : Addr} {xs : List V} {te : TE} (h : Ev te σ H (.ref a)) (h3 : SqL K H a xs ∨ SqT K H a xs) : Ev (tCB (rLenS K) (tCons te tNil)) σ H (.int (xs.length : Int)) := fun H1 e Q q =>
  h H1 e _ fun H2 e2 => ⟨a, xs, rfl, by
    rcases h3 with h3 | h3
    · exact .inl (ex_l (e.trans e2) h3)
    · exact .inr (ex_t (e.trans e2) h3), q H2 e2⟩
end
theorem kit_list {K : PySem.W.Frag} : PySem.W.kitAny K (.type "list") [.type "list", .type "tuple"] = some true := kitAny_cons (b := true) (kit_ty (by decide +kernel)) (fun h => by cases h) (fun _ => rfl)
theorem kit_tuple {K : PySem.W.Frag} : PySem.W.kitAny K (.type "tuple") [.type "list", .type "tuple"] = some true := kitAny_cons (b := false) (kit_ty (by decide +kernel)) (fun _ => kitAny_cons (b := true) (kit_ty (by decide +kernel)) (fun h => by cases h) (fun _ => rfl)) (fun h => by cases h)
theorem kit_int {K : PySem.W.Frag} : PySem.W.kitAny K (.type "int") [.type "list", .type "tuple"] = some false := kitAny_cons (b := false) (kit_ty (by decide +kernel)) (fun _ => kitAny_cons (b := false) (kit_ty (by decide +kernel)) (fun _ => kitAny_nil) (fun h => by cases h)) (fun h => by cases h)
theorem kit_bool {K : PySem.W.Frag} : PySem.W.kitAny K (.type "bool") [.type "list", .type "tuple"] = some false := kitAny_cons (b := false) (kit_ty (by decide +kernel)) (fun _ => kitAny_cons (b := false) (kit_ty (by decide +kernel)) (fun _ => kitAny_nil) (fun h => by cases h)) (fun h => by cases h)
theorem kit_str {K : PySem.W.Frag} : PySem.W.kitAny K (.type "str") [.type "list", .type "tuple"] = some false := kitAny_cons (b := false) (kit_ty (by decide +kernel)) (fun _ => kitAny_cons (b := false) (kit_ty (by decide +kernel)) (fun _ => kitAny_nil) (fun h => by cases h)) (fun h => by cases h)
theorem kit_non {K : PySem.W.Frag} : PySem.W.kitAny K (.type "NoneType") [.type "list", .type "tuple"] = some false := kitAny_cons (b := false) (kit_ty (by decide +kernel)) (fun _ => kitAny_cons (b := false) (kit_ty (by decide +kernel)) (fun _ => kitAny_nil) (fun h => by cases h)) (fun h => by cases h)
end HH
set_option maxHeartbeats 4000000
namespace HH
open PySem PySem.Spec PyProof.Rows L2 Evl RZ
def spOf (K : PySem.W.Frag) : Sp := fun vs H Q _ => ∃ (p l : Addr) (xs : List V) (n : Nat), vs = [.ref p, .ref l] ∧ SqL K H l xs ∧ 0 < xs.length ∧ xs.length < 100000 ∧ l ≠ p ∧ Bx H p n ∧ n < Lim ∧ ∀ (r : Nat) (x : V) H', xs[r]? = some x → ExB p H H' → Bx H' p (n + 1) → Q x H'
def spDip (K : PySem.W.Frag) : Sp := fun vs H Q _ => ∃ (a : Addr) (k : Nat) (ns : List Int), vs = [.ref a, .int (k : Int)] ∧ SqL K H a (ns.map V.int) ∧ k ≤ 100 ∧ ∀ p H', H p = none → Ex H H' → Bx H' p 0 → Q (.ref p) H'
def spFolded (K : PySem.W.Frag) : Sp := fun vs H Q _ => ∃ (a : Addr) (m : Nat) (ns : List Int), vs = [.ref a, .int (m : Int)] ∧ 0 < m ∧ m ≤ 10 ∧ SqL K H a (ns.map V.int) ∧ ns.length ≤ 63 ∧ ∀ p H' (ms : List Int), H p = none → Ex H H' → ms.length ≤ m → H' p = some (.lst (ms.map V.int)) → Q (.ref p) H'
/-- a beast as drawn -/
def Tame (b : Int × Int) : Prop := -(10 ^ 12) < b.1 ∧ b.1 < 10 ^ 12 ∧ 0 ≤ b.2 ∧ b.2 < 10 ^ 12
def spRow (K : PySem.W.Frag) : Sp := fun vs H Q _ => ∃ (p : Addr) (m : Nat) (n : Nat), vs = [.ref p, .int (m : Int)] ∧ 0 < m ∧ m ≤ 30 ∧ Bx H p n ∧ n + 100 < Lim ∧ ∀ v H' (rs : Row), ExB p H H' → Bx H' p (n + 100) → RowAt K H' v rs → 0 < rs.length → rs.length ≤ m → (∀ b ∈ rs, Tame b) → Q v H'
section
variable {K : PySem.W.Frag} {σ : L2.St} {H H' : Hp} {ta tb te tx : TE} {x y z v : V} {D : Ends} {tz : TS}
theorem el_listN {xs : List V} (ha : EvL ta σ H xs) : EvL (tCB (rListS K) (tCons ta tNil)) σ H xs := fun H1 e Q q =>
  ha H1 e _ fun p H2 hp e2 h2 => ⟨p, xs, rfl, .inl (sq_of h2), fun l hl => q l _ (fresh_back e2 hl) (e2.trans (Ex.new hl)) upd_same⟩
theorem rc_abs {i : Int} : RC (fun xs H Q => ∃ i, xs = [.int i] ∧ Q (.int (if i < 0 then -i else i)) H) [.int i] H (.int (if i < 0 then -i else i)) := fun H1 _ _ q => ⟨i, rfl, q H1 (Ex.refl H1)⟩
theorem rc_intB {b : Bool} : RC (fun xs H Q => (∃ i, xs = [.int i] ∧ Q (.int i) H) ∨ ∃ k, xs = [.bl k] ∧ Q (.int (if k then 1 else 0)) H) [.bl b] H (.int (if b then 1 else 0)) := fun H1 _ _ q => .inr ⟨b, rfl, q H1 (Ex.refl H1)⟩
end
theorem at_ints {zs : List Int} {w : Int} (h0 : 0 ≤ w) (h1 : w < zs.length) : ∃ z, z ∈ zs ∧ atI (zs.map V.int) w = some (.int z) := by
  obtain ⟨k, rfl⟩ := Int.eq_ofNat_of_zero_le h0
  have hk : k < zs.length := by omega
  refine ⟨zs[k], List.getElem_mem hk, atI_nat ?_⟩
  rw [List.getElem?_map, List.getElem?_eq_getElem hk] <;> rfl
theorem b01 (b : Bool) : -(2 ^ 64) < (if b = true then (1 : Int) else 0) ∧ (if b = true then (1 : Int) else 0) < 2 ^ 64 := by
  cases b <;> decide
theorem b01n (b : Bool) : 0 ≤ (if b = true then (1 : Int) else 0) := by
  cases b <;> decide
theorem cut_ints (ns : List Int) (lo hi : Option Int) : ∃ ms : List Int, cutV (ns.map V.int) lo hi = ms.map V.int ∧ ms.length ≤ ns.length - HT.sIx ns.length 0 lo := by
  refine ⟨(ns.drop (HT.sIx ns.length 0 lo)).take (HT.sIx ns.length ns.length hi - HT.sIx ns.length 0 lo), ?_, ?_⟩
  · unfold cutV
    rw [List.length_map, List.map_take, List.map_drop]
  · rw [List.length_take, List.length_drop]
    omega
section
variable {K : PySem.W.Frag} {σ : L2.St} {H H' : Hp} {D : Ends} {tz tu : TS} {g : TG}
theorem q_forE {xs : List V} {tl : TE} (h : EvL tl σ H xs) (Pv : Addr → Nat → L2.St → Hp → Prop) (h0 : ∀ c H1, H c = none → Ex H H1 → H1 c = some (.lst xs) → Pv c 0 σ H1) (hl : ∀ c i σ' H', i ≤ xs.length → Pv c i σ' H' → SqL K H' c xs)
    (hs : ∀ c i x σ' H' T, xs[i]? = some x → Pv c i σ' H' → H' T = none → g (.ref T) σ' (upd H' T (.tup [.int (i : Nat), x])) fun σ2 H2 => tu { D with nx := Pv c (i + 1), ct := Pv c (i + 1), bk := tz D } σ2 H2) (hd : ∀ c σ' H', Pv c xs.length σ' H' → tz D σ' H') : tSeq (tFor (iEnum K (tCons tl tNil)) g tu) tz D σ H :=
  h H (Ex.refl H) _ fun c H1 hc e h1 => ⟨c, xs, rfl, sq_of h1, for_it (walk_enum (xs := xs)) (D := { D with nx := tz D }) (Pv c) (h0 c H1 hc e h1) (hl c) (fun i x σ' H' H2 hi p y => by
    obtain ⟨T, u, z, rfl, nT, rfl, hu, hz⟩ := y
    cases hu
    exact hs c i z σ' H' T hz p nT) (hd c)⟩
end
theorem fmod_nat (i m : Nat) : ((i : Nat) : Int).fmod ((m : Nat) : Int) = ((i % m : Nat) : Int) := by
  rw [Int.fmod_eq_emod_of_nonneg _ (Int.natCast_nonneg m)]
  rfl
theorem ExB.back {b p : Addr} {H H' : Hp} (e : ExB b H H') (h : H' p = none) (n : p ≠ b) : H p = none := by
  cases z : H p with
  | none => rfl
  | some o =>
    rw [e p o n z] at h
    cases h
theorem mul_bd {r i : Int} (h0 : 0 ≤ r) (h1 : r ≤ 3) (g0 : 0 ≤ i) (g1 : i ≤ 40) : 0 ≤ r * i ∧ r * i ≤ 120 :=
  ⟨Int.mul_nonneg h0 g0, Int.le_trans (Int.mul_le_mul h1 g1 g0 (by decide)) (by decide)⟩
end HH
set_option maxHeartbeats 4000000
namespace HH
open PySem PySem.Spec PyProof.Rows L2 Evl RZ
/-! data -/
def Nice (k : Nat) (d : PyData) : Prop := d.canLay0 = true ∧ d.depth ≤ k
theorem nice_all {k : Nat} : ∀ {ds : List PyData}, (∀ d ∈ ds, Nice k d) → PyData.canLayAll0 ds = true ∧ PyData.depthAll ds ≤ k
  | [], _ => ⟨by simp [PyData.canLayAll0], by simp [PyData.depthAll]⟩
  | d :: ds, h => by
    have h1 := h d (List.mem_cons_self ..)
    have h2 := nice_all (fun e he => h e (List.mem_cons_of_mem _ he))
    refine ⟨by simp [PyData.canLayAll0, h1.1, h2.1], ?_⟩
    have e : PyData.depthAll (d :: ds) = max d.depth (PyData.depthAll ds) := by simp [PyData.depthAll]
    rw [e]
    have := h1.2
    have := h2.2
    omega
theorem nice_int (k : Nat) (i : Int) : Nice k (.int i) := ⟨by simp [PyData.canLay0], by simp [PyData.depth]⟩
theorem nice_bool (k : Nat) (i : Bool) : Nice k (.bool i) := ⟨by simp [PyData.canLay0], by simp [PyData.depth]⟩
theorem nice_str (k : Nat) (i : Str) (h : PyData.strOk i = true) : Nice k (.str i) := ⟨by simp [PyData.canLay0, h], by simp [PyData.depth]⟩
theorem nice_list {k : Nat} {ds : List PyData} (h : ∀ d ∈ ds, Nice k d) : Nice (k + 1) (.list ds) := ⟨by simp [PyData.canLay0, (nice_all h).1], by
  have := (nice_all h).2
  simp [PyData.depth]
  omega⟩
theorem nice_tuple {k : Nat} {ds : List PyData} (h : ∀ d ∈ ds, Nice k d) : Nice (k + 1) (.tuple ds) := ⟨by simp [PyData.canLay0, (nice_all h).1], by
  have := (nice_all h).2
  simp [PyData.depth]
  omega⟩
theorem Nice.shaped {k : Nat} {d : PyData} (h : Nice k d) (hk : k ≤ 64) : SeqAt.shaped d = true := by
  unfold SeqAt.shaped
  rw [h.1, decide_eq_true (Nat.le_trans h.2 hk)]
  rfl
theorem dp_ints {K : PySem.W.Frag} {H : Hp} : ∀ ns : List Int, DpAll K H (ns.map V.int) (ns.map PyData.int)
  | [] => .nil
  | n :: ns => .cons (.int n) (dp_ints ns)
theorem nice_ints (ns : List Int) : ∀ d ∈ ns.map PyData.int, Nice 0 d := fun d hd => by
  obtain ⟨i, _, rfl⟩ := List.mem_map.mp hd
  exact nice_int 0 i
mutual
theorem dp_ex {K : PySem.W.Frag} {H H' : Hp} (e : Ex H H') : ∀ {v : V} {d : PyData}, Dp K H v d → Dp K H' v d
  | _, _, .non => .non
  | _, _, .bl b => .bl b
  | _, _, .int i => .int i
  | _, _, .str x => .str x
  | _, _, .lst h g => .lst (ex_l e h) (dps_ex e g)
  | _, _, .tup h g => .tup (ex_t e h) (dps_ex e g)
theorem dps_ex {K : PySem.W.Frag} {H H' : Hp} (e : Ex H H') : ∀ {v : List V} {d : List PyData}, DpAll K H v d → DpAll K H' v d
  | _, _, .nil => .nil
  | _, _, .cons h g => .cons (dp_ex e h) (dps_ex e g)
end
theorem dps_len {K : PySem.W.Frag} {H : Hp} : ∀ {v : List V} {d : List PyData}, DpAll K H v d → v.length = d.length
  | _, _, .nil => rfl
  | _, _, .cons h g => by
    rw [List.length_cons, List.length_cons, dps_len g]
section
variable {K : PySem.W.Frag} {σ : L2.St} {H H' : Hp} {te : TE}
theorem et_neNil {k : Nat} {a : Addr} {xs : List V} {ds : List PyData} (h : Ev te σ H (.ref a)) (ha : SqL K H a xs) (hd : DpAll K H xs ds) (hn : ∀ d ∈ ds, Nice k d) (hk : k < 64) : EvT (tTest (tOp (rNeD K) te (tLst tNil))) σ H (!xs.isEmpty) := fun H1 e Q q =>
  h H1 e _ fun H2 e2 => ⟨by show 0 ≤ sizeLine; decide, fun p hp => by
    have e3 := (e.trans e2).trans (Ex.new (o := .lst []) hp)
    refine ⟨.list ds, .list [], .lst (ex_l e3 ha) (dps_ex e3 hd), .lst (sq_of upd_same) .nil, (nice_list hn).shaped (by omega), (nice_list (k := 0) (fun d h => by cases h)).shaped (by omega), _, rfl, ?_⟩
    have e4 : PyData.eqv (.list ds) (.list []) = xs.isEmpty := by
      have hl := dps_len hd
      cases ds with
      | nil =>
        have : xs = [] := List.length_eq_zero_iff.mp hl
        subst this
        simp [PyData.eqv, PyData.eqvAll]
      | cons d ds =>
        cases xs with
        | nil => cases hl
        | cons x xs => simp [PyData.eqv, PyData.eqvAll]
    rw [e4]
    exact q _ (e2.trans (Ex.new hp))⟩
end
/-! the number that falls -/
def meas (B : Nat) : List Nat → Nat
  | [] => 0
  | d :: ds => d * B ^ ds.length + meas B ds
theorem meas_lt {B : Nat} : ∀ {ds : List Nat}, (∀ d ∈ ds, d < B) → meas B ds < B ^ ds.length
  | [], _ => by simp [meas]
  | d :: ds, h => by
    have h1 := h d (List.mem_cons_self ..)
    have h2 := meas_lt (fun e he => h e (List.mem_cons_of_mem _ he))
    show d * B ^ ds.length + meas B ds < B ^ (ds.length + 1)
    have h3 : (d + 1) * B ^ ds.length ≤ B * B ^ ds.length := Nat.mul_le_mul_right _ h1
    rw [Nat.pow_succ, Nat.mul_comm (B ^ ds.length) B]
    rw [Nat.add_mul, Nat.one_mul] at h3
    omega
theorem meas_fall {B : Nat} {x y x' y' : Nat} {post : List Nat} (hx : x' < x) (hd : ∀ d ∈ y' :: post, d < B) : ∀ pre : List Nat, meas B (pre ++ x' :: y' :: post) < meas B (pre ++ x :: y :: post)
  | [] => by
    have h := meas_lt hd
    show x' * B ^ (y' :: post).length + meas B (y' :: post) < x * B ^ (y :: post).length + meas B (y :: post)
    have e : (y :: post).length = (y' :: post).length := rfl
    rw [e]
    have h3 : (x' + 1) * B ^ (y' :: post).length ≤ x * B ^ (y' :: post).length := Nat.mul_le_mul_right _ hx
    rw [Nat.add_mul, Nat.one_mul] at h3
    omega
  | d :: pre => by
    have ih := meas_fall (y := y) hx hd pre
    show d * B ^ (pre ++ x' :: y' :: post).length + meas B (pre ++ x' :: y' :: post) < d * B ^ (pre ++ x :: y :: post).length + meas B (pre ++ x :: y :: post)
    have e : (pre ++ x' :: y' :: post).length = (pre ++ x :: y :: post).length := by
      rw [List.length_append, List.length_append]
      rfl
    rw [e]
    omega
/-- a row about a pair of neighbours -/
theorem row_split {rs : Row} {p : Nat} (h : p + 1 < rs.length) : ∃ (pre : Row) (x y : Int × Int) (post : Row), rs = pre ++ x :: y :: post ∧ pre.length = p := by
  refine ⟨rs.take p, rs[p], rs[p + 1], rs.drop (p + 2), ?_, by rw [List.length_take]; omega⟩
  rw [← List.drop_eq_getElem_cons h, ← List.drop_eq_getElem_cons (by omega), List.take_append_drop]
theorem sS_at {pre post : Row} {x y : Int × Int} : sS (pre ++ x :: y :: post) pre.length = x.1 ∧ tS (pre ++ x :: y :: post) pre.length = x.2 ∧ sS (pre ++ x :: y :: post) (pre.length + 1) = y.1 ∧ tS (pre ++ x :: y :: post) (pre.length + 1) = y.2 := by
  unfold sS tS
  have h1 : (pre ++ x :: y :: post)[pre.length]? = some x := by
    rw [List.getElem?_append_right (Nat.le_refl _), Nat.sub_self]
    rfl
  have h2 : (pre ++ x :: y :: post)[pre.length + 1]? = some y := by
    rw [List.getElem?_append_right (by omega), show pre.length + 1 - pre.length = 1 by omega]
    rfl
  rw [h1, h2]
  exact ⟨rfl, rfl, rfl, rfl⟩
theorem split_take {pre post : Row} {x y : Int × Int} : (pre ++ x :: y :: post).take pre.length = pre ∧ (pre ++ x :: y :: post).drop (pre.length + 2) = post := by
  constructor
  · rw [List.take_append_of_le_length (Nat.le_refl _), List.take_length]
  · rw [← List.drop_drop, List.drop_append_of_le_length (Nat.le_refl _), List.drop_length]
    rfl
theorem pass_split {pre post : Row} {x y : Int × Int} : passR (pre ++ x :: y :: post) (pre.length + 1) = pre ++ (y.1 - x.2, y.2) :: x :: post := by
  unfold passR
  obtain ⟨h1, h2, h3, h4⟩ := sS_at (pre := pre) (post := post) (x := x) (y := y)
  obtain ⟨g1, g2⟩ := split_take (pre := pre) (post := post) (x := x) (y := y)
  rw [Nat.add_sub_cancel, h1, h2, h3, h4, g1, show pre.length + 1 + 1 = pre.length + 2 from rfl, g2, List.append_assoc]
  rfl
theorem fall_split {pre post : Row} {x y : Int × Int} : fallR (pre ++ x :: y :: post) pre.length = pre ++ y :: (x.1 + y.2, x.2) :: post := by
  unfold fallR
  obtain ⟨h1, h2, h3, h4⟩ := sS_at (pre := pre) (post := post) (x := x) (y := y)
  obtain ⟨g1, g2⟩ := split_take (pre := pre) (post := post) (x := x) (y := y)
  rw [h1, h2, h3, h4, g1, g2, List.append_assoc]
  rfl
theorem lets_split {pre post : Row} {x y : Int × Int} : letsN (pre ++ x :: y :: post) (pre.length + 1) = decide (y.1 - x.2 > x.1) := by
  unfold letsN
  obtain ⟨h1, h2, h3, h4⟩ := sS_at (pre := pre) (post := post) (x := x) (y := y)
  rw [Nat.add_sub_cancel, h1, h2, h3, decide_eq_true (Nat.succ_pos _), Bool.true_and]
theorem falls_split {pre post : Row} {x y : Int × Int} : fallsN (pre ++ x :: y :: post) pre.length = decide (x.1 > y.1) := by
  unfold fallsN
  obtain ⟨h1, h2, h3, h4⟩ := sS_at (pre := pre) (post := post) (x := x) (y := y)
  rw [h1, h3]
/-! bounds that passings and fallings keep -/
def Within (lo hi : Int) (rs : Row) : Prop := ∀ b ∈ rs, lo ≤ b.1 ∧ b.1 ≤ hi ∧ 0 ≤ b.2
theorem within_mid {lo hi : Int} {pre post : Row} {x y : Int × Int} : Within lo hi (pre ++ x :: y :: post) ↔ (Within lo hi pre ∧ (lo ≤ x.1 ∧ x.1 ≤ hi ∧ 0 ≤ x.2) ∧ (lo ≤ y.1 ∧ y.1 ≤ hi ∧ 0 ≤ y.2) ∧ Within lo hi post) := by
  unfold Within
  constructor
  · intro h
    refine ⟨fun b hb => h b (List.mem_append_left _ hb), h x (by simp), h y (by simp), fun b hb => h b (by simp [hb])⟩
  · intro h b hb
    rcases List.mem_append.mp hb with g | g
    · exact h.1 b g
    · rcases List.mem_cons.mp g with rfl | g
      · exact h.2.1
      · rcases List.mem_cons.mp g with rfl | g
        · exact h.2.2.1
        · exact h.2.2.2 b g
def digP (hi : Int) (rs : Row) : List Nat := rs.map fun b => (hi - b.1).toNat
theorem pass_step {lo hi : Int} {rs : Row} {p : Nat} (hw : Within lo hi rs) (hp : p < rs.length) (hl : letsN rs p = true) : Within lo hi (passR rs p) ∧ meas (hi - lo + 1).toNat (digP hi (passR rs p)) < meas (hi - lo + 1).toNat (digP hi rs) := by
  have h0 : 0 < p := by
    have := (Bool.and_eq_true_iff.mp hl).1
    exact of_decide_eq_true this
  obtain ⟨k, rfl⟩ : ∃ k, p = k + 1 := ⟨p - 1, by omega⟩
  obtain ⟨pre, x, y, post, rfl, rfl⟩ := row_split hp
  rw [lets_split] at hl
  have hl := of_decide_eq_true hl
  rw [pass_split]
  obtain ⟨w1, w2, w3, w4⟩ := within_mid.mp hw
  have hw' : Within lo hi (pre ++ (y.1 - x.2, y.2) :: x :: post) := within_mid.mpr ⟨w1, ⟨by dsimp only; omega, by dsimp only; omega, w3.2.2⟩, w2, w4⟩
  refine ⟨hw', ?_⟩
  have e1 : digP hi (pre ++ (y.1 - x.2, y.2) :: x :: post) = digP hi pre ++ (hi - (y.1 - x.2)).toNat :: (hi - x.1).toNat :: digP hi post := by
    unfold digP
    rw [List.map_append, List.map_cons, List.map_cons]
  have e2 : digP hi (pre ++ x :: y :: post) = digP hi pre ++ (hi - x.1).toNat :: (hi - y.1).toNat :: digP hi post := by
    unfold digP
    rw [List.map_append, List.map_cons, List.map_cons]
  rw [e1, e2]
  refine meas_fall (by omega) (fun d hd => ?_) _
  rcases List.mem_cons.mp hd with rfl | hd
  · omega
  · obtain ⟨b, hb, rfl⟩ := List.mem_map.mp hd
    have := w4 b hb
    omega
/-- strengths above by what stands ahead -/
def Ub : Int → Row → Prop
  | _, [] => True
  | U, b :: r => b.1 ≤ U ∧ Ub (U + b.2) r
def tsum : Row → Int
  | [] => 0
  | b :: r => b.2 + tsum r
def Lb (lo : Int) (rs : Row) : Prop := ∀ b ∈ rs, lo ≤ b.1 ∧ 0 ≤ b.2
theorem tsum_app : ∀ (pre post : Row), tsum (pre ++ post) = tsum pre + tsum post
  | [], post => by
    show tsum post = 0 + tsum post
    omega
  | b :: pre, post => by
    show b.2 + tsum (pre ++ post) = b.2 + tsum pre + tsum post
    rw [tsum_app pre post]
    omega
theorem tsum_nn : ∀ {rs : Row} {lo : Int}, Lb lo rs → 0 ≤ tsum rs
  | [], _, _ => Int.le_refl _
  | b :: r, lo, h => by
    have h1 := (h b (List.mem_cons_self ..)).2
    have h2 := tsum_nn (rs := r) (lo := lo) (fun c hc => h c (List.mem_cons_of_mem _ hc))
    show 0 ≤ b.2 + tsum r
    omega
theorem ub_app : ∀ {pre post : Row} {U : Int}, Ub U (pre ++ post) ↔ (Ub U pre ∧ Ub (U + tsum pre) post)
  | [], post, U => by
    show Ub U post ↔ True ∧ Ub (U + 0) post
    rw [Int.add_zero]
    simp
  | b :: pre, post, U => by
    show (b.1 ≤ U ∧ Ub (U + b.2) (pre ++ post)) ↔ (b.1 ≤ U ∧ Ub (U + b.2) pre) ∧ Ub (U + (b.2 + tsum pre)) post
    rw [ub_app (pre := pre) (post := post) (U := U + b.2), Int.add_assoc, and_assoc]
theorem ub_le : ∀ {rs : Row} {U lo : Int}, Ub U rs → Lb lo rs → ∀ b ∈ rs, b.1 ≤ U + tsum rs
  | [], _, _, _, _, b, hb => by cases hb
  | c :: r, U, lo, h, hl, b, hb => by
    have hc := (hl c (List.mem_cons_self ..)).2
    have hr : Lb lo r := fun d hd => hl d (List.mem_cons_of_mem _ hd)
    have hn := tsum_nn hr
    show b.1 ≤ U + (c.2 + tsum r)
    rcases List.mem_cons.mp hb with rfl | hb
    · have := h.1
      omega
    · have := ub_le h.2 hr b hb
      omega
theorem ub_of : ∀ {rs : Row} {U lo : Int}, Lb lo rs → (∀ b ∈ rs, b.1 ≤ U) → Ub U rs
  | [], _, _, _, _ => True.intro
  | c :: r, U, lo, hl, h => by
    have hc := (hl c (List.mem_cons_self ..)).2
    refine ⟨h c (List.mem_cons_self ..), ub_of (lo := lo) (fun d hd => hl d (List.mem_cons_of_mem _ hd)) fun b hb => ?_⟩
    have := h b (List.mem_cons_of_mem _ hb)
    omega
theorem lb_mid {lo : Int} {pre post : Row} {x y : Int × Int} : Lb lo (pre ++ x :: y :: post) ↔ (Lb lo pre ∧ (lo ≤ x.1 ∧ 0 ≤ x.2) ∧ (lo ≤ y.1 ∧ 0 ≤ y.2) ∧ Lb lo post) := by
  unfold Lb
  constructor
  · intro h
    refine ⟨fun b hb => h b (List.mem_append_left _ hb), h x (by simp), h y (by simp), fun b hb => h b (by simp [hb])⟩
  · intro h b hb
    rcases List.mem_append.mp hb with g | g
    · exact h.1 b g
    · rcases List.mem_cons.mp g with rfl | g
      · exact h.2.1
      · rcases List.mem_cons.mp g with rfl | g
        · exact h.2.2.1
        · exact h.2.2.2 b g
def digF (lo : Int) (rs : Row) : List Nat := rs.map fun b => (b.1 - lo).toNat
def Fok (lo U T : Int) (rs : Row) : Prop := Lb lo rs ∧ Ub U rs ∧ tsum rs = T
theorem fall_step {lo U T : Int} {rs : Row} {p : Nat} (hw : Fok lo U T rs) (hp : p + 1 < rs.length) (hl : fallsN rs p = true) : Fok lo U T (fallR rs p) ∧ meas (U + T - lo + 1).toNat (digF lo (fallR rs p)) < meas (U + T - lo + 1).toNat (digF lo rs) := by
  obtain ⟨pre, x, y, post, rfl, rfl⟩ := row_split hp
  rw [falls_split] at hl
  have hl := of_decide_eq_true hl
  rw [fall_split]
  obtain ⟨w1, w2, w3⟩ := hw
  obtain ⟨a1, a2, a3, a4⟩ := lb_mid.mp w1
  obtain ⟨b1, b2⟩ := ub_app.mp w2
  have b3 : x.1 ≤ U + tsum pre := b2.1
  have b4 : y.1 ≤ U + tsum pre + x.2 := b2.2.1
  have b5 : Ub (U + tsum pre + x.2 + y.2) post := b2.2.2
  have c1 : Lb lo (pre ++ y :: (x.1 + y.2, x.2) :: post) := lb_mid.mpr ⟨a1, a3, ⟨by dsimp only; omega, a2.2⟩, a4⟩
  have c2 : Ub U (pre ++ y :: (x.1 + y.2, x.2) :: post) := by
    refine ub_app.mpr ⟨b1, by omega, by dsimp only; omega, ?_⟩
    have e : U + tsum pre + y.2 + (x.1 + y.2, x.2).2 = U + tsum pre + x.2 + y.2 := by
      dsimp only
      omega
    rw [e]
    exact b5
  have c3 : tsum (pre ++ y :: (x.1 + y.2, x.2) :: post) = T := by
    rw [tsum_app] at w3 ⊢
    have e1 : tsum (x :: y :: post) = x.2 + (y.2 + tsum post) := rfl
    have e2 : tsum (y :: (x.1 + y.2, x.2) :: post) = y.2 + (x.2 + tsum post) := rfl
    rw [e1] at w3
    rw [e2]
    omega
  refine ⟨⟨c1, c2, c3⟩, ?_⟩
  have e1 : digF lo (pre ++ y :: (x.1 + y.2, x.2) :: post) = digF lo pre ++ (y.1 - lo).toNat :: (x.1 + y.2 - lo).toNat :: digF lo post := by
    unfold digF
    rw [List.map_append, List.map_cons, List.map_cons]
  have e2 : digF lo (pre ++ x :: y :: post) = digF lo pre ++ (x.1 - lo).toNat :: (y.1 - lo).toNat :: digF lo post := by
    unfold digF
    rw [List.map_append, List.map_cons, List.map_cons]
  rw [e1, e2]
  have hub := ub_le c2 c1
  rw [c3] at hub
  refine meas_fall (by omega) (fun d hd => ?_) _
  rcases List.mem_cons.mp hd with rfl | hd
  · have := hub (x.1 + y.2, x.2) (by simp)
    dsimp only at this
    omega
  · obtain ⟨b, hb, rfl⟩ := List.mem_map.mp hd
    have := hub b (by simp [hb])
    have := a4 b hb
    omega
end HH
set_option maxHeartbeats 4000000
namespace HH
/-! beasts with their places at first -/
abbrev Cow := Nat × (Int × Int)
def Chk (id : Nat) : Int → List Cow → Prop
  | _, [] => True
  | c, y :: r => (y.1 < id → y.2.1 < c) ∧ Chk id (if y.1 < id then c + y.2.2 else c) r
def PInv : List Cow → Prop
  | [] => True
  | x :: r => Chk x.1 (x.2.1 + x.2.2) r ∧ PInv r
def FChk (id : Nat) : Int → List Cow → Prop
  | _, [] => True
  | c, y :: r => (y.1 < id → c < y.2.1) ∧ FChk id (if id < y.1 then c + y.2.2 else c) r
def FInv : List Cow → Prop
  | [] => True
  | x :: r => FChk x.1 x.2.1 r ∧ FInv r
def tag : Nat → Row → List Cow
  | _, [] => []
  | k, b :: r => (k, b) :: tag (k + 1) r
theorem tag_snd : ∀ (k : Nat) (rs : Row), (tag k rs).map (·.2) = rs
  | _, [] => rfl
  | k, b :: r => by
    show b :: (tag (k + 1) r).map (·.2) = b :: r
    rw [tag_snd]
theorem tag_fst : ∀ (k : Nat) (rs : Row), (tag k rs).map (·.1) = (List.range rs.length).map (k + ·)
  | _, [] => rfl
  | k, b :: r => by
    show k :: (tag (k + 1) r).map (·.1) = (List.range (r.length + 1)).map (k + ·)
    rw [tag_fst, List.range_succ_eq_map, List.map_cons, List.map_map]
    have e : (List.range r.length).map (fun x => k + 1 + x) = (List.range r.length).map ((fun x => k + x) ∘ Nat.succ) := List.map_congr_left fun i _ => by
      show k + 1 + i = k + (i + 1)
      omega
    rw [e]
    rfl
theorem tag_len (k : Nat) (rs : Row) : (tag k rs).length = rs.length := by
  have := congrArg List.length (tag_snd k rs)
  rw [List.length_map] at this
  exact this
theorem chk_tag : ∀ (id k : Nat) (c : Int) (rs : Row), id ≤ k → Chk id c (tag k rs)
  | _, _, _, [], _ => True.intro
  | id, k, c, b :: r, h => by
    refine ⟨fun h1 => ?_, ?_⟩
    · have h2 : k < id := h1
      omega
    · rw [if_neg (show ¬ k < id by omega)]
      exact chk_tag id (k + 1) c r (by omega)
theorem fchk_tag : ∀ (id k : Nat) (c : Int) (rs : Row), id ≤ k → FChk id c (tag k rs)
  | _, _, _, [], _ => True.intro
  | id, k, c, b :: r, h => by
    refine ⟨fun h1 => ?_, fchk_tag id (k + 1) _ r (by omega)⟩
    have h2 : k < id := h1
    omega
theorem pinv_tag : ∀ (k : Nat) (rs : Row), PInv (tag k rs)
  | _, [] => True.intro
  | k, b :: r => ⟨chk_tag k (k + 1) _ r (by omega), pinv_tag (k + 1) r⟩
theorem finv_tag : ∀ (k : Nat) (rs : Row), FInv (tag k rs)
  | _, [] => True.intro
  | k, b :: r => ⟨fchk_tag k (k + 1) _ r (by omega), finv_tag (k + 1) r⟩
theorem pinv_tail : ∀ {pre post : List Cow}, PInv (pre ++ post) → PInv post
  | [], _, h => h
  | _ :: pre, _, h => pinv_tail (pre := pre) h.2
theorem finv_tail : ∀ {pre post : List Cow}, FInv (pre ++ post) → FInv post
  | [], _, h => h
  | _ :: pre, _, h => finv_tail (pre := pre) h.2
/-- whoever may pass has not been passed by that one -/
theorem pinv_lt {pre post : List Cow} {a b : Cow} (h : PInv (pre ++ a :: b :: post)) (hp : b.2.1 - a.2.2 > a.2.1) (hne : a.1 ≠ b.1) : a.1 < b.1 := by
  have h1 := (pinv_tail h).1.1
  rcases Nat.lt_or_ge a.1 b.1 with h2 | h2
  · exact h2
  · have := h1 (by omega)
    omega
theorem finv_lt {pre post : List Cow} {a b : Cow} (h : FInv (pre ++ a :: b :: post)) (hp : a.2.1 > b.2.1) (hne : a.1 ≠ b.1) : a.1 < b.1 := by
  have h1 := (finv_tail h).1.1
  rcases Nat.lt_or_ge a.1 b.1 with h2 | h2
  · exact h2
  · have := h1 (by omega)
    omega
theorem chk_pass {id : Nat} {a b : Cow} {post : List Cow} (hab : a.1 < b.1) (ht : 0 ≤ b.2.2) (hp : b.2.1 - a.2.2 > a.2.1) : ∀ {pre : List Cow} {c : Int}, Chk id c (pre ++ a :: b :: post) → Chk id c (pre ++ (b.1, (b.2.1 - a.2.2, b.2.2)) :: a :: post)
  | [], c, h => by
    obtain ⟨h1, h2, h3⟩ := h
    show (b.1 < id → b.2.1 - a.2.2 < c) ∧ (a.1 < id → a.2.1 < if b.1 < id then c + b.2.2 else c) ∧ Chk id _ post
    by_cases hb : b.1 < id
    · have ha : a.1 < id := by omega
      rw [if_pos ha] at h2 h3
      rw [if_pos hb] at h3 ⊢
      have g1 := h1 ha
      have g2 := h2 hb
      refine ⟨fun _ => by omega, fun _ => by omega, ?_⟩
      rw [if_pos ha]
      have e : c + b.2.2 + a.2.2 = c + a.2.2 + b.2.2 := by omega
      show Chk id (c + b.2.2 + a.2.2) post
      rw [e]
      exact h3
    · rw [if_neg hb] at h3 ⊢
      refine ⟨fun z => absurd z hb, h1, ?_⟩
      exact h3
  | x :: pre, c, h => ⟨h.1, chk_pass hab ht hp (pre := pre) h.2⟩
theorem fchk_fall {id : Nat} {a b : Cow} {post : List Cow} (hab : a.1 < b.1) (ht : 0 ≤ b.2.2) (hp : a.2.1 > b.2.1) : ∀ {pre : List Cow} {c : Int}, FChk id c (pre ++ a :: b :: post) → FChk id c (pre ++ b :: (a.1, (a.2.1 + b.2.2, a.2.2)) :: post)
  | [], c, h => by
    obtain ⟨h1, h2, h3⟩ := h
    show (b.1 < id → c < b.2.1) ∧ (a.1 < id → (if id < b.1 then c + b.2.2 else c) < a.2.1 + b.2.2) ∧ FChk id (if id < a.1 then (if id < b.1 then c + b.2.2 else c) + a.2.2 else (if id < b.1 then c + b.2.2 else c)) post
    by_cases ha : id < a.1
    · have hb : id < b.1 := by omega
      rw [if_pos ha] at h2 h3
      rw [if_pos hb] at h3
      rw [if_pos ha, if_pos hb]
      refine ⟨fun z => by omega, fun z => by omega, ?_⟩
      have e : c + b.2.2 + a.2.2 = c + a.2.2 + b.2.2 := by omega
      rw [e]
      exact h3
    · rw [if_neg ha] at h2 h3
      rw [if_neg ha]
      by_cases hb : id < b.1
      · rw [if_pos hb] at h3
        rw [if_pos hb]
        refine ⟨fun z => by omega, fun z => ?_, h3⟩
        have := h1 z
        omega
      · rw [if_neg hb] at h3
        rw [if_neg hb]
        refine ⟨h2, fun z => ?_, h3⟩
        have := h1 z
        omega
  | x :: pre, c, h => ⟨h.1, fchk_fall hab ht hp (pre := pre) h.2⟩
theorem pinv_pass {a b : Cow} {post : List Cow} (hab : a.1 < b.1) (ht : 0 ≤ b.2.2) (hp : b.2.1 - a.2.2 > a.2.1) : ∀ {pre : List Cow}, PInv (pre ++ a :: b :: post) → PInv (pre ++ (b.1, (b.2.1 - a.2.2, b.2.2)) :: a :: post)
  | [], h => by
    obtain ⟨⟨_, h1⟩, h2, h3⟩ := h
    rw [if_neg (show ¬ b.1 < a.1 by omega)] at h1
    refine ⟨⟨fun _ => ?_, ?_⟩, h1, h3⟩
    · show a.2.1 < b.2.1 - a.2.2 + b.2.2
      omega
    · show Chk b.1 (if a.1 < b.1 then b.2.1 - a.2.2 + b.2.2 + a.2.2 else _) post
      rw [if_pos hab]
      have e : b.2.1 - a.2.2 + b.2.2 + a.2.2 = b.2.1 + b.2.2 := by omega
      rw [e]
      exact h2
  | x :: pre, h => ⟨chk_pass hab ht hp h.1, pinv_pass hab ht hp (pre := pre) h.2⟩
theorem finv_fall {a b : Cow} {post : List Cow} (hab : a.1 < b.1) (ht : 0 ≤ b.2.2) (hp : a.2.1 > b.2.1) : ∀ {pre : List Cow}, FInv (pre ++ a :: b :: post) → FInv (pre ++ b :: (a.1, (a.2.1 + b.2.2, a.2.2)) :: post)
  | [], h => by
    obtain ⟨⟨_, h1⟩, h2, h3⟩ := h
    rw [if_pos hab] at h1
    refine ⟨⟨fun _ => ?_, ?_⟩, h1, h3⟩
    · show b.2.1 < a.2.1 + b.2.2
      omega
    · show FChk b.1 (if b.1 < a.1 then b.2.1 + a.2.2 else b.2.1) post
      rw [if_neg (by omega)]
      exact h2
  | x :: pre, h => ⟨fchk_fall hab ht hp h.1, finv_fall hab ht hp (pre := pre) h.2⟩
/-! pairs that stand as at first -/
def cnt (a : Nat) : List Nat → Nat
  | [] => 0
  | y :: r => (if a < y then 1 else 0) + cnt a r
def asc : List Nat → Nat
  | [] => 0
  | a :: r => cnt a r + asc r
theorem cnt_swap {x a b : Nat} {post : List Nat} : ∀ pre : List Nat, cnt x (pre ++ a :: b :: post) = cnt x (pre ++ b :: a :: post)
  | [] => by
    show (if x < a then 1 else 0) + ((if x < b then 1 else 0) + cnt x post) = (if x < b then 1 else 0) + ((if x < a then 1 else 0) + cnt x post)
    omega
  | y :: pre => by
    show (if x < y then 1 else 0) + cnt x (pre ++ a :: b :: post) = (if x < y then 1 else 0) + cnt x (pre ++ b :: a :: post)
    rw [cnt_swap pre]
theorem asc_swap {a b : Nat} {post : List Nat} (h : a < b) : ∀ pre : List Nat, asc (pre ++ a :: b :: post) = asc (pre ++ b :: a :: post) + 1
  | [] => by
    show ((if a < b then 1 else 0) + cnt a post) + (cnt b post + asc post) = ((if b < a then 1 else 0) + cnt b post) + (cnt a post + asc post) + 1
    rw [if_pos h, if_neg (by omega)]
    omega
  | x :: pre => by
    show cnt x (pre ++ a :: b :: post) + asc (pre ++ a :: b :: post) = cnt x (pre ++ b :: a :: post) + asc (pre ++ b :: a :: post) + 1
    rw [cnt_swap pre, asc_swap h pre]
    omega
theorem cnt_le (a : Nat) : ∀ l : List Nat, cnt a l ≤ l.length
  | [] => Nat.le_refl _
  | y :: r => by
    show (if a < y then 1 else 0) + cnt a r ≤ r.length + 1
    have := cnt_le a r
    split <;> omega
theorem asc_le : ∀ l : List Nat, asc l ≤ l.length * l.length
  | [] => Nat.le_refl _
  | a :: r => by
    show cnt a r + asc r ≤ (r.length + 1) * (r.length + 1)
    have h1 := cnt_le a r
    have h2 := asc_le r
    have e : (r.length + 1) * (r.length + 1) = r.length * r.length + 2 * r.length + 1 := by
      rw [Nat.add_mul, Nat.mul_add]
      omega
    omega
/-! runs of passings, of fallings -/
inductive PRun (L0 : List Cow) : List Cow → List (Int × Int) → Prop
  | nil : PRun L0 L0 []
  | step {pre post : List Cow} {a b : Cow} {ps : List (Int × Int)} : PRun L0 (pre ++ a :: b :: post) ps → b.2.1 - a.2.2 > a.2.1 → PRun L0 (pre ++ (b.1, (b.2.1 - a.2.2, b.2.2)) :: a :: post) (ps ++ [((a.1 : Int), (b.1 : Int))])
inductive FRun (L0 : List Cow) : List Cow → List (Int × Int) → Prop
  | nil : FRun L0 L0 []
  | step {pre post : List Cow} {a b : Cow} {ps : List (Int × Int)} : FRun L0 (pre ++ a :: b :: post) ps → a.2.1 > b.2.1 → FRun L0 (pre ++ b :: (a.1, (a.2.1 + b.2.2, a.2.2)) :: post) (ps ++ [((a.1 : Int), (b.1 : Int))])
structure Facts (n : Nat) (L : List Cow) (ps : List (Int × Int)) : Prop where
  len : L.length = n
  tl : ∀ x ∈ L, 0 ≤ x.2.2
  nd : (L.map (·.1)).Nodup
  few : ps.length + asc (L.map (·.1)) ≤ n * n
theorem nd_ne {pre post : List Cow} {a b : Cow} (h : ((pre ++ a :: b :: post).map (·.1)).Nodup) : a.1 ≠ b.1 := by
  rw [List.map_append] at h
  have h1 := (List.nodup_append.mp h).2.1
  intro e
  have h2 := (List.nodup_cons.mp h1).1
  apply h2
  show a.1 ∈ b.1 :: post.map (·.1)
  rw [e]
  exact List.mem_cons_self ..
theorem nd_swap {pre post : List Cow} {a b : Cow} {u v : Int × Int} (h : ((pre ++ a :: b :: post).map (·.1)).Nodup) : ((pre ++ (b.1, u) :: (a.1, v) :: post).map (·.1)).Nodup := by
  rw [List.map_append] at h ⊢
  refine (List.Perm.nodup_iff ?_).mp h
  exact List.Perm.append_left _ (List.Perm.swap ..)
theorem asc_step {pre post : List Cow} {a b : Cow} {u v : Int × Int} (h : a.1 < b.1) : asc ((pre ++ a :: b :: post).map (·.1)) = asc ((pre ++ (b.1, u) :: (a.1, v) :: post).map (·.1)) + 1 := by
  rw [List.map_append, List.map_append]
  exact asc_swap h (pre.map (·.1))
theorem facts_tag {rs : Row} (h : ∀ b ∈ rs, 0 ≤ b.2) : Facts rs.length (tag 0 rs) [] := by
  refine ⟨tag_len 0 rs, fun x hx => ?_, ?_, ?_⟩
  · apply h
    rw [← tag_snd 0 rs]
    exact List.mem_map_of_mem (f := (·.2)) hx
  · rw [tag_fst]
    have e : (fun x => 0 + x) = (id : Nat → Nat) := by
      funext x
      exact Nat.zero_add x
    rw [e, List.map_id]
    exact List.nodup_range
  · have := asc_le ((tag 0 rs).map (·.1))
    rw [List.length_map, tag_len] at this
    show 0 + asc _ ≤ _
    omega
theorem facts_pass {n : Nat} {pre post : List Cow} {a b : Cow} {ps : List (Int × Int)} {q : Int × Int} (f : Facts n (pre ++ a :: b :: post) ps) (i : PInv (pre ++ a :: b :: post)) (hp : b.2.1 - a.2.2 > a.2.1) :
    Facts n (pre ++ (b.1, (b.2.1 - a.2.2, b.2.2)) :: a :: post) (ps ++ [q]) ∧ PInv (pre ++ (b.1, (b.2.1 - a.2.2, b.2.2)) :: a :: post) ∧ asc ((pre ++ (b.1, (b.2.1 - a.2.2, b.2.2)) :: a :: post).map (·.1)) < asc ((pre ++ a :: b :: post).map (·.1)) := by
  have hab := pinv_lt i hp (nd_ne f.nd)
  have hs := asc_step (pre := pre) (post := post) (a := a) (b := b) (u := (b.2.1 - a.2.2, b.2.2)) (v := a.2) hab
  have hb := f.tl b (by simp)
  have ha := f.tl a (by simp)
  refine ⟨⟨?_, fun x hx => ?_, nd_swap (v := a.2) f.nd, ?_⟩, pinv_pass hab hb hp i, ?_⟩
  · rw [← f.len, List.length_append, List.length_append]
    rfl
  · rcases List.mem_append.mp hx with h | h
    · exact f.tl x (List.mem_append_left _ h)
    · rcases List.mem_cons.mp h with rfl | h
      · exact hb
      · rcases List.mem_cons.mp h with rfl | h
        · exact ha
        · exact f.tl x (by simp [h])
  · have := f.few
    rw [List.length_append]
    show ps.length + 1 + asc ((pre ++ (b.1, (b.2.1 - a.2.2, b.2.2)) :: (a.1, a.2) :: post).map (·.1)) ≤ n * n
    omega
  · show asc ((pre ++ (b.1, (b.2.1 - a.2.2, b.2.2)) :: (a.1, a.2) :: post).map (·.1)) < _
    omega
theorem facts_fall {n : Nat} {pre post : List Cow} {a b : Cow} {ps : List (Int × Int)} {q : Int × Int} (f : Facts n (pre ++ a :: b :: post) ps) (i : FInv (pre ++ a :: b :: post)) (hp : a.2.1 > b.2.1) :
    Facts n (pre ++ b :: (a.1, (a.2.1 + b.2.2, a.2.2)) :: post) (ps ++ [q]) ∧ FInv (pre ++ b :: (a.1, (a.2.1 + b.2.2, a.2.2)) :: post) ∧ asc ((pre ++ b :: (a.1, (a.2.1 + b.2.2, a.2.2)) :: post).map (·.1)) < asc ((pre ++ a :: b :: post).map (·.1)) := by
  have hab := finv_lt i hp (nd_ne f.nd)
  have hs := asc_step (pre := pre) (post := post) (a := a) (b := b) (u := b.2) (v := (a.2.1 + b.2.2, a.2.2)) hab
  have hb := f.tl b (by simp)
  have ha := f.tl a (by simp)
  refine ⟨⟨?_, fun x hx => ?_, nd_swap (u := b.2) f.nd, ?_⟩, finv_fall hab hb hp i, ?_⟩
  · rw [← f.len, List.length_append, List.length_append]
    rfl
  · rcases List.mem_append.mp hx with h | h
    · exact f.tl x (List.mem_append_left _ h)
    · rcases List.mem_cons.mp h with rfl | h
      · exact hb
      · rcases List.mem_cons.mp h with rfl | h
        · exact ha
        · exact f.tl x (by simp [h])
  · have := f.few
    rw [List.length_append]
    show ps.length + 1 + asc ((pre ++ (b.1, b.2) :: (a.1, (a.2.1 + b.2.2, a.2.2)) :: post).map (·.1)) ≤ n * n
    omega
  · show asc ((pre ++ (b.1, b.2) :: (a.1, (a.2.1 + b.2.2, a.2.2)) :: post).map (·.1)) < _
    omega
end HH
set_option maxHeartbeats 4000000
namespace HH
open PySem PySem.Spec PyProof.Rows L2 Evl RZ
def rowsOf (L : List Cow) : HH.Row := L.map (·.2)
def ordL (L : List Cow) : List V := L.map fun x => V.int (x.1 : Int)
theorem RowAt.exL {K : PySem.W.Frag} {H H' : Hp} {v : V} {rs : HH.Row} {q : Addr} {ys : List V} (h : RowAt K H v rs) (e : ExB q H H') (hy : H q = some (.lst ys)) : RowAt K H' v rs := by
  obtain ⟨a, vs, h1, h2, h3⟩ := h
  exact ⟨a, vs, h1, e.t hy h2, h3.exB e hy⟩
theorem cow_len (L : List Cow) : (rowsOf L).length = L.length := List.length_map ..
theorem cow_split {L : List Cow} {p : Nat} (h : p + 1 < L.length) : ∃ (pre : List Cow) (x y : Cow) (post : List Cow), L = pre ++ x :: y :: post ∧ pre.length = p := by
  refine ⟨L.take p, L[p], L[p + 1], L.drop (p + 2), ?_, by rw [List.length_take]; omega⟩
  rw [← List.drop_eq_getElem_cons h, ← List.drop_eq_getElem_cons (by omega), List.take_append_drop]
theorem rows_mid (pre post : List Cow) (x y : Cow) : rowsOf (pre ++ x :: y :: post) = rowsOf pre ++ x.2 :: y.2 :: rowsOf post := by
  unfold rowsOf
  rw [List.map_append, List.map_cons, List.map_cons]
theorem ord_mid (pre post : List Cow) (x y : Cow) : ordL (pre ++ x :: y :: post) = ordL pre ++ V.int (x.1 : Int) :: V.int (y.1 : Int) :: ordL post := by
  unfold ordL
  rw [List.map_append, List.map_cons, List.map_cons]
theorem ord_len (L : List Cow) : (ordL L).length = L.length := List.length_map ..
theorem cow_pass {L : List Cow} {p : Nat} (hp : p < (rowsOf L).length) (hl : letsN (rowsOf L) p = true) : ∃ (pre post : List Cow) (a b : Cow), L = pre ++ a :: b :: post ∧ p = pre.length + 1 ∧ b.2.1 - a.2.2 > a.2.1 ∧ passR (rowsOf L) p = rowsOf (pre ++ (b.1, (b.2.1 - a.2.2, b.2.2)) :: a :: post) := by
  have h0 : 0 < p := of_decide_eq_true (Bool.and_eq_true_iff.mp hl).1
  rw [cow_len] at hp
  obtain ⟨k, rfl⟩ : ∃ k, p = k + 1 := ⟨p - 1, by omega⟩
  obtain ⟨pre, a, b, post, rfl, rfl⟩ := cow_split hp
  have e : pre.length = (rowsOf pre).length := (cow_len pre).symm
  rw [rows_mid, e, lets_split] at hl
  refine ⟨pre, post, a, b, rfl, rfl, of_decide_eq_true hl, ?_⟩
  rw [rows_mid, rows_mid, e, pass_split]
theorem cow_fall {L : List Cow} {p : Nat} (hp : p + 1 < (rowsOf L).length) (hl : fallsN (rowsOf L) p = true) : ∃ (pre post : List Cow) (a b : Cow), L = pre ++ a :: b :: post ∧ p = pre.length ∧ a.2.1 > b.2.1 ∧ fallR (rowsOf L) p = rowsOf (pre ++ b :: (a.1, (a.2.1 + b.2.2, a.2.2)) :: post) := by
  rw [cow_len] at hp
  obtain ⟨pre, a, b, post, rfl, rfl⟩ := cow_split hp
  have e : pre.length = (rowsOf pre).length := (cow_len pre).symm
  rw [rows_mid, e, falls_split] at hl
  refine ⟨pre, post, a, b, rfl, rfl, of_decide_eq_true hl, ?_⟩
  rw [rows_mid, rows_mid, e, fall_split]
theorem given_get {n : Nat} {f : Nat → Bool} {v : Nat → V} {r : Nat} {x : V} (h : (given n f v)[r]? = some x) : ∃ k, x = v k ∧ k < n ∧ f k = true := by
  unfold given at h
  have h1 := List.mem_of_getElem? h
  obtain ⟨k, hk, rfl⟩ := List.mem_map.mp h1
  obtain ⟨h2, h3⟩ := List.mem_filter.mp hk
  exact ⟨k, rfl, List.mem_range.mp h2, h3⟩
theorem ord_get {pre post : List Cow} {x y : Cow} : (ordL (pre ++ x :: y :: post))[pre.length]? = some (.int (x.1 : Int)) ∧ (ordL (pre ++ x :: y :: post))[pre.length + 1]? = some (.int (y.1 : Int)) := by
  rw [ord_mid]
  have e : pre.length = (ordL pre).length := (ord_len pre).symm
  rw [e]
  constructor
  · rw [List.getElem?_append_right (Nat.le_refl _), Nat.sub_self]
    rfl
  · rw [List.getElem?_append_right (by omega), show (ordL pre).length + 1 - (ordL pre).length = 1 by omega]
    rfl
theorem ord_swap {pre post : List Cow} {x y : Cow} {u v : Int × Int} : (ordL (pre ++ x :: y :: post)).take pre.length ++ [.int (y.1 : Int), .int (x.1 : Int)] ++ (ordL (pre ++ x :: y :: post)).drop (pre.length + 2) = ordL (pre ++ (y.1, u) :: (x.1, v) :: post) := by
  rw [ord_mid, ord_mid]
  have e : pre.length = (ordL pre).length := (ord_len pre).symm
  rw [e, List.take_append_of_le_length (Nat.le_refl _), List.take_length, ← List.drop_drop, List.drop_append_of_le_length (Nat.le_refl _), List.drop_length, List.append_assoc]
  rfl
theorem ord_tag (rs : HH.Row) : rgV 0 (rs.length : Int) = ordL (tag 0 rs) := by
  unfold rgV ordL
  have h := congrArg (List.map fun k : Nat => V.int (k : Int)) (tag_fst 0 rs)
  rw [List.map_map, List.map_map] at h
  refine Eq.trans ?_ h.symm
  rw [show ((rs.length : Int) - 0).toNat = rs.length by omega]
  refine List.map_congr_left fun i _ => ?_
  show V.int (0 + (i : Int)) = V.int ((0 + i : Nat) : Int)
  rw [Int.zero_add, Nat.zero_add]
section
variable {K : PySem.W.Frag} {σ : L2.St} {H H' : Hp} {te to ta tc : TE} {D : Ends} {tz : TS}
theorem q_sl {l : Addr} {xs ys : List V} {i j : Nat} {a c : Int} (h : EvL te σ H ys) (ho : Ev to σ H (.ref l)) (ha : Ev ta σ H (.int a)) (hc : Ev tc σ H (.int c)) (ea : a = (i : Int)) (ec : c = (j : Int)) (hl : H l = some (.lst xs)) (hij : i ≤ j) (hj : j ≤ xs.length) (hz : xs.length + ys.length ≤ 100000)
    (k : ∀ H1, Ex H H1 → tz D σ (upd H1 l (.lst (xs.take i ++ ys ++ xs.drop j)))) : tSeq (tAsg te (gSl to ta tc)) tz D σ H :=
  h H (Ex.refl H) _ fun b H1 hb e1 h1 => ho H1 e1 _ fun H2 e2 => ha H2 (e1.trans e2) _ fun H3 e3 => hc H3 ((e1.trans e2).trans e3) _ fun H4 e4 => by
    subst ea ec
    have e := (((e1.trans e2).trans e3).trans e4)
    exact ⟨l, b, xs, ys, (i : Int), (j : Int), rfl, rfl, rfl, rfl, e _ _ hl, ((e2.trans e3).trans e4) _ _ h1, ne_of_none hl hb, by omega, by omega, by omega, sz_of hz, k H4 e⟩
end
/-! promises -/
structure EndAt (K : PySem.W.Frag) (H H' : Hp) (p : Addr) (q : Addr) (v' : V) (ot lp : Addr) (pvs : List V) (L : List Cow) (ps : List (Int × Int)) (n : Nat) : Prop where
  ex : ExB p H H'
  bx : Bx H' p (n + 1000)
  q : H' q = some (.tup [v', .ref ot, .ref lp])
  row : RowAt K H' v' (rowsOf L)
  ord : H' ot = some (.tup (ordL L))
  lst : H' lp = some (.lst pvs)
  prs : Beasts K H' pvs ps
def spEnded (K : PySem.W.Frag) : Sp := fun vs H Q _ => ∃ (p : Addr) (v : V) (rs : HH.Row) (n : Nat), vs = [.ref p, v] ∧ RowAt K H v rs ∧ rs.length ≤ 30 ∧ (∀ b ∈ rs, 0 ≤ b.2) ∧ Bx H p n ∧ n + 1000 < Lim ∧
  ∀ (q : Addr) (v' : V) (ot lp : Addr) (pvs : List V) (L : List Cow) (ps : List (Int × Int)) (H' : Hp), EndAt K H H' p q v' ot lp pvs L ps n → PRun (tag 0 rs) L ps → Facts rs.length L ps → passL (rowsOf L) = [] → Q (.ref q) H'
def fallG (rs : HH.Row) : List V := given (rs.length - 1) (fallsN rs) (fun i => .int (i : Int))
def spBegun (K : PySem.W.Frag) : Sp := fun vs H Q _ => ∃ (p : Addr) (v : V) (rs : HH.Row) (n : Nat), vs = [.ref p, v] ∧ RowAt K H v rs ∧ 0 < rs.length ∧ rs.length ≤ 30 ∧ (∀ b ∈ rs, 0 ≤ b.2) ∧ Bx H p n ∧ n + 1000 < Lim ∧
  ∀ (q : Addr) (v' : V) (ot lp : Addr) (pvs : List V) (L : List Cow) (ps : List (Int × Int)) (H' : Hp), EndAt K H H' p q v' ot lp pvs L ps n → FRun (tag 0 rs) L ps → Facts rs.length L ps → fallG (rowsOf L) = [] → Q (.ref q) H'
end HH
set_option maxHeartbeats 4000000
namespace HH
open PySem PySem.Spec PyProof.Rows L2 Evl RZ
inductive All2 {α : Type} (R : V → α → Prop) : List V → List α → Prop
  | nil : All2 R [] []
  | cons {v : V} {x : α} {vs : List V} {xs : List α} : R v x → All2 R vs xs → All2 R (v :: vs) (x :: xs)
theorem All2.mono {α : Type} {R S : V → α → Prop} (h : ∀ v x, R v x → S v x) : ∀ {vs : List V} {xs : List α}, All2 R vs xs → All2 S vs xs
  | _, _, .nil => .nil
  | _, _, .cons a b => .cons (h _ _ a) (All2.mono h b)
theorem All2.app {α : Type} {R : V → α → Prop} : ∀ {vs : List V} {xs : List α} {us : List V} {ys : List α}, All2 R vs xs → All2 R us ys → All2 R (vs ++ us) (xs ++ ys)
  | _, _, _, _, .nil, h => h
  | _, _, _, _, .cons a b, h => .cons a (All2.app b h)
theorem All2.len {α : Type} {R : V → α → Prop} : ∀ {vs : List V} {xs : List α}, All2 R vs xs → vs.length = xs.length
  | _, _, .nil => rfl
  | _, _, .cons a b => by rw [List.length_cons, List.length_cons, All2.len b]
theorem All2.get {α : Type} {R : V → α → Prop} : ∀ {vs : List V} {xs : List α} {i : Nat} {v : V}, All2 R vs xs → vs[i]? = some v → ∃ x, xs[i]? = some x ∧ R v x
  | _, _, _, _, .nil, h => by simp at h
  | _, _, 0, _, .cons a b, h => by
    cases h
    exact ⟨_, rfl, a⟩
  | _, _, i + 1, _, .cons a b, h => All2.get (i := i) b h
/-! deeds: a passing or a falling, and where -/
abbrev Deed := Bool × Nat
def wordOf (b : Bool) : Str := if b then "pass" else "fall"
def DeedAt (K : PySem.W.Frag) (H : Hp) (v : V) (d : Deed) : Prop := ∃ p, v = .ref p ∧ SqT K H p [.str (wordOf d.1), .int (d.2 : Int)]
theorem deeds_ex {K : PySem.W.Frag} {H H' : Hp} {vs : List V} {ds : List Deed} (e : Ex H H') (h : All2 (DeedAt K H) vs ds) : All2 (DeedAt K H') vs ds := h.mono fun v d g => by
  obtain ⟨p, h1, h2⟩ := g
  exact ⟨p, h1, ex_t e h2⟩
theorem deeds_exB {K : PySem.W.Frag} {H H' : Hp} {vs : List V} {ds : List Deed} {q : Addr} {ys : List V} (e : ExB q H H') (hq : H q = some (.lst ys)) (h : All2 (DeedAt K H) vs ds) : All2 (DeedAt K H') vs ds := h.mono fun v d g => by
  obtain ⟨p, h1, h2⟩ := g
  exact ⟨p, h1, e.t hq h2⟩
def deedD (d : Deed) : PyData := .tuple [.str (wordOf d.1), .int (d.2 : Int)]
theorem deeds_dp {K : PySem.W.Frag} {H : Hp} : ∀ {vs : List V} {ds : List Deed}, All2 (DeedAt K H) vs ds → DpAll K H vs (ds.map deedD)
  | _, _, .nil => .nil
  | _, _, .cons a b => by
    obtain ⟨p, rfl, h2⟩ := a
    exact .cons (.tup h2 (.cons (.str _) (.cons (.int _) .nil))) (deeds_dp b)
theorem word_ok (b : Bool) : PyData.strOk (wordOf b) = true := by
  cases b <;> decide +kernel
theorem deeds_nice (ds : List Deed) : ∀ d ∈ ds.map deedD, Nice 1 d := fun d hd => by
  obtain ⟨x, _, rfl⟩ := List.mem_map.mp hd
  refine nice_tuple (k := 0) fun y hy => ?_
  rcases List.mem_cons.mp hy with rfl | hy
  · exact nice_str 0 _ (word_ok _)
  · rcases List.mem_cons.mp hy with rfl | hy
    · exact nice_int 0 _
    · cases hy
def deedsOf (b : Bool) (n : Nat) (f : Nat → Bool) : List Deed := ((List.range n).filter f).map fun i => (b, i)
theorem deedsOf_yes {b : Bool} {n : Nat} {f : Nat → Bool} (h : f n = true) : deedsOf b (n + 1) f = deedsOf b n f ++ [(b, n)] := by
  unfold deedsOf
  rw [List.range_succ, List.filter_append, List.map_append, List.filter_cons, if_pos h] <;> rfl
theorem deedsOf_no {b : Bool} {n : Nat} {f : Nat → Bool} (h : f n = false) : deedsOf b (n + 1) f = deedsOf b n f := by
  unfold deedsOf
  rw [List.range_succ, List.filter_append, List.map_append, List.filter_cons, if_neg (by rw [h]; decide)]
  exact List.append_nil _
theorem deedsOf_len (b : Bool) (n : Nat) (f : Nat → Bool) : (deedsOf b n f).length ≤ n := by
  unfold deedsOf
  rw [List.length_map]
  have h := List.length_filter_le f (List.range n)
  rw [List.length_range] at h
  exact h
theorem deedsOf_mem {b : Bool} {n : Nat} {f : Nat → Bool} {d : Deed} (h : d ∈ deedsOf b n f) : d.1 = b ∧ d.2 < n ∧ f d.2 = true := by
  unfold deedsOf at h
  obtain ⟨k, hk, rfl⟩ := List.mem_map.mp h
  obtain ⟨h2, h3⟩ := List.mem_filter.mp hk
  exact ⟨rfl, List.mem_range.mp h2, h3⟩
section
variable {K : PySem.W.Frag} {σ : L2.St} {H H' : Hp} {t : TT}
/-- a new list of deeds -/
def EvD (K : PySem.W.Frag) (te : TE) (σ : L2.St) (H : Hp) (ds : List Deed) : Prop := ∀ H1, Ex H H1 → ∀ Q : VK, (∀ p us H2, H1 p = none → Ex H1 H2 → H2 p = some (.lst us) → All2 (DeedAt K H2) us ds → Q (.ref p) H2) → te σ H1 Q
theorem ed_lc {ta : TA} {j : Nat} {vs : List Nat} {n : Nat} {b : Bool} (f : Nat → Bool) (h : EvA ta σ H [.int (n : Int)]) (hn : n ≤ 1000) (hw : ∀ x, wipe ((wipe σ vs).set j (some x)) vs = wipe σ vs) (hj : ∀ x, ((wipe σ vs).set j (some x))[j]? = some (some x))
    (ht : ∀ (i : Nat) H1, Ex H H1 → i < n → EvT t ((wipe σ vs).set j (some (.int (i : Int)))) H1 (f i)) : EvD K (tLc (iRng1 ta) (gName j) t (tTup (tCons (tC (.str (wordOf b))) (tCons (tVar j) tNil))) vs) σ H (deedsOf b n f) := fun H0 e Q q => h H0 e _ fun H1 e1 =>
  ⟨(n : Int), rfl, by omega, by omega, fun Dl hD => lc_range (lo := 0) (n := ((n : Int)).toNat) (fun i H' => Ex H1 H' ∧ ∃ us, H' Dl = some (.lst us) ∧ All2 (DeedAt K H') us (deedsOf b i f)) ⟨Ex.new hD, [], upd_same, .nil⟩ (fun i H' hi p => by
    have hi' : i < n := by omega
    have e0 : (0 : Int) + (i : Int) = (i : Int) := Int.zero_add _
    show wipe ((wipe σ vs).set j (some (.int ((0 : Int) + (i : Int))))) vs = wipe σ vs ∧ t ((wipe σ vs).set j (some (.int ((0 : Int) + (i : Int))))) H' fun bb H3 => if bb = true then (tTup (tCons (tC (.str (wordOf b))) (tCons (tVar j) tNil))) ((wipe σ vs).set j (some (.int ((0 : Int) + (i : Int))))) H3 fun y H4 => ∃ acc, H4 Dl = some (.lst acc) ∧ acc.length < sizeLine ∧ (Ex H1 (upd H4 Dl (.lst (acc ++ [y]))) ∧ ∃ us, (upd H4 Dl (.lst (acc ++ [y]))) Dl = some (.lst us) ∧ All2 (DeedAt K (upd H4 Dl (.lst (acc ++ [y])))) us (deedsOf b (i + 1) f)) else (Ex H1 H3 ∧ ∃ us, H3 Dl = some (.lst us) ∧ All2 (DeedAt K H3) us (deedsOf b (i + 1) f))
    rw [e0]
    refine ⟨hw _, ?_⟩
    obtain ⟨p1, us, p2, p3⟩ := p
    refine ht i H' ((e.trans e1).trans p1) hi' H' (Ex.refl H') _ fun H3 e3 => ?_
    cases hf : f i with
    | true =>
      refine ⟨.int (i : Int), hj _, by show 2 ≤ sizeLine; decide, fun T hT => ?_⟩
      have g1 : (upd H3 T (.tup [.str (wordOf b), .int (i : Int)])) Dl = some (.lst us) := Ex.new hT _ _ (e3 _ _ p2)
      refine ⟨us, g1, sz_lt (by rw [p3.len]; have := deedsOf_len b i f; omega), Ex.mut ((p1.trans e3).trans (Ex.new hT)) hD, us ++ [.ref T], upd_same, ?_⟩
      rw [deedsOf_yes hf]
      exact deeds_exB (ExB.refl _ _).upd g1 ((deeds_ex (e3.trans (Ex.new hT)) p3).app (.cons ⟨T, rfl, st_of upd_same⟩ .nil))
    | false =>
      show Ex H1 H3 ∧ ∃ us, H3 Dl = some (.lst us) ∧ All2 (DeedAt K H3) us (deedsOf b (i + 1) f)
      rw [deedsOf_no hf]
      exact ⟨p1.trans e3, us, e3 _ _ p2, deeds_ex e3 p3⟩) (fun H' p => by
    obtain ⟨p1, us, p2, p3⟩ := p
    exact q Dl us H' (fresh_back e1 hD) (e1.trans p1) p2 p3)⟩
theorem q_asgD {te : TE} {i : Nat} {D : Ends} {tz : TS} {ds : List Deed} (h : EvD K te σ H ds) (k : ∀ p us H1, H p = none → Ex H H1 → H1 p = some (.lst us) → All2 (DeedAt K H1) us ds → tz D (σ.set i (some (.ref p))) H1) : tSeq (tAsg te (gName i)) tz D σ H :=
  h H (Ex.refl H) _ fun p us H1 h1 h2 h3 h4 => k p us H1 h1 h2 h3 h4
theorem ed_cat {ta tb : TE} {l : Addr} {us : List V} {ds es : List Deed} (ha : Ev ta σ H (.ref l)) (hl : H l = some (.lst us)) (hd : All2 (DeedAt K H) us ds) (hb : EvD K tb σ H es) (hz : ds.length + es.length ≤ 100000) : EvD K (tOp rCat ta tb) σ H (ds ++ es) := fun H1 e Q q =>
  ha H1 e _ fun H2 e2 => hb H2 (e.trans e2) _ fun p vs H3 hp e3 h3 d3 => ⟨l, p, us, vs, rfl, rfl, ((e.trans e2).trans e3) _ _ hl, h3, by rw [hd.len, d3.len]; exact sz_of hz, fun c hc =>
    q c _ _ (fresh_back (e2.trans e3) hc) ((e2.trans e3).trans (Ex.new hc)) upd_same (deeds_ex (Ex.new hc) ((deeds_ex ((e.trans e2).trans e3) hd).app d3))⟩
end
/-! runs of both -/
inductive MRun (L0 : List Cow) : List Cow → List Deed → Prop
  | nil : MRun L0 L0 []
  | pass {pre post : List Cow} {a b : Cow} {ds : List Deed} : MRun L0 (pre ++ a :: b :: post) ds → b.2.1 - a.2.2 > a.2.1 → MRun L0 (pre ++ (b.1, (b.2.1 - a.2.2, b.2.2)) :: a :: post) (ds ++ [(true, pre.length + 1)])
  | fall {pre post : List Cow} {a b : Cow} {ds : List Deed} : MRun L0 (pre ++ a :: b :: post) ds → a.2.1 > b.2.1 → MRun L0 (pre ++ b :: (a.1, (a.2.1 + b.2.2, a.2.2)) :: post) (ds ++ [(false, pre.length)])
structure WanAt (K : PySem.W.Frag) (H H' : Hp) (p : Addr) (q : Addr) (v' : V) (ot lp : Addr) (us : List V) (L : List Cow) (ds : List Deed) (n m : Nat) : Prop where
  ex : ExB p H H'
  bx : Bx H' p (n + m)
  q : H' q = some (.tup [v', .ref ot, .ref lp])
  row : RowAt K H' v' (rowsOf L)
  ord : H' ot = some (.tup (ordL L))
  lst : H' lp = some (.lst us)
  prs : All2 (DeedAt K H') us ds
def spWandered (K : PySem.W.Frag) : Sp := fun vs H Q _ => ∃ (p : Addr) (v : V) (rs : HH.Row) (n m : Nat), vs = [.ref p, v, .int (m : Int)] ∧ RowAt K H v rs ∧ 0 < rs.length ∧ rs.length ≤ 30 ∧ m ≤ 1000 ∧ Bx H p n ∧ n + m < Lim ∧
  ∀ (q : Addr) (v' : V) (ot lp : Addr) (us : List V) (L : List Cow) (ds : List Deed) (H' : Hp), WanAt K H H' p q v' ot lp us L ds n m → MRun (tag 0 rs) L ds → L.length = rs.length → ds.length ≤ m → Q (.ref q) H'
end HH
set_option maxHeartbeats 4000000
namespace HH
open PySem PySem.Spec PyProof.Rows L2 Evl RZ
section
variable {X : Cx}
theorem pe_callN0 {x : Str} {p pos : Pos} {kws : List Keyword} {CX : CXT} {E : XK} {k : Nat} {f : Addr} {fd : FuncData} {ps ks : List Str} {sp : Sp} {tk : TA} {g : List Value → List Value → List Value} {gV : List V → List V → List V}
    (F : FnOk X.prog X.w X.K X.mg X.base CX k f fd ps sp) (hr : Room k X.A) (hg : Gl X x) (hm : X.mg x = some (.ref f)) (hk : PySem.W.keepIn X.K (.ref f) = true) (hb : KBn X.K fd ps 0 ks g gV) (hx : Passes CX X E) (hkw : PK X kws tk)
    (hall : (backToKw pos (keywordEach kws X.env)).all (·.1.isSome) = true := by rfl) (hks : (backToKw pos (keywordEach kws X.env)).filterMap (·.1) = ks := by rfl) (hdb : (x == ("__debug__" : Str)) = false := by decide)
    (hpl : ((backTo pos (starEach [] X.env)).any (·.1) || (backToKw pos (keywordEach kws X.env)).any (·.1.isNone)) = false := by rfl) : PE X (.Call (.Name x p) [] kws pos) (tCallN 0 ks.length sp gV E tNil tk) := by
  refine ⟨fun pins s σ H Q I0 h0 => ?_⟩
  refine wpAny_Call_Name_kw (ld_glob I0 hg hm ?_ hdb)
  refine PySem.W.callWith_KW0 (h₀ := X.base) I0.ok.mod.kin hk hall (thn (hkw.run pos pins s σ H _ I0 h0) fun ws s2 ⟨zs, H2, I2, rz, l1, l2, q2⟩ => ⟨I2.kIn, ?_⟩) hpl
  rw [hks]
  exact run_fnN (us := []) (vs := []) F hr hb hx I2 .nil rz rfl l2 q2
end
theorem kb_of {K : PySem.W.Frag} {x qual : Str} {params : Arguments} {body : List Stmt} {scope : Scope} {kws : List (Str × V)} {f : Addr} {fd : FuncData} {ps ks : List Str} (F : FunD K x qual params body scope [] kws f fd) (g : {α : Type} → List α → List α) (hrel : ∀ {zs : List V} {ws : List Value}, Vals zs ws → Vals (g zs) (g ws))
    (h : ∀ (kV doc pm : Value) (an : Option Addr) (cdv ct : Value) (ws : List Value), ws.length = ks.length → bindArgs (PySem.W.fnOf x qual params body scope .none kV doc pm an cdv ct) ⟨[], ks.zip ws⟩ = pure (ps.zip (g ws))) : KBn K fd ps 0 ks (fun _ ws => g ws) (fun _ zs => g zs) := by
  obtain ⟨oc, od, dV, kV, doc, pm, an, cdv, ct, osl, rfl, lk, hcd, hD, hK⟩ := F.ex
  rcases hD with ⟨_, rfl⟩ | ⟨e, _⟩
  · refine ⟨fun s us ws _ h0 hl => ?_, fun _ h => hrel h⟩
    have e0 : us = [] := List.length_eq_zero_iff.mp h0
    subst e0
    exact .of_eq (h kV doc pm an cdv ct ws hl)
  · exact absurd rfl e
section
variable {K : PySem.W.Frag} {σ : L2.St} {H H' : Hp} {te : TE} {D : Ends} {tz tu : TS} {g : TG}
theorem et_yes : EvT tYes σ H true := fun H1 _ _ q => q H1 (Ex.refl H1)
theorem ev_callK {sp : Sp} {E : XK} {z v : V} (h : Ev te σ H v) (hs : SpV sp [v] H z) : Ev (tCallN 0 1 sp (fun _ zs => zs) E tNil (tCons te tNil)) σ H z := fun H1 e Q q =>
  h H1 e _ fun H2 e2 => ⟨rfl, rfl, hs H2 (e.trans e2) Q (fun H3 e3 => q H3 (e2.trans e3)) E⟩
theorem ev_any {bs : List Bool} (h : EvL te σ H (bs.map V.bl)) : Ev (tCB (rAny K) (tCons te tNil)) σ H (.bl (bs.any id)) := fun H1 e Q q =>
  h H1 e _ fun p H2 hp e2 h2 => ⟨p, bs, rfl, sq_of h2, q H2 e2⟩
theorem given_all (n : Nat) (f : Nat → Bool) : given n (fun _ => true) (fun i => V.bl (f i)) = ((List.range n).map f).map V.bl := by
  unfold given
  rw [List.filter_eq_self.mpr (fun _ _ => rfl), List.map_map]
  rfl
/-- over a new tuple -/
theorem q_forNU {xs : List V} {tl : TE} {j : Nat} (h : EvU tl σ H xs) (Pv : Addr → Nat → L2.St → Hp → Prop) (h0 : ∀ p H1, H p = none → Ex H H1 → H1 p = some (.tup xs) → Pv p 0 σ H1) (hl : ∀ p i σ' H', i ≤ xs.length → Pv p i σ' H' → SqT K H' p xs)
    (hs : ∀ p i x σ' H', xs[i]? = some x → Pv p i σ' H' → tu { D with nx := Pv p (i + 1), ct := Pv p (i + 1), bk := tz D } (σ'.set j (some x)) H') (hd : ∀ p σ' H', Pv p xs.length σ' H' → tz D σ' H') : tSeq (tFor (iTup K tl) (gName j) tu) tz D σ H :=
  h H (Ex.refl H) _ fun p H1 hp e h1 => ⟨p, rfl, ⟨xs, st_of h1⟩, for_tup (D := { D with nx := tz D }) (Pv p) (h0 p H1 hp e h1) (hl p) (hs p) (hd p)⟩
theorem s_forNU {xs : List V} {tl : TE} {j : Nat} (h : EvU tl σ H xs) (Pv : Addr → Nat → L2.St → Hp → Prop) (h0 : ∀ p H1, H p = none → Ex H H1 → H1 p = some (.tup xs) → Pv p 0 σ H1) (hl : ∀ p i σ' H', i ≤ xs.length → Pv p i σ' H' → SqT K H' p xs)
    (hs : ∀ p i x σ' H', xs[i]? = some x → Pv p i σ' H' → tu { D with nx := Pv p (i + 1), ct := Pv p (i + 1), bk := D.nx } (σ'.set j (some x)) H') (hd : ∀ p σ' H', Pv p xs.length σ' H' → D.nx σ' H') : tFor (iTup K tl) (gName j) tu D σ H :=
  h H (Ex.refl H) _ fun p H1 hp e h1 => ⟨p, rfl, ⟨xs, st_of h1⟩, for_tup (Pv p) (h0 p H1 hp e h1) (hl p) (hs p) (hd p)⟩
end
/-! the two ends, told and looked at -/
theorem empty_any (n : Nat) (f : Nat → Bool) (v : Nat → V) : (given n f v).isEmpty = !((List.range n).map f).any id := by
  unfold given
  rw [Bool.eq_iff_iff, List.isEmpty_iff, Bool.not_eq_true', ← Bool.not_eq_true, List.any_eq_true]
  constructor
  · intro h ⟨b, hb, hb2⟩
    obtain ⟨i, hi, rfl⟩ := List.mem_map.mp hb
    have h1 : v i ∈ ((List.range n).filter f).map v := List.mem_map_of_mem (f := v) (List.mem_filter.mpr ⟨hi, hb2⟩)
    rw [h] at h1
    cases h1
  · intro h
    cases hl : ((List.range n).filter f).map v with
    | nil => rfl
    | cons x r =>
      exfalso
      have h1 : x ∈ ((List.range n).filter f).map v := by
        rw [hl]
        exact List.mem_cons_self ..
      obtain ⟨i, hi, _⟩ := List.mem_map.mp h1
      obtain ⟨h2, h3⟩ := List.mem_filter.mp hi
      exact h ⟨f i, List.mem_map_of_mem (f := f) h2, h3⟩
theorem last_any (rs : HH.Row) : (HH.passL rs).isEmpty = !((List.range rs.length).map (letsN rs)).any id := empty_any ..
theorem first_any (rs : HH.Row) : (HH.fallL rs).isEmpty = !((List.range (rs.length - 1)).map (fallsN rs)).any id := by
  unfold HH.fallL
  rw [empty_any]
  congr 1
  rw [Bool.eq_iff_iff, List.any_eq_true, List.any_eq_true]
  constructor
  · intro ⟨b, hb, hb2⟩
    obtain ⟨i, hi, rfl⟩ := List.mem_map.mp hb
    obtain ⟨g1, g2⟩ := Bool.and_eq_true_iff.mp hb2
    have g1 := of_decide_eq_true g1
    exact ⟨fallsN rs i, List.mem_map_of_mem (f := fallsN rs) (List.mem_range.mpr (by omega)), g2⟩
  · intro ⟨b, hb, hb2⟩
    obtain ⟨i, hi, rfl⟩ := List.mem_map.mp hb
    have hi := List.mem_range.mp hi
    refine ⟨_, List.mem_map_of_mem (f := fun p => decide (p + 1 < rs.length) && fallsN rs p) (List.mem_range.mpr (show i < rs.length by omega)), ?_⟩
    show (decide (i + 1 < rs.length) && fallsN rs i) = true
    rw [decide_eq_true (show i + 1 < rs.length by omega)]
    exact hb2
theorem one_last (b : Int × Int) : (HH.passL [b]).isEmpty = true := rfl
theorem one_first (b : Int × Int) : (HH.fallL [b]).isEmpty = true := rfl
/-- a row of one to thirty -/
def RowG (K : PySem.W.Frag) (H : Hp) (v : V) (rs : HH.Row) : Prop := RowAt K H v rs ∧ 0 < rs.length ∧ rs.length ≤ 30
theorem rows_ex {K : PySem.W.Frag} {H H' : Hp} {vs : List V} {ds : List HH.Row} (e : Ex H H') (h : All2 (RowG K H) vs ds) : All2 (RowG K H') vs ds := h.mono fun v d g => ⟨g.1.ex e, g.2⟩
theorem rows_exB {K : PySem.W.Frag} {H H' : Hp} {vs : List V} {ds : List HH.Row} {q : Addr} {ys : List V} (e : ExB q H H') (hq : H q = some (.lst ys)) (h : All2 (RowG K H) vs ds) : All2 (RowG K H') vs ds := h.mono fun v d g => ⟨g.1.exL e hq, g.2⟩
def spRight : Sp := fun vs H Q _ => ∃ (p : Addr), vs = [.ref p] ∧ Bx H p 0 ∧ ∀ H', ExB p H H' → Q (.bl true) H'
def spLaw (K : PySem.W.Frag) : Sp := fun vs H Q _ => ∃ (a : Addr) (ns : List Int), vs = [.ref a] ∧ SqL K H a (ns.map V.int) ∧ ns.length ≤ 63 ∧ ∀ H', Q (.bl true) H'
theorem lim_ok {n : Nat} (h : n ≤ 100000000) : n < Lim := by
  have h1 : (2 : Nat) ^ 100 ≤ 2 ^ 4000 := Nat.pow_le_pow_right (by decide) (by decide)
  have h2 : (2 : Nat) ^ 100 = 1267650600228229401496703205376 := by decide
  have h3 : Lim = 2 ^ 4000 := rfl
  rw [h3]
  generalize (2 : Nat) ^ 4000 = L at *
  rw [h2] at h1
  omega
section
variable {K : PySem.W.Frag} {σ : L2.St} {H H' : Hp} {te t1 t2 : TE}
theorem el_rep2 {xs : List V} (h : EvL te σ H xs) (hz : xs.length ≤ 1000) : EvL (tOp rRep te (tC (.int 2))) σ H (xs ++ xs) := fun H1 e Q q =>
  h H1 e _ fun p H2 hp e2 h2 => ⟨p, 2, xs, rfl, rfl, h2, by decide, by decide, sz_of (by show xs.length * 2 ≤ 100000; omega), fun c hc => by
    have e3 : (List.replicate (2 : Int).toNat xs).flatten = xs ++ xs := by
      show xs ++ (xs ++ []) = xs ++ xs
      rw [List.append_nil]
    rw [e3]
    exact q c _ (fresh_back e2 hc) (e2.trans (Ex.new hc)) upd_same⟩
theorem ev_same2 {d : Nat} {E : XK} {xs : List V} (h1 : EvL t1 σ H xs) (h2 : EvL t2 σ H xs) (hf : ∀ x ∈ xs, Flat x) (hz : xs.length ≤ 1000) : Ev (tCall (spSame K (d + 2)) [] E (tCons t1 (tCons t2 tNil))) σ H (.bl true) := fun H1 e Q q =>
  h1 H1 e _ fun a H2 ha e2 g2 => h2 H2 (e.trans e2) _ fun b H3 hb e3 g3 => ⟨.ref a, .ref b, rfl, .inr ⟨a, b, xs, xs, rfl, rfl, .inl ⟨sq_of (e3 _ _ g2), sq_of g3⟩, rfl, by omega, fun i u v hu hv => by
    rw [hu] at hv
    cases hv
    exact .inl ⟨rfl, hf u (List.mem_of_getElem? hu)⟩⟩, fun H4 e4 => q H4 ((e2.trans e3).trans e4)⟩
end
theorem q_call {sp : Sp} {dvs : List V} {E : XK} {ta : TA} {i : Nat} {D : Ends} {tz : TS} {σ : L2.St} {H : Hp} (h : ta σ H fun vs H1 => sp (vs ++ dvs) H1 (fun x H2 => tz D (σ.set i (some x)) H2) E) : tSeq (tAsg (tCall sp dvs E ta) (gName i)) tz D σ H := h
end HH
set_option maxHeartbeats 4000000
namespace HH
open PySem PySem.Spec PyProof.Rows L2 Evl RZ
/-! own exceptions over four built-in classes, raised, caught, kept -/
inductive Bk where
  | val
  | run
  | look
  | over
namespace Bk
def nm : Bk → String
  | val => "ValueError"
  | run => "RuntimeError"
  | look => "LookupError"
  | over => "OverflowError"
def st : Bk → Str
  | val => "ValueError"
  | run => "RuntimeError"
  | look => "LookupError"
  | over => "OverflowError"
def nw : Bk → String
  | val => "ValueError.__new__"
  | run => "RuntimeError.__new__"
  | look => "LookupError.__new__"
  | over => "OverflowError.__new__"
def ini : Bk → String
  | val => "ValueError.__init__"
  | run => "RuntimeError.__init__"
  | look => "LookupError.__init__"
  | over => "OverflowError.__init__"
def mro : Bk → List Value
  | val => [.type "ValueError", .type "Exception", .type "BaseException", .type "object"]
  | run => [.type "RuntimeError", .type "Exception", .type "BaseException", .type "object"]
  | look => [.type "LookupError", .type "Exception", .type "BaseException", .type "object"]
  | over => [.type "OverflowError", .type "ArithmeticError", .type "Exception", .type "BaseException", .type "object"]
theorem base : (b : Bk) → ExcBaseFacts b.nm b.nw b.ini b.mro
  | val => F.excBase_ValueError
  | run => F.excBase_RuntimeError
  | look => F.excBase_LookupError
  | over => F.excBase_OverflowError
theorem store : (b : Bk) → StoreFacts b.nm b.mro "object.__setattr__" "object"
  | val => F.store_ValueError
  | run => F.store_RuntimeError
  | look => F.store_LookupError
  | over => F.store_OverflowError
theorem typ : (b : Bk) → typeOf (.type b.nm) = pure (.type "type")
  | val => by kernel_rfl
  | run => by kernel_rfl
  | look => by kernel_rfl
  | over => by kernel_rfl
theorem stub : (b : Bk) → Manifest.isStub b.nm = false
  | val => by decide +kernel
  | run => by decide +kernel
  | look => by decide +kernel
  | over => by decide +kernel
theorem boot : (b : Bk) → bootBuiltins b.st = some (.type b.nm)
  | val => PyProof.Rows.Boot.«ValueError»
  | run => PyProof.Rows.Boot.«RuntimeError»
  | look => PyProof.Rows.Boot.«LookupError»
  | over => PyProof.Rows.Boot.«OverflowError»
end Bk
/-- what the written part says of such a class at C, whose __init__ at fI puts one field f -/
structure ExcTy (K : PySem.W.Frag) (b : Bk) (f : Str) (C fI : Addr) : Prop where
  ok : PySem.W.excInitIn K C b.mro b.nw = true
  ov : PySem.W.excOver K C b.mro = true
  tk : PySem.W.takerIn K C f = some none
  hd : PySem.W.hasDictIn K C = true
  sa : PySem.W.findIn K (.ref C) "__setattr__" = some (some (.builtin "object.__setattr__"))
  ga : PySem.W.findIn K (.ref C) "__getattribute__" = some (some (.builtin "BaseException.__getattribute__"))
  gg : PySem.W.findIn K (.ref C) "__getattr__" = some none
  no : PySem.W.findIn K (.ref C) f = some none
  iC : PySem.W.findIn K (.ref C) "__init__" = some (some (.ref fI))
  ca : PySem.W.findIn K (.ref C) "__class__" = some (some (.builtin "object.__class__"))
  gs : PySem.W.specialIn K (.builtin "object.__class__") "__get__" = some (some (.builtin "getset_descriptor.__get__"))
  tI : PySem.W.typeIn K (.ref fI) = some (.type "function")
  kC : PySem.W.keepIn K (.ref C) = true
  ex : PySem.W.subIn K (.ref C) (.type "BaseException") = some true
  ty : PySem.W.typeIn K (.ref C) = some (.type "type")
  ts : PySem.W.takesIn K (.builtin "object.__class__") = some true
  mo : PySem.W.mroIn K C (.type "object") = some true
  bi : PySem.W.findCls K (.type b.nm) (.type "type") "__init__" = some (.val (.builtin b.ini))
def exTyB (K : PySem.W.Frag) (b : Bk) (f : Str) (C fI : Addr) : Bool :=
  PySem.W.excInitIn K C b.mro b.nw && (PySem.W.excOver K C b.mro && (He.eqO (PySem.W.takerIn K C f) (some none) && (PySem.W.hasDictIn K C &&
  (He.eqO (PySem.W.findIn K (.ref C) "__setattr__") (some (some (.builtin "object.__setattr__"))) && (He.eqO (PySem.W.findIn K (.ref C) "__getattribute__") (some (some (.builtin "BaseException.__getattribute__"))) &&
  (He.eqO (PySem.W.findIn K (.ref C) "__getattr__") (some none) && (He.eqO (PySem.W.findIn K (.ref C) f) (some none) && (He.eqO (PySem.W.findIn K (.ref C) "__init__") (some (some (.ref fI))) &&
  (He.eqO (PySem.W.findIn K (.ref C) "__class__") (some (some (.builtin "object.__class__"))) && (He.eqO (PySem.W.specialIn K (.builtin "object.__class__") "__get__") (some (some (.builtin "getset_descriptor.__get__"))) &&
  (decide (PySem.W.typeIn K (.ref fI) = some (.type "function")) && (PySem.W.keepIn K (.ref C) && (decide (PySem.W.subIn K (.ref C) (.type "BaseException") = some true) && (decide (PySem.W.typeIn K (.ref C) = some (.type "type")) &&
  (decide (PySem.W.takesIn K (.builtin "object.__class__") = some true) && decide (PySem.W.mroIn K C (.type "object") = some true))))))))))))))))
theorem band {a b : Bool} (h : (a && b) = true) : a = true ∧ b = true := Bool.and_eq_true_iff.mp h
theorem exTyB_ok {K : PySem.W.Frag} {b : Bk} {f : Str} {C fI : Addr} (h : exTyB K b f C fI = true) (bi : PySem.W.findCls K (.type b.nm) (.type "type") "__init__" = some (.val (.builtin b.ini))) : ExcTy K b f C fI := by
  unfold exTyB at h
  obtain ⟨h1, h⟩ := band h
  obtain ⟨h2, h⟩ := band h
  obtain ⟨h3, h⟩ := band h
  obtain ⟨h4, h⟩ := band h
  obtain ⟨h5, h⟩ := band h
  obtain ⟨h6, h⟩ := band h
  obtain ⟨h7, h⟩ := band h
  obtain ⟨h8, h⟩ := band h
  obtain ⟨h9, h⟩ := band h
  obtain ⟨h10, h⟩ := band h
  obtain ⟨h11, h⟩ := band h
  obtain ⟨h12, h⟩ := band h
  obtain ⟨h13, h⟩ := band h
  obtain ⟨h14, h⟩ := band h
  obtain ⟨h15, h⟩ := band h
  obtain ⟨h16, h17⟩ := band h
  exact ⟨h1, h2, He.eqO_ok h3, h4, He.eqO_ok h5, He.eqO_ok h6, He.eqO_ok h7, He.eqO_ok h8, He.eqO_ok h9, He.eqO_ok h10, He.eqO_ok h11, of_decide_eq_true h12, h13, of_decide_eq_true h14, of_decide_eq_true h15, of_decide_eq_true h16, of_decide_eq_true h17, bi⟩
/-! ### making one -/
section
variable {X : Cx} {pins : List (Addr × Obj)} {σ : L2.St} {H : Hp} {s : Shared} {a C fI : Addr} {f : Str} {b : Bk} {y : V} {u : Value} {A : Around} {E : Value → Shared → Prop}
/-- the dict of an exception and its first field -/
theorem dict_new {hp h' : Heap} {g : Array GenState} {d : Drawn} {t tk' : Nat} {os : OsState} {t1 dx : Addr} (I : Inv X pins σ H ⟨hp, g, d, t, os⟩) (e : H a = some (exo a C none)) (k : ∀ c o, c ≠ a → hp.get? c = some o → h'.get? c = some o) (dn : hp.objs.size ≤ dx) (ne : dx ≠ a)
    (hx : h'.get? a = some { cls := .ref C, dict := some dx, data := .fields #[.ref t1, .none, .none, .none, .bool false, .none] }) {mA : Str → Option Value} (hn : h'.Ns1 dx mA) (rel : ∀ g, RelO ([(f, y)].lookup g) (mA g)) :
    H dx = none ∧ Inv X pins σ (upd (upd H dx (exd dx [(f, y)])) a (exo a C (some dx))) ⟨h', g, d, tk', os⟩ := by
  have nd : H dx = none := I.hok.fresh dn
  have old {c : Addr} {o : Obj} (q : hp.get? c = some o) : c ≠ dx := Nat.ne_of_lt (Nat.lt_of_lt_of_le (Heap.lt_size q) dn)
  have una {c : Addr} (n : H c = none) : c ≠ a := by
    rintro rfl
    rw [e] at n
    cases n
  have skip {c : Addr} (h1 : c ≠ a) (h2 : c ≠ dx) : upd (upd H dx (exd dx [(f, y)])) a (exo a C (some dx)) c = H c := by rw [upd_ne h1, upd_ne h2]
  refine ⟨nd, I.un (t' := tk') ⟨fun c o q n _ _ => k c o (una n) q, fun c o q n _ _ => ⟨o.slots, k c o (una n) q⟩, fun c o q n _ => (skip (una n) (old q)).trans n, fun c o q _ => ?_, fun c xs q => (skip (at_ne e q exo_tup) (ne_of_none q nd)).trans q, fun c o v q => (skip (at_ne e q exo_frz) (ne_of_none q nd)).trans q,
    fun c ps q => ⟨#[], by rw [skip (at_ne e q exo_tbl) (ne_of_none q nd), q, Array.append_empty]⟩⟩ fun c o q => ?_⟩
  · by_cases z : c = a
    · exact ⟨_, by rw [z]; exact hx⟩
    · exact ⟨o, k c o z q⟩
  · by_cases z : c = a
    · subst z
      rw [upd_same] at q
      cases q
      exact exo_ok hx
    by_cases z2 : c = dx
    · subst z2
      rw [upd_ne z, upd_same] at q
      cases q
      exact exd_ok hn rel
    rw [skip z z2] at q
    refine (I.hok c o q).stay (fun c2 v hc r => k c2 v ?_ r) (fun c2 hc => (skip (at_ne e hc exo_own) (ne_of_none hc nd)).trans hc) fun c2 xs hc => (skip (at_ne e hc exo_tup) (ne_of_none hc nd)).trans hc
    rcases hc with rfl | hc
    · exact z
    · exact at_ne e hc exo_own
theorem exc_first {Q : Unit → Shared → Prop} (T : ExcTy X.K b f C fI) (I : Inv X pins σ H s) (e : H a = some (exo a C none)) (ry : RelV y u)
    (k : ∀ dx s', H dx = none → dx ≠ a → Inv X pins σ (upd (upd H dx (exd dx [(f, y)])) a (exo a C (some dx))) s' → Q () s') : wpAny (model X.prog X.w) A (setAttr (.ref a) f u) Q E s := by
  obtain ⟨t1, ho⟩ := exo_at I.hok e
  obtain ⟨hp, g, d, t, os⟩ := s
  obtain ⟨cd, hcd, hdd⟩ := PySem.W.any_some T.hd
  have LC : PySem.W.Looks (model X.prog X.w) hp (classData C) cd := PySem.W.looks_clsIn I.kIn hcd
  have J : PySem.W.InstAt hp a { cls := .ref C, dict := none, data := .fields #[.ref t1, .none, .none, .none, .bool false, .none] } C none := ⟨ho, rfl, rfl, trivial⟩
  have aw : a ≠ hp.objs.size := Nat.ne_of_lt (Heap.lt_size ho)
  refine PySem.W.set_plain I.kIn J T.sa (PySem.W.osa_openX b.store I.kIn J T.ov T.tk fun bb => ?_)
  obtain ⟨nm, bs, mro, ns, qn, hd, sn, sb, ab, col, del⟩ := cd
  dsimp only at hdd
  subst hdd
  dsimp only
  unfold Builtin.ObjectAttr.storeInOwnDict Builtin.ObjectAttr.ownDictForStores
  repeat (first | with_reducible refine HandSPX.store_in_new ?_ ?_ | with_reducible refine wpAny_loadPart_at ho ?_ | with_reducible refine LC.at ?_ | wp_step)
  · exact ⟨_, #[], _, (Heap.get?_update_ne _ _ _ _ aw.symm).trans (Heap.get?_push_at rfl rfl), rfl, fun e he => absurd he (by simp), fun _ => rfl⟩
  · intro h' tk' hn' hs
    have ho1 : (hp.push { cls := .type "dict", data := .dict #[] }).get? a = _ := Heap.get?_push_of_some _ ho
    obtain ⟨n, J⟩ := dict_new (tk' := tk') (y := y) (f := f) (dx := hp.objs.size) I e (fun c o hc q => (hs.2 c (Nat.ne_of_lt (Heap.lt_size q))).trans ((Heap.get?_update_ne _ _ _ _ hc).trans (Heap.get?_push_of_some _ q))) (Nat.le_refl _) aw.symm ((hs.2 a aw).trans (Heap.get?_update_self _ ho1 rfl)) hn' (relO_put (fs := []) ry fun _ => True.intro)
    exact k _ _ n aw.symm J
/-- B.__init__(self, ..) -/
def tBI (K : PySem.W.Frag) (b : Bk) (ta : TA) : TE := fun σ H Q => ta σ H fun vs H1 => ∃ (a C : Addr) (ws : List V), vs = .ref a :: ws ∧ ws.length ≤ 1000 ∧ PySem.W.excInitIn K C b.mro b.nw = true ∧ H1 a = some (exo a C none) ∧ Q .non H1
theorem pe_bini {e : Expr} {es : List Expr} {ta : TA} {p1 p2 pos : Pos} {pl : Sem Bool} (hg : Gl X b.st) (hm : X.mg b.st = none) (bi : PySem.W.findCls X.K (.type b.nm) (.type "type") "__init__" = some (.val (.builtin b.ini))) (ha : PA X (e :: es) ta)
    (hn : b.st ≠ ("__name__" : Str)) (hdb : (b.st == ("__debug__" : Str)) = false) (hh : PySem.W.handedIn (.builtin b.ini) = true)
    (hc : eval (.Call (.Attribute (.Name b.st p1) "__init__" p2) (e :: es) [] pos) X.env = (do
      let ov ← eval (.Name b.st p1) X.env
      standAt p2.atName
      let (f, first) ← holding [ov] (getMethod ov "__init__" pl)
      callWith pos f first (backTo pos (starEach (e :: es) X.env)) (backToKw pos (keywordEach [] X.env))) := by rfl)
    (he : starEach (e :: es) X.env = (false, eval e X.env) :: starEach es X.env := by rfl) (hpl : (backTo pos (starEach es X.env)).any (·.1) = false := by rfl) :
    PE X (.Call (.Attribute (.Name b.st p1) "__init__" p2) (e :: es) [] pos) (tBI X.K b ta) := by
  refine ⟨fun pins s σ H Q I h => PySem.W.methodCall_KW (ld_blt I hg hm b.boot ?_ hn hdb) hc⟩
  obtain ⟨m, fr⟩ := I.fr
  refine PySem.W.method_type fr I.ok.mod.kin b.typ b.stub bi hh ?_
  show wpAny _ _ (callWith pos (Value.builtin b.ini) [] (backTo pos (starEach (e :: es) X.env)) []) _ _ _
  refine PyProof.Rows.callWith_method1 (thn (ha.run pos pins _ σ H _ (I.tok _) h) fun us s1 ⟨vs, H1, J, r, a, C, ws, ev, hl, hC, ea, q⟩ => ?_) he hpl
  subst ev
  cases r with
  | @cons _ u0 _ ur ra rw' =>
    obtain rfl : u0 = Value.ref a := ra
    have few : ur.length ≤ sizeLine := by
      rw [← Paired.length rw', sizeLine_eq]
      omega
    obtain ⟨t1, ho⟩ := exo_at J.hok ea
    obtain ⟨nm, N, qn, bs, bm, hdct, sn, sub, ab, col, dd, k0, k1, k2, k3, k5, hC', hT⟩ := PySem.W.excInit_of J.kIn hC
    obtain ⟨hp, g, d, t, os⟩ := s1
    refine wpAny_call (PySem.HandSPX.init_base b.base hT hC' ho few fun h' t2 k hx => ⟨.non, H1, ?_, rfl, q⟩)
    have W := J.write (t' := t) (x := a) (e := a) (o := exo a C none) (by rw [ea]; exact True.intro) (.inl rfl) k ⟨_, hx⟩ (exo_ok hx)
    have eu : upd H1 a (exo a C none) = H1 := funext fun c => by
      by_cases z : c = a
      · rw [z, upd_same, ea]
      · exact upd_ne z
    rw [eu] at W
    exact W
/-- self.f = e, the first field -/
def tXs (K : PySem.W.Frag) (f : Str) (to te : TE) : TS := fun D σ H => te σ H fun y H1 => to σ H1 fun x H2 => ∃ (a C fI : Addr) (b : Bk), x = .ref a ∧ ExcTy K b f C fI ∧ H2 a = some (exo a C none) ∧ ∀ dx, H2 dx = none → dx ≠ a → D.nx σ (upd (upd H2 dx (exd dx [(f, y)])) a (exo a C (some dx)))
theorem ps_xs {o e : Expr} {to te : TE} {p' pos : Pos} (ho : PE X o to) (he : PE X e te) (hs : swapsWith e (some (.Attribute o f p')) pos.line X.env = pure false := by rfl) : PS X (.Assign [.Attribute o f p'] e pos) (tXs X.K f to te) := by
  refine ⟨fun pins s σ H D I h => plainObj_wpAny_Assign_Attribute (thn (he.run pins s σ H _ I h) fun v s1 ⟨y, H1, I1, r1, q1⟩ => thn (ho.run pins s1 σ H1 _ I1 q1) fun u s2 ⟨x, H2, I2, r2, a, C, fI, b, ex, T, ea, q⟩ => ?_) hs⟩
  subst ex
  obtain rfl : u = Value.ref a := r2
  exact exc_first T I2 ea r1 fun dx s' n ne J => ⟨σ, _, J, q dx n ne⟩
end
/-- what __init__ does -/
def spIni (C : Addr) (f : Str) : Sp := fun vs H Q _ => ∃ (a : Addr) (v : V), vs = [.ref a, v] ∧ H a = some (exo a C none) ∧ ∀ dx, H dx = none → dx ≠ a → Q .non (upd (upd H dx (exd dx [(f, v)])) a (exo a C (some dx)))
/-- C(e) for a raise -/
def tMkX (C : Addr) (f : Str) (ta : TA) : L2.St → Hp → XK → Prop := fun σ H Q => ta σ H fun vs H1 => ∃ v, vs = [v] ∧ ∀ d, H1 d = none → Q (.ref C) (some d) (upd H1 d (.xd [(f, v)]))
section
variable {X : Cx} {C fI : Addr} {f : Str} {b : Bk}
theorem pmk_x {x : Str} {e : Expr} {ta : TA} {p pos : Pos} {k : Nat} {fd : FuncData} (T : ExcTy X.K b f C fI) (F1 : FnOk X.prog X.w X.K X.mg X.base CX0 k fI fd ["self", f] (spIni C f)) (hr : Room (k + 1) X.A) (hb : Binds X.K fd ["self", f] []) (hm : X.mg x = some (.ref C)) (hg : Gl X x) (ha : PA X [e] ta)
    (hdb : (x == ("__debug__" : Str)) = false := by decide) (he : starEach (e :: []) X.env = (false, eval e X.env) :: starEach [] X.env := by rfl) (hpl : (backTo pos (starEach [] X.env)).any (·.1) = false := by rfl) :
    PMk X (.Call (.Name x p) [e] [] pos) (tMkX C f ta) := by
  intro pins s σ H Q I h
  refine wpAny_Call_Name_kw (ld_glob I hg hm (PySem.W.callWith_K (h₀ := X.base) I.ok.mod.kin T.kC (thn (ha.run pos pins s σ H _ I h) fun us s1 ⟨vs, H1, J, r1, v, ev, q⟩ => ⟨J.kIn, ?_⟩) he hpl) hdb)
  subst ev
  show wpAny _ _ (call (.ref C) us) _ _ _
  obtain ⟨u, rfl, ru⟩ := vals1 r1
  obtain ⟨nm, N, qn, bs, bm, hdct, sn, sub, ab, col, dd, k0, k1, k2, k3, k5, hC, hT⟩ := PySem.W.excInit_of J.kIn T.ok
  obtain ⟨hp, g, dr, tk, os⟩ := s1
  have big : hp.objs.size ≤ hp.objs.size + 1 := Nat.le_succ _
  have nw : H1 (hp.objs.size + 1) = none := J.hok.fresh big
  have kk : ∀ c o, hp.get? c = some o → ((hp.push (PySem.W.kdv_tup [u])).push (PySem.HandSPX.excO C hp.objs.size)).get? c = some o := fun c o z => Heap.get?_push_of_some _ (Heap.get?_push_of_some _ z)
  have at1 : ((hp.push (PySem.W.kdv_tup [u])).push (PySem.HandSPX.excO C hp.objs.size)).get? (hp.objs.size + 1) = some (PySem.HandSPX.excO C hp.objs.size) := by heap_get
  have J2 : Inv X pins σ (upd H1 (hp.objs.size + 1) (exo (hp.objs.size + 1) C none)) ⟨(hp.push (PySem.W.kdv_tup [u])).push (PySem.HandSPX.excO C hp.objs.size), g, dr, tk, os⟩ := J.laid (t' := tk) (h' := (hp.push (PySem.W.kdv_tup [u])).push (PySem.HandSPX.excO C hp.objs.size)) kk big (exo_ok at1)
  have r2 : Vals [V.ref (hp.objs.size + 1), v] [Value.ref (hp.objs.size + 1), u] := .cons rfl (.cons ru .nil)
  have sp : spIni C f [V.ref (hp.objs.size + 1), v] (upd H1 (hp.objs.size + 1) (exo (hp.objs.size + 1) C none)) (fun v' H2 => v' = .non ∧ ∃ (d : Addr) (fs : List (Str × V)), H2 (hp.objs.size + 1) = some (exo (hp.objs.size + 1) C (some d)) ∧ H2 d = some (exd d fs) ∧ H1 d = none ∧ Q (.ref C) (some d) (upd (del H2 (hp.objs.size + 1)) d (.xd fs))) (fun _ _ _ => False) := by
    refine ⟨_, v, rfl, upd_same, fun dx n ne => ⟨rfl, dx, [(f, v)], upd_same, ?_, ?_, ?_⟩⟩
    · rw [upd_ne ne, upd_same]
    · rw [← n, upd_ne ne]
    · have n1 : H1 dx = none := by rw [← n, upd_ne ne]
      have e2 : upd (del (upd (upd (upd H1 (hp.objs.size + 1) (exo (hp.objs.size + 1) C none)) dx (exd dx [(f, v)])) (hp.objs.size + 1) (exo (hp.objs.size + 1) C (some dx))) (hp.objs.size + 1)) dx (.xd [(f, v)]) = upd H1 dx (.xd [(f, v)]) := funext fun c => by
        by_cases z : c = dx
        · rw [z, upd_same, upd_same]
        rw [upd_ne z, upd_ne z]
        by_cases z2 : c = hp.objs.size + 1
        · rw [z2, del_same, nw]
        · rw [del_ne z2, upd_ne z2, upd_ne z, upd_ne z2]
      rw [e2]
      exact q dx n1
  refine wpAny_call (PySem.HandSPX.call_own b.base hT hC (PySem.W.looks_findIn J.kIn T.iC) (fun self => PySem.W.bind_fn J.kIn self T.tI) (by rw [sizeLine_eq]; show 1 ≤ 16777216; decide)
    (codeAny_mono (F1.run _ X.stack _ _ ⟨[Value.ref (hp.objs.size + 1), u], []⟩ [Value.ref (hp.objs.size + 1), u] _ _ (fun _ _ _ => False) (hr.make C [u] []) (J2.env0.make C [u] []) (hb _ [Value.ref (hp.objs.size + 1), u] J2.kIn rfl) r2 sp) fun rs s' hq => ?_))
  match rs, hq with
  | .error _, hq => exact hq.elim
  | .ok .next, hq => exact hq.elim
  | .ok .brk, hq => exact hq.elim
  | .ok .cont, hq => exact hq.elim
  | .ok (.ret _), ⟨v', H2, os2, bare2, un2, hok2, rv, ev, d, fs, ea, ed, hd1, q2⟩ =>
    subst ev
    obtain ⟨h2, g2, d2, t2, os'⟩ := s'
    exact ⟨rv, mk_end (raises_own T.ex T.ty) J big kk un2 hok2 os2 bare2 ea ed hd1 q2⟩
end
end HH
set_option maxHeartbeats 4000000
namespace HH
open PySem PySem.Spec PyProof.Rows L2 Evl RZ
/-- a caught exception that is kept, at a: its class, its dict -/
def ExT (cls : Value) (d : Option Addr) (a : Addr) : HO := .ext fun h => ∃ (oe : Obj) (vs : Array Value), h.get? a = some oe ∧ Zc cls d oe ∧ oe.data = .fields vs
theorem ext_at {P : Program} {w : World} {H : Hp} {h : Heap} {a : Addr} {cls : Value} {d : Option Addr} (hok : HOk P w H h) (e : H a = some (ExT cls d a)) : ∃ (oe : Obj) (vs : Array Value), h.get? a = some oe ∧ Zc cls d oe ∧ oe.data = .fields vs := by
  have x : ObjOk P w H h a (.ext fun h => ∃ (oe : Obj) (vs : Array Value), h.get? a = some oe ∧ Zc cls d oe ∧ oe.data = .fields vs) := hok a _ e
  exact x.1
section
variable {X : Cx} {pins : List (Addr × Obj)} {σ : L2.St} {H : Hp} {s : Shared} {a : Addr} {oe : Obj} {cls : Value} {d : Option Addr} {vs : Array Value}
/-- an object of ours that is new in the def may be tracked -/
theorem track (I : Inv X pins σ H s) (ha : s.heap.get? a = some oe) (hz : Zc cls d oe) (hd : oe.data = .fields vs) (na : H a = none) (nL : a ≠ X.env.locals) (n0 : X.s_0.heap.get? a = none) (np : ∀ p ∈ X.pn ++ pins, p.1 ≠ a) : Inv X pins σ (upd H a (ExT cls d a)) s := by
  have nc : ∀ x c, X.env.cells.lookup x = some c → c ≠ a := by
    rintro x c hc rfl
    obtain ⟨v, o, ho, ho2⟩ := I.cell x c hc
    rw [ha] at ho
    cases ho
    rw [hd] at ho2
    cases ho2
  have n1 {c : Addr} {o : Obj} (q : X.s_0.heap.get? c = some o) : c ≠ a := by
    rintro rfl
    rw [n0] at q
    cases q
  have n2 {c : Addr} {o : HO} (q : H c = some o) : c ≠ a := ne_of_none q na
  have e0 {c : Addr} (h : c ≠ a) : upd H a (ExT cls d a) c = H c := upd_ne h
  refine ⟨I.ok, I.os, I.bare, ⟨I.base.keep, I.base.slot, fun c o q n hx => (e0 (n1 q)).trans (I.base.free c o q n hx), I.base.there, fun c xs q => ?_, fun c o xs q => ?_, fun c ps q => ?_⟩, I.loc, I.cell, (e0 (Ne.symm nL)).trans I.free, fun x c hc => (e0 (nc x c hc)).trans (I.freeC x c hc), fun p hp => ?_, fun c o q => ?_, I.len⟩
  · have z := I.base.tups c xs q
    exact (e0 (n2 z)).trans z
  · have z := I.base.frzs c o xs q
    exact (e0 (n2 z)).trans z
  · obtain ⟨m, z⟩ := I.base.tbls c ps q
    exact ⟨m, (e0 (n2 z)).trans z⟩
  · obtain ⟨h1, h2, h3⟩ := I.pin p hp
    exact ⟨h1, (e0 (np p hp)).trans h2, h3⟩
  · by_cases z : c = a
    · subst z
      rw [upd_same] at q
      cases q
      exact ⟨⟨oe, vs, ha, hz, hd⟩, ⟨oe, ha⟩, fun _ _ ⟨o, v, q, r⟩ k => ⟨o, v, k o q, r⟩⟩
    · rw [e0 z] at q
      exact (I.hok c o q).stay (fun _ _ _ r => r) (fun c2 hc => (e0 (n2 hc)).trans hc) fun c2 xs hc => (e0 (n2 hc)).trans hc
end
/-- the clause's classes take an exception of the class cls -/
def Catches (X : Cx) (t : Expr) (m : Value → Prop) : Prop :=
  ∀ (e : Addr) (pn : List (Addr × Obj)) (cls : Value) (σ : L2.St) (H : Hp) (s : Shared) (E : Value → Shared → Prop) (Q : Bool → Shared → Prop), m cls → Inv (X.suite e pn) [] σ H s → PySem.W.Looks (model X.prog X.w) s.heap (typeOf (.ref e)) cls →
    (∀ h', (∀ q o, s.heap.get? q = some o → h'.get? q = some o) → Q true { s with heap := h' }) →
    wpAny (model X.prog X.w) (X.A.mark (some (.ref e))) (eval t X.env) (fun c s1 => wpAny (model X.prog X.w) (X.A.mark (some (.ref e))) (excMatches (.ref e) c) Q E s1) E s
section
variable {X : Cx} {x1 x2 x3 x4 : Str} {c1 c2 c3 c4 : Value} {p1 p2 p3 p4 tp : Pos} {kk : Nat}
theorem nm_look {e : Addr} {pn : List (Addr × Obj)} {σ : L2.St} {H : Hp} {s : Shared} {x : Str} {c : Value} {p : Pos} {Q : Value → Shared → Prop} {E : Value → Shared → Prop} (n : Names X x c) (I : Inv (X.suite e pn) [] σ H s) (q : Q c s) : wpAny (model X.prog X.w) (X.A.mark (some (.ref e))) (eval (.Name x p) X.env) Q E s := by
  obtain ⟨hg, hdb, hm | ⟨hm, hv, hn⟩⟩ := n
  · exact ld_glob (X := X.suite e pn) I hg hm q hdb
  · exact ld_blt (X := X.suite e pn) I hg hm hv q hn hdb
theorem catch1 (n1 : Names X x1 c1) : Catches X (.Name x1 p1) (fun cls => PySem.W.exmOne X.K cls c1 = some true) := fun e pn cls σ H s E Q m I LT q =>
  nm_look n1 I ((PySem.W.exm_one (M := model X.prog X.w) I.kIn LT m).here (q s.heap fun _ _ z => z))
theorem catch2 (n1 : Names X x1 c1) (n2 : Names X x2 c2) : Catches X (.Tuple [.Name x1 p1, .Name x2 p2] kk tp) (fun cls => PySem.W.exmAny X.K cls [c1, c2] = some true) := fun e pn cls σ H s E Q m I LT q => by
  refine wpAny_Tuple (wpAny_items_cons (nm_look n1 I (wpAny_items_cons (nm_look n2 I (wpAny_items_nil ⟨by size_fits, ?_⟩)))))
  have kp : ∀ c o, s.heap.get? c = some o → (s.heap.push { cls := .type "tuple", data := .seq [c1, c2].toArray }).get? c = some o := fun c o z => Heap.get?_push_of_some _ z
  exact (PySem.W.exm_tup2 (I.kIn.keeps kp) (LT.keeps kp) (Heap.get?_push_size s.heap rfl) m).here (q _ kp)
theorem catch3 (n1 : Names X x1 c1) (n2 : Names X x2 c2) (n3 : Names X x3 c3) : Catches X (.Tuple [.Name x1 p1, .Name x2 p2, .Name x3 p3] kk tp) (fun cls => PySem.W.exmAny X.K cls [c1, c2, c3] = some true) := fun e pn cls σ H s E Q m I LT q => by
  refine wpAny_Tuple (wpAny_items_cons (nm_look n1 I (wpAny_items_cons (nm_look n2 I (wpAny_items_cons (nm_look n3 I (wpAny_items_nil ⟨by size_fits, ?_⟩)))))))
  have kp : ∀ c o, s.heap.get? c = some o → (s.heap.push { cls := .type "tuple", data := .seq [c1, c2, c3].toArray }).get? c = some o := fun c o z => Heap.get?_push_of_some _ z
  exact (PySem.W.exm_tup3 (I.kIn.keeps kp) (LT.keeps kp) (Heap.get?_push_size s.heap rfl) m).here (q _ kp)
theorem catch4 (n1 : Names X x1 c1) (n2 : Names X x2 c2) (n3 : Names X x3 c3) (n4 : Names X x4 c4) : Catches X (.Tuple [.Name x1 p1, .Name x2 p2, .Name x3 p3, .Name x4 p4] kk tp) (fun cls => PySem.W.exmAny X.K cls [c1, c2, c3, c4] = some true) := fun e pn cls σ H s E Q m I LT q => by
  refine wpAny_Tuple (wpAny_items_cons (nm_look n1 I (wpAny_items_cons (nm_look n2 I (wpAny_items_cons (nm_look n3 I (wpAny_items_cons (nm_look n4 I (wpAny_items_nil ⟨by size_fits, ?_⟩)))))))))
  have kp : ∀ c o, s.heap.get? c = some o → (s.heap.push { cls := .type "tuple", data := .seq [c1, c2, c3, c4].toArray }).get? c = some o := fun c o z => Heap.get?_push_of_some _ z
  exact (PySem.W.exm_tup4 (I.kIn.keeps kp) (LT.keeps kp) (Heap.get?_push_size s.heap rfl) m).here (q _ kp)
end
theorem fly_keeps {B : Heap} {l : List Env} {e : Addr} {Z : Obj → Prop} {h h' : Heap} (R : HandSPX.FlyingZ B l e Z h) (k : ∀ c o, h.get? c = some o → h'.get? c = some o) : HandSPX.FlyingZ B l e Z h' := by
  obtain ⟨f1, f2, f3, oe, ws, T, oT, ts, he, hc, hd, h1, hn, hne, hT, hdT, h3⟩ := R
  exact ⟨fun c o q => k c o (f1 c o q), f2, f3.of_keeps fun c o q _ => ⟨o, k c o q, rfl⟩, oe, ws, T, oT, ts, k _ _ he, hc, hd, h1, hn, hne, k _ _ hT, hdT, h3⟩
/-- what the clause wishes: the exception stays behind the suite -/
def wKeep (m : Value → Prop) (i : Nat) (ts : Addr → Value → Option Addr → TS) (D : Ends) : WX := fun cls d σ H =>
  m cls ∧ ∀ a, H a = none → ts a cls d { nx := fun σ' H' => D.nx (σ'.set i none) (upd H' a (ExT cls d a)), rt := fun _ _ => False, bk := fun _ _ => False, ct := fun _ _ => False } (σ.set i (some (.ref a))) H
section
variable {X : Cx} {t : Expr} {n : Str} {i : Nat} {m : Value → Prop} {body suite : List Stmt} {b0 : Stmt} {pos pos' : Pos} {tb : WX → TS} {ts : Addr → Value → Option Addr → TS}
theorem ps_try_keep (hs : X.stack = X.env :: X.outer) (hf : X.env.frame = some X.env.locals) (hex : X.ex = []) (hN : X.N.Nodup) (hi : X.N[i]? = some n) (hln : X.env.kindOf n = some .local) (hc : Catches X t m)
    (hb : ∀ (W : WX) (pn : List (Addr × Obj)) (xe : Value → Shared → Prop), Takes (X.tr pn xe) W → PassesOwn (model X.prog X.w) X.A X.env xe → PSs (X.tr pn xe) body (tb W))
    (hsu : ∀ (a : Addr) (oe : Obj) (cls : Value) (d : Option Addr) (pn : List (Addr × Obj)), Zc cls d oe → (∃ vs, oe.data = .fields vs) → PSs (X.suite a ((a, oe) :: pn)) (b0 :: suite) (ts a cls d)) :
    PS X (.Try body [.ExceptHandler (some t) (some n) (b0 :: suite) pos'] [] [] pos) (fun D σ H => tb (wKeep m i ts D) D σ H) := by
  refine ⟨fun pins s σ H D I h => ?_⟩
  have ok := I.ok
  have frm : X.A.frames = some (X.env :: X.outer) := by rw [ok.frames, hs]
  refine wpAny_Try_except (wpAny_mono ((hb (wKeep m i ts D) (X.pn ++ pins) (fun e s₁ => wpAny (model X.prog X.w) X.A (noteFrame e X.env) (fun _ s₂ => wpAny (model X.prog X.w) X.A (setFlight e none) (fun _ s₃ => wpAny (model X.prog X.w) X.A (handleBy e X.env [.ExceptHandler (some t) (some n) (b0 :: suite) pos']) (SP X pins D) X.xe s₃) X.xe s₂) X.xe s₁) (fun u s' xx => ?_) PassesOwn.looking).run [] s σ H D (I.toTry _) h) (fun f s1 hsp => ?_) (fun e s1 he => he))
  · obtain ⟨a, B, sI, pins', σ', H', cls, d, rfl, J', nb, up, sky, na, os, ag, hm, hyes⟩ := xx
    have J : Inv X pins σ' H' sI := J'.ofTry ok
    rw [hs] at sky
    show wpAny (model X.prog X.w) X.A (noteFrame (.ref a) X.env) _ _ _
    refine Sky.land Zc.steady frm hf sky fun h3 fl3 up3 => ?_
    have J3 : Inv X pins σ' H' { s' with heap := h3 } := J.landed nb fl3.1 (up.trans up3) os ag
    obtain ⟨oe3, vs3, he3, hz3, hd3⟩ := fl3.there
    have nfr : a ∉ frs (X.env :: X.outer) := fun hm => by
      obtain ⟨_, o', e', hnf⟩ := fl3.2.2.1.mem hm
      rw [he3] at e'
      cases e'
      exact hnf _ hd3
    have nL : a ≠ X.env.locals := fun z => nfr (List.mem_filterMap.mpr ⟨X.env, List.mem_cons_self, by rw [hf, z]⟩)
    have nF : a ∉ X.fs := fun hm => by
      obtain ⟨e, he, q⟩ := List.mem_filterMap.mp hm
      exact nfr (List.mem_filterMap.mpr ⟨e, List.mem_cons_of_mem _ he, q⟩)
    have nI : sI.heap.get? a = none := by
      cases q : sI.heap.get? a with
      | none => rfl
      | some o =>
        have z := nb a o q (by rw [hs]; exact nfr)
        rw [fl3.2.1] at z
        cases z
    have n0 : X.s_0.heap.get? a = none := by
      cases q : X.s_0.heap.get? a with
      | none => rfl
      | some o =>
        obtain ⟨o', z⟩ := J.base.there a o q (by rw [hex]; exact fun z => nomatch z)
        rw [nI] at z
        cases z
    have np : ∀ p ∈ X.pn ++ pins, p.1 ≠ a := by
      rintro p hp rfl
      have z := (J.pin p hp).1
      rw [nI] at z
      cases z
    have S3 := J3.suite he3 hd3 na nL nF
    have LT : PySem.W.Looks (model X.prog X.w) h3 (typeOf (.ref a)) cls := fun A Q E s k q => wpAny_typeOf_ref (k _ _ he3) (by rw [hz3.1]; exact q)
    refine wpAny_handleBy_cons (codeAny_handlers_test (hc a _ cls σ' H' _ _ _ hm S3 LT fun h4 k4 => ?_)) (by intro q; cases q)
    have fl4 := fly_keeps fl3 k4
    refine codeAny_handlers_suite_as (HandSPX.lands_againZ fl4 fun h5 fl5 up5 => ?_)
    have J5 : Inv X pins σ' H' { s' with heap := h5 } := J.landed nb fl5.1 (((up.trans up3).trans (Heap.UpToSlots.of_keeps k4)).trans up5) os ag
    obtain ⟨oe5, vs5, he5, hz5, hd5⟩ := fl5.there
    refine store_ok (X := X.suite a ((a, oe5) :: (X.pn ++ pins))) (v := .ref a) (J5.suite he5 hd5 na nL nF) hN hi (.inl hln) rfl (fun s6 S6 => ?_) (.inr hln)
    refine wpAny_mono ((hsu a oe5 cls d (X.pn ++ pins) hz5 ⟨_, hd5⟩).run [] s6 _ H' _ S6 (hyes a na)) (fun f s7 hsp => ?_) (fun _ _ z => False.elim z)
    match f, hsp with
    | .next, ⟨σ7, H7, S7, q7⟩ =>
      have pn7 := S7.pin (a, oe5) (List.mem_append_left _ List.mem_cons_self)
      have U := S7.unsuite ok
      have U2 : Inv X ((a, oe5) :: pins) σ7 H7 s7 := ⟨U.ok, U.os, U.bare, U.base, U.loc, U.cell, U.free, U.freeC, fun p hp => by
        rcases List.mem_append.mp hp with hp | hp
        · exact U.pin p (List.mem_append_left _ hp)
        · rcases List.mem_cons.mp hp with rfl | hp
          · exact pn7
          · exact U.pin p (List.mem_append_right _ hp), U.hok, U.len⟩
      refine gone_ok U2 hN hi hln fun s8 J8 => ?_
      obtain ⟨g1, g2, _⟩ := J8.pin (a, oe5) (List.mem_append_right _ List.mem_cons_self)
      have J9 : Inv X pins (σ7.set i none) H7 s8 := ⟨J8.ok, J8.os, J8.bare, J8.base, J8.loc, J8.cell, J8.free, J8.freeC, fun p hp => J8.pin p (by
        rcases List.mem_append.mp hp with hp | hp
        · exact List.mem_append_left _ hp
        · exact List.mem_append_right _ (List.mem_cons_of_mem _ hp)), J8.hok, J8.len⟩
      exact ⟨_, _, track J9 g1 hz5 hd5 g2 nL n0 np, q7⟩
    | .brk, ⟨_, _, _, q⟩ => exact q.elim
    | .cont, ⟨_, _, _, q⟩ => exact q.elim
    | .ret _, ⟨_, _, _, _, _, q⟩ => exact q.elim
  · match f, hsp with
    | .next, ⟨σ', H', J', q⟩ => exact wpAny_execs_nil ⟨σ', H', J'.ofTry ok, q⟩
    | .brk, ⟨σ', H', J', q⟩ => exact ⟨σ', H', J'.ofTry ok, q⟩
    | .cont, ⟨σ', H', J', q⟩ => exact ⟨σ', H', J'.ofTry ok, q⟩
    | .ret _, ⟨v, σ', H', J', r, q⟩ => exact ⟨v, σ', H', J'.ofTry ok, r, q⟩
end
/-! ### what is asked of a kept one -/
section
variable {X : Cx} {C fI : Addr} {f : Str} {b : Bk}
/-- e.f -/
def tXat (C : Addr) (f : Str) (te : TE) : TE := fun σ H Q => te σ H fun x H1 => ∃ (a dd : Addr) (fs : List (Str × V)) (v : V), x = .ref a ∧ H1 a = some (ExT (.ref C) (some dd) a) ∧ H1 dd = some (.xd fs) ∧ fs.lookup f = some v ∧ Q v H1
theorem inst_x {pins : List (Addr × Obj)} {σ : L2.St} {H : Hp} {s : Shared} {a dd : Addr} {fs : List (Str × V)} (I : Inv X pins σ H s) (ha : H a = some (ExT (.ref C) (some dd) a)) (hd : H dd = some (.xd fs)) : ∃ oe od, PySem.W.InstAt s.heap a oe C (some od) ∧ ∀ v, fs.lookup f = some v → ∃ u, RelV v u ∧ PySem.W.lookIn f od = some (some u) := by
  obtain ⟨oe, vs, h1, h2, h3⟩ := ext_at I.hok ha
  obtain ⟨mA, hns, hr⟩ := (show ObjOk X.prog X.w H s.heap dd (.xd fs) from I.hok dd _ hd)
  obtain ⟨od, ho, hl⟩ := lookIn_ns hns
  refine ⟨oe, od, ⟨h1, h2.1, by unfold PySem.W.notCls; rw [h3] <;> rfl, by rw [h2.2]; exact ho⟩, fun v l => ?_⟩
  obtain ⟨u, hu, ru⟩ := RelO.some_of (v := v) (o := mA f) (by rw [← l]; exact hr f)
  exact ⟨u, ru, by rw [hl, hu]⟩
theorem pe_xat {e : Expr} {te : TE} {pos : Pos} (T : ExcTy X.K b f C fI) (he : PE X e te) (hb : attributeBase e f X.env (eval e X.env) = eval e X.env := by rfl) : PE X (.Attribute e f pos) (tXat C f te) := by
  refine ⟨fun pins s σ H Q I h => attr_of hb (thn (he.run pins s σ H _ I h) fun u s1 ⟨x, H1, J, rx, a, dd, fs, v, ex, ea, ed, l, q⟩ => ?_)⟩
  subst ex
  obtain rfl : u = Value.ref a := rx
  obtain ⟨oe, od, K1, hl⟩ := inst_x (f := f) J ea ed
  obtain ⟨u, ru, hu⟩ := hl v l
  exact HandSPX.exc_get J.kIn K1 T.ga T.gg T.ex (PySem.W.findObj_own T.hd T.no rfl hu) (handed_of ru) ⟨v, H1, J.tok _, ru, q⟩
/-- isinstance(e, c), e a kept exception of the class at C -/
def rIsx (K : PySem.W.Frag) (C : Addr) : List V → Hp → VK → Prop := fun xs H Q => ∃ (a dd : Addr) (fs : List (Str × V)) (c : V) (u : Value) (r : Bool), xs = [.ref a, c] ∧ H a = some (ExT (.ref C) (some dd) a) ∧ H dd = some (.xd fs) ∧ ClsV c u ∧ PySem.W.kitOne K (.ref C) u = some r ∧ Q (.bl r) H
def rIsxT (K : PySem.W.Frag) (C : Addr) : List V → Hp → VK → Prop := fun xs H Q => ∃ (a dd tp : Addr) (fs : List (Str × V)) (cs : List V) (us : List Value) (r : Bool), xs = [.ref a, .ref tp] ∧ H a = some (ExT (.ref C) (some dd) a) ∧ H dd = some (.xd fs) ∧ H tp = some (.tup cs) ∧ Paired ClsV cs us ∧ PySem.W.kitAny K (.ref C) us = some r ∧ Q (.bl r) H
theorem kit_x {a : Addr} {oe : Obj} {od : Option Obj} (T : ExcTy X.K b f C fI) : PySem.W.KitX X.K (.ref a) (.ref C) (fun h => PySem.W.InstAt h a oe C od) := by
  obtain ⟨cd, hcd, _⟩ := PySem.W.any_some T.hd
  exact PySem.W.kitx_exc (by rw [hcd]; rfl) T.ga T.gg T.ex T.ca T.gs T.ts T.mo
def rIsX (K : PySem.W.Frag) (C : Addr) : List V → Hp → VK → Prop := fun xs H Q => rIsi K xs H Q ∨ rIsx K C xs H Q
def rIsXT (K : PySem.W.Frag) (C : Addr) : List V → Hp → VK → Prop := fun xs H Q => rIsiT K xs H Q ∨ rIsxT K C xs H Q
theorem call_isx {K : PySem.W.Frag} (T : ExcTy K b f C fI) (hK : X.K = K := by rfl) : CallR X (.builtin "isinstance") (rIsX K C) := by
  subst hK
  intro pins s σ H xs us Q I r h
  rcases h with h | ⟨a, dd, fs, c, u, rr, rfl, ea, ed, k, e, q⟩
  · exact call_isi pins s σ H xs us Q I r h
  obtain ⟨u1, u2, rfl, r1, r2⟩ := vals2 r
  have e2 := k.eq r2
  subst e2
  cases (show u1 = Value.ref a from r1)
  obtain ⟨oe, od, K1, _⟩ := inst_x (f := f) I ea ed
  exact PySem.W.kia_one (kit_x T) I.kIn K1 e (fun z => nomatch z) fun tk => ⟨.bl rr, H, I.tok tk, rfl, q⟩
theorem call_isxT {K : PySem.W.Frag} (T : ExcTy K b f C fI) (hK : X.K = K := by rfl) : CallR X (.builtin "isinstance") (rIsXT K C) := by
  subst hK
  intro pins s σ H xs us Q I r h
  rcases h with h | ⟨a, dd, tp, fs, cs, ks, rr, rfl, ea, ed, et, k, e, q⟩
  · exact call_isiT pins s σ H xs us Q I r h
  obtain ⟨u1, u2, rfl, r1, r2⟩ := vals2 r
  cases (show u1 = Value.ref a from r1)
  cases (show u2 = Value.ref tp from r2)
  obtain ⟨oe, od, K1, _⟩ := inst_x (f := f) I ea ed
  obtain ⟨_, ws, rw', o, h1, h2, n, h3⟩ := (show ObjOk X.prog X.w H s.heap tp (.tup cs) from I.hok tp _ et)
  have ew := ClsV.all k rw'
  subst ew
  obtain ⟨oc, od', oda, osl⟩ := o
  dsimp only at h2 h3
  subst h2 h3
  exact PySem.W.kia_tup (kit_x T) I.kIn K1 h1 e (fun z => nomatch z) fun tk => ⟨.bl rr, H, I.tok tk, rfl, q⟩
end
end HH
set_option maxHeartbeats 4000000
namespace HH
open PySem PySem.Spec PyProof.Rows L2 Evl RZ
/-- a def's promise where nothing is being shown around it (what repr asks) -/
structure FnG (P : Program) (w : World) (K : PySem.W.Frag) (mg : Str → Option Value) (base : Heap) (k : Nat) (f : Addr) (fd : FuncData) (ps : List Str) (sp : Sp) : Prop where
  len : ∀ vs H Q E, sp vs H Q E → vs.length = ps.length
  run : ∀ (A : Around) (outer : List Env) (s : Shared) (H : Hp) (args : Args) (us : List Value) (vs : List V) (Q : VK) (E : XK), A.guards = some [] → Room k A → Env0 P w K mg base A outer s H → BindsTo s fd args (ps.zip us) → Vals vs us → sp vs H Q E →
    codeAny (model P w) A (.call (.ref f) args) (CR CX0 outer P w H s Q E) s
theorem FnG.of {P : Program} {w : World} {K : PySem.W.Frag} {mg : Str → Option Value} {base : Heap} {k : Nat} {f : Addr} {x qual : Str} {params : Arguments} {body : List Stmt} {scope : Scope} {kws : List (Str × V)} {fd : FuncData} {N ps : List Str} {sp : Sp}
    (F : FunD K x qual params body scope [] kws f fd) (S : FnScope N ps scope) (len : ∀ vs H Q E, sp vs H Q E → vs.length = ps.length)
    (hbody : ∀ (cdv : Value) (A : Around) (outer : List Env) (s : Shared) (H : Hp) (vs : List V) (Q : VK) (E : XK), (A.deeper (envOfC qual scope s.heap.objs.size f cdv)).guards = some [] → Room k (A.deeper (envOfC qual scope s.heap.objs.size f cdv)) → sp vs H Q E →
      ∃ t, PSs (cxOf CX0 P w K mg base N qual scope f cdv A outer s H E) body t ∧ t { nx := fun _ H' => Q .non H', rt := Q } (start N vs) H) : FnG P w K mg base (k + 1) f fd ps sp := by
  obtain ⟨oc, od, dV, kV, doc, pm, an, cdv, ct, osl, rfl, lk, hcd, _, _⟩ := F.ex
  refine ⟨len, fun A outer s H args us vs Q E hg hr e0 hb r hsp => ?_⟩
  have inK : K.In s.heap := e0.mod.kin.keeps fun c o z => (e0.bs c o z).1
  have noL : s.heap.NoLimit := e0.mod.nolimit.keeps fun c o z => (e0.bs c o z).1
  have kinds : ∀ y ∈ ps.zip us, scope.names.lookup y.1 = some .local ∨ (scope.names.lookup y.1 = some .cell ∧ ((cellsFrom (s.heap.objs.size + 1) scope.names []).lookup y.1).isSome = true) := fun ⟨nm, v⟩ hy =>
    (S.par nm (List.of_mem_zip hy).1).elim .inl fun z => .inr ⟨z, PySem.W.cellsFrom_some _ _ _ (.inl z)⟩
  refine codeAny_call_function hr.depth (inK _ _ lk) rfl S.co S.gen rfl (PySem.W.codeRec_of inK hcd) (hb _ _ _ _ (wpAny_newFunctionEnv_cells S.kind kinds fun env he s1 x => ?_))
  subst he
  refine ⟨noL.keeps x.toInCall.keep, codeAny_func ?_⟩
  obtain ⟨t, ht, hq⟩ := hbody cdv A outer s H vs Q E hg (hr.deeper _) hsp
  have I0 := inv_start (CX := CX0) (E := E) S hr.hd e0 (len _ _ _ _ hsp) r x
  refine wpAny_mono (ht.run [] s1 (start N vs) H _ I0 hq) (fun fl s' hs => ?_) fun e s' hs => hs
  cases fl with
  | ret u =>
    obtain ⟨v, σ', H', J, rv, q⟩ := hs
    exact ⟨v, H', J.os, J.bare, J.base, J.hok, rv, q⟩
  | next =>
    obtain ⟨σ', H', J, q⟩ := hs
    exact ⟨.non, H', J.os, J.bare, J.base, J.hok, rfl, q⟩
  | brk => exact hs.elim fun _ z => z.elim fun _ z => z.2.elim
  | cont => exact hs.elim fun _ z => z.elim fun _ z => z.2.elim
structure HasG (P : Program) (w : World) (K : PySem.W.Frag) (mg : Str → Option Value) (base : Heap) (k : Nat) (x : Str) (ps : List Str) (sp : Sp) (f : Addr) (fd : FuncData) : Prop where
  G : FnG P w K mg base k f fd ps sp
  g : mg x = some (.ref f)
  kp : PySem.W.keepIn K (.ref f) = true
  b : Binds K fd ps []
section
variable {X : Cx}
theorem pe_callG {x : Str} {p pos : Pos} {e : Expr} {es : List Expr} {k : Nat} {f : Addr} {fd : FuncData} {ps : List Str} {sp : Sp} {t : TA} (F : FnG X.prog X.w X.K X.mg X.base k f fd ps sp) (gd : X.A.guards = some []) (hr : Room k X.A) (hg : Gl X x) (hm : X.mg x = some (.ref f)) (hk : PySem.W.keepIn X.K (.ref f) = true) (hb : Binds X.K fd ps [])
    (ha : PA X (e :: es) t) (hdb : (x == ("__debug__" : Str)) = false := by decide) (he : starEach (e :: es) X.env = (false, eval e X.env) :: starEach es X.env := by rfl) (hpl : (backTo pos (starEach es X.env)).any (·.1) = false := by rfl) : PE X (.Call (.Name x p) (e :: es) [] pos) (tCall sp [] E0 t) := by
  refine ⟨fun pins s σ H Q I0 h0 => ?_⟩
  refine wpAny_Call_Name_kw (ld_glob I0 hg hm (PySem.W.callWith_K (h₀ := X.base) I0.ok.mod.kin hk (thn (ha.run pos pins s σ H _ I0 h0) fun us s1 ⟨vs, H1, I1, r, q⟩ => ⟨I1.kIn, ?_⟩) he hpl) hdb)
  have r2 : Vals (vs ++ []) (us ++ []) := r.append .nil
  refine wpAny_call (codeAny_mono (F.run X.A X.stack s1 H1 ⟨us, []⟩ (us ++ []) (vs ++ []) Q E0 gd hr I1.env0 (hb s1 us I1.kIn (r2.length.symm.trans (F.len _ _ _ _ q))) r2 q) fun z s' hq => ?_)
  match z, hq with
  | .error _, hq => exact hq.elim
  | .ok (.ret _), hq => exact I1.after hq
  | .ok .next, hq => exact hq.elim
  | .ok .brk, hq => exact hq.elim
  | .ok .cont, hq => exact hq.elim
/-- repr of data -/
theorem call_reprD (gd : X.A.guards = some []) (hu : X.A.units + 70 < cLine) : CallR X (.builtin "repr") (fun xs H Q => ∃ (a : Addr) (d : PyData), xs = [.ref a] ∧ Dp X.K H (.ref a) d ∧ Nice 60 d ∧ d.showable = true ∧ d.shown.length ≤ sizeLine ∧ Q (.str d.shown) H) := by
  intro pins s σ H xs us Q I0 r h
  obtain ⟨a, d, rfl, hd, hn, hs, hz, q⟩ := h
  obtain ⟨u, rfl, ru⟩ := vals1 r
  obtain ⟨as, rd⟩ := Dp.reads I0 d _ _ hd ru
  cases ru
  refine repr_of_reads' rd hs (fun z => ?_) gd (by have := hn.2; omega) (fun _ _ z => z) (fun h' u tk hk => ⟨.str d.shown, H, ?_, ⟨_, rfl⟩, q⟩) hz
  · rw [PyData.hasDict_of_canLay d hn.1] at z
    cases z
  · exact I0.kept (t' := tk) hk
end
end HH
set_option maxHeartbeats 4000000
namespace HH
open PySem PySem.Spec PyProof.Rows L2 Evl RZ
/-- the law's def, asked from outside, where its promise is an FnG -/
theorem askG {P : Program} {w : World} {K : PySem.W.Frag} {mg mb : Str → Option Value} {k : Nat} {fa a : Addr} {fd : FuncData} {x : Str} {sp : Sp} {s : Shared} {vs : List Value} {ns : List Int}
    (inK : K.In s.heap) (gN : s.heap.Ns mainGlobals mg) (bN : s.heap.Ns builtinsNs mb) (bB : ∀ x : Str, x ≠ "__name__" → mb x = bootBuiltins x) (noL : s.heap.NoLimit) (noG : s.gens = #[])
    (obj : s.heap.get? a = some { cls := .type "list", data := .seq vs.toArray }) (hInts : IntsAre vs ns) (few : ns.length ≤ sizeLine) (room : Room k callerA)
    (F : ∀ base : Heap, K.In base → base.Ns mainGlobals mg → FnG P w K mg base k fa fd [x] sp) (hBind : ∀ (s : Shared) (u : Value), BindsTo s fd ⟨[u], []⟩ [(x, u)])
    (asked : ∀ H : Hp, Only H → SqL K H a (ns.map V.int) → sp [.ref a] H (fun v _ => v = .bl true) fun _ _ _ => False) :
    codeAny (model P w) callerA (.call (.ref fa) ⟨[.ref a], []⟩) (fun r s' => r = .ok (.ret (.bool true)) ∧ OldK s.heap s'.heap ∧ s'.os = s.os ∧ AllBare s'.gens) s := by
  have vals := vals_ints hInts
  have from_ : ∀ H : Hp, Only H → SqL K H a (ns.map V.int) → HOk P w H s.heap → (∀ c, H c ≠ none → c = a) → (H a ≠ none → K.lookup a = none) →
      codeAny (model P w) callerA (.call (.ref fa) ⟨[.ref a], []⟩) (fun r s' => r = .ok (.ret (.bool true)) ∧ OldK s.heap s'.heap ∧ s'.os = s.os ∧ AllBare s'.gens) s := by
    intro H only reads ok hA hK
    have dictN : ∀ {c : Addr} {o : Obj} {es : Array DictEntry} {ep : Nat}, s.heap.get? c = some o → o.data = .dict es ep → H c = none := by
      intro c o es ep e d
      by_cases z : H c = none
      · exact z
      · have z' := hA c z
        subst z'
        rw [obj] at e
        cases e
        cases d
    have keepN : ∀ {c : Addr} {m : Str → Option Value}, s.heap.Ns c m → (hidT s.heap H).Ns c m := by
      intro c m h
      obtain ⟨o, es, ep, e, d, r⟩ := h
      exact ⟨o, es, ep, hidT_get e (dictN e d), d, r⟩
    have keepK : K.In (hidT s.heap H) := by
      intro c o e
      refine hidT_get (inK c o e) ?_
      by_cases z : H c = none
      · exact z
      · have z' := hA c z
        subst z'
        rw [hK z] at e
        cases e
    obtain ⟨mc, lim1, lim2⟩ := noL
    have env0 : Env0 P w K mg (hidT s.heap H) callerA [] s H := ⟨rfl, ⟨keepK, keepN gN, ⟨mb, keepN bN, bB⟩, ⟨mc, keepN lim1, lim2⟩⟩, fun c o e => of_hidT e, Nat.le_of_eq (hidT_size _ _), trivial, fun c hc => (List.not_mem_nil (show c ∈ ([] : List Addr) from hc)).elim, ok, .of_eq noG⟩
    have out := (F _ keepK (keepN gN)).run callerA [] s H ⟨[.ref a], []⟩ [.ref a] [.ref a] _ _ rfl room env0 (hBind s (.ref a)) (.cons rfl .nil) (asked H only reads)
    refine codeAny_mono out fun r s' h => ?_
    match r, h with
    | .error _, h => exact h.elim
    | .ok .next, h => exact h.elim
    | .ok .brk, h => exact h.elim
    | .ok .cont, h => exact h.elim
    | .ok (.ret u), h =>
      obtain ⟨v, H', os, bare, un, ok', rel, q⟩ := h
      have q' : v = .bl true := q
      subst q'
      have ub : u = Value.bool true := rel
      subst ub
      refine ⟨rfl, OldK.of_keep fun c o e => ?_, os, bare⟩
      rcases only c with z | ⟨ob, xs, z⟩
      · exact un.keep c o e z (fun m => (List.not_mem_nil (show c ∈ ([] : List Addr) from m)).elim) (by simp)
      · have e1 := (ok c _ z).1
        have e2 := (ok' c _ (un.frzs c ob _ z)).1
        rw [e] at e1
        cases e1
        exact e2
  by_cases z : K.lookup a = none
  · refine from_ (fun c => if c = a then some (.frz { cls := .type "list", data := .seq vs.toArray } (.lst (ns.map V.int))) else none) (fun c => ?_) (.inl (.inr ⟨{ cls := .type "list", data := .seq vs.toArray }, if_pos rfl⟩)) (fun c u h => ?_) (fun c h => ?_) fun _ => z
    · by_cases hc : c = a
      · exact .inr ⟨_, _, if_pos hc⟩
      · exact .inl (if_neg hc)
    · by_cases hc : c = a
      · subst hc
        cases (if_pos rfl).symm.trans h
        exact ⟨obj, by rw [List.length_map]; exact few, vs, _, vals, obj⟩
      · cases (if_neg hc).symm.trans h
    · by_cases hc : c = a
      · exact hc
      · exact absurd (if_neg hc) h
  · obtain ⟨o, ho⟩ := Option.ne_none_iff_exists'.mp z
    have e := inK a o ho
    rw [obj] at e
    cases e
    refine from_ (fun _ => none) (fun _ => .inl rfl) (.inr ⟨_, vs.toArray, _, ho, rfl, rfl, rfl, by rw [List.size_toArray, hInts.length]; exact few, by simpa using vals⟩) (fun c u h => ?_) (fun c h => absurd rfl h) fun h => absurd rfl h
    have h' : (none : Option HO) = some u := h
    cases h'
theorem walk_ofG {l : PySem.W.OpenLaw} {n k : Nat} {q : Program} {loose : List Str} {XP : (Str → Option Value) → Heap → Prop} {YP : World → Heap → Prop} {d : DefRec} {x : Str} (hn : l.most = some n) (hn2 : n ≤ sizeLine) (hdf : d.params.defaults = []) (hr : Room k callerA)
    (F : ∀ (w : World) (mg : Str → Option Value) (fa : Addr) (h : Heap), YP w h → h.Ns mainGlobals mg → mg d.name = some (.ref fa) → ∃ (K : PySem.W.Frag) (fd : FuncData) (sp : Sp), K.In h ∧ (∀ (s : Shared) (u : Value), BindsTo s fd ⟨[u], []⟩ [(x, u)]) ∧
        (∀ (H : Hp) (a : Addr) (ns : List Int), ns.length ≤ n → Only H → SqL K H a (ns.map V.int) → sp [.ref a] H (fun v _ => v = .bl true) fun _ _ _ => False) ∧ ∀ base : Heap, K.In base → base.Ns mainGlobals mg → FnG l.prog w K mg base k fa fd [x] sp) :
    PySem.W.WalkO q loose XP YP l.row.toRowW d [] (fun f vs => PySem.call f vs) :=
  Att.attach_call hn hdf fun w s₀ s₁ mg mb fa o pm cd doc a vs ns G Y ho hd hcd hmg hobj hints hlen hg => by
    obtain ⟨K, fd, sp, KX, hb, hsp, hF⟩ := F w mg fa _ Y G.T.g hmg
    exact askG KX G.T.g G.T.b G.T.builtins G.T.nolimit hg hobj hints (Nat.le_trans hlen hn2) hr hF hb fun H hO hS => hsp H a ns hlen hO hS
end HH
set_option maxHeartbeats 4000000
namespace HH
open PySem PySem.Spec PyProof.Rows L2 Evl RZ
section
variable {X : Cx}
/-- o[i] of a list, the place a number from 0, read for an op= -/
def rGetN : V → V → Hp → VK → Prop := fun x y H Q => ∃ (l : Addr) (xs : List V) (j : Nat) (v : V), x = .ref l ∧ y = .int (j : Int) ∧ H l = some (.lst xs) ∧ xs[j]? = some v ∧ Q v H
theorem get_listN : PGet X rGetN := by
  intro pins s σ H o i ov iv Q I0 ro ri h
  obtain ⟨l, xs, j, v, rfl, rfl, hl, hv, q⟩ := h
  cases ro
  obtain ⟨t, rfl⟩ := ri
  obtain ⟨its, r, pl, hz⟩ := I0.list (SqL.of hl)
  obtain ⟨w, ew, rw'⟩ := r.get hv
  have hj : j < xs.length := (List.getElem?_eq_some_iff.mp hv).1
  have hn := line63
  exact wpAny_getItem_list pl.isList (Int.natCast_nonneg j) (by omega) (by simpa using ew) ⟨v, H, I0, rw', q⟩
end
/-! ### one last row, whatever order they pass in -/
def Step (L M : List Cow) : Prop := ∃ (pre post : List Cow) (a b : Cow), L = pre ++ a :: b :: post ∧ b.2.1 - a.2.2 > a.2.1 ∧ M = pre ++ (b.1, (b.2.1 - a.2.2, b.2.2)) :: a :: post
inductive Steps : List Cow → List Cow → Prop
  | refl (L : List Cow) : Steps L L
  | head {L M N : List Cow} : Step L M → Steps M N → Steps L N
theorem Steps.trans {L M N : List Cow} (h : Steps L M) (g : Steps M N) : Steps L N := by
  induction h with
  | refl => exact g
  | head s _ ih => exact .head s (ih g)
theorem Steps.one {L M : List Cow} (h : Step L M) : Steps L M := .head h (.refl M)
def Nf (L : List Cow) : Prop := ∀ M, ¬ Step L M
theorem Step.under {L M : List Cow} (pre post : List Cow) (h : Step L M) : Step (pre ++ L ++ post) (pre ++ M ++ post) := by
  obtain ⟨p, q, a, b, rfl, hp, rfl⟩ := h
  exact ⟨pre ++ p, q ++ post, a, b, by simp, hp, by simp⟩
theorem Steps.under {L M : List Cow} (pre post : List Cow) (h : Steps L M) : Steps (pre ++ L ++ post) (pre ++ M ++ post) := by
  induction h with
  | refl => exact .refl _
  | head s _ ih => exact .head (s.under pre post) ih
/-- of three, the two behind pass, or the two ahead: it comes to one -/
theorem three {a b c : Cow} (ta : 0 ≤ a.2.2) (tb : 0 ≤ b.2.2) (h1 : b.2.1 - a.2.2 > a.2.1) (h2 : c.2.1 - b.2.2 > b.2.1) :
    Steps [(b.1, (b.2.1 - a.2.2, b.2.2)), a, c] [(c.1, (c.2.1 - a.2.2 - b.2.2, c.2.2)), (b.1, (b.2.1 - a.2.2, b.2.2)), a] ∧ Steps [a, (c.1, (c.2.1 - b.2.2, c.2.2)), b] [(c.1, (c.2.1 - a.2.2 - b.2.2, c.2.2)), (b.1, (b.2.1 - a.2.2, b.2.2)), a] := by
  constructor
  · refine .head (M := [(b.1, (b.2.1 - a.2.2, b.2.2)), (c.1, (c.2.1 - a.2.2, c.2.2)), a]) ⟨[(b.1, (b.2.1 - a.2.2, b.2.2))], [], a, c, rfl, by omega, rfl⟩ (.one ⟨[], [a], (b.1, (b.2.1 - a.2.2, b.2.2)), (c.1, (c.2.1 - a.2.2, c.2.2)), rfl, by dsimp only; omega, rfl⟩)
  · have e : c.2.1 - a.2.2 - b.2.2 = c.2.1 - b.2.2 - a.2.2 := by omega
    rw [e]
    exact .head (M := [(c.1, (c.2.1 - b.2.2 - a.2.2, c.2.2)), a, b]) ⟨[], [b], a, (c.1, (c.2.1 - b.2.2, c.2.2)), rfl, by dsimp only; omega, rfl⟩ (.one ⟨[(c.1, (c.2.1 - b.2.2 - a.2.2, c.2.2))], [], a, b, rfl, h1, rfl⟩)
/-- two splits of one list -/
theorem splits {α : Type} : ∀ {p p' : List α} {a b a' b' : α} {q q' : List α}, p ++ a :: b :: q = p' ++ a' :: b' :: q' →
    (p = p' ∧ a = a' ∧ b = b' ∧ q = q') ∨ (∃ c, p' = p ++ [a] ∧ a' = b ∧ b' = c ∧ q = c :: q') ∨ (∃ c, p = p' ++ [a'] ∧ a = b' ∧ b = c ∧ q' = c :: q) ∨ (∃ m, p' = p ++ a :: b :: m ∧ q = m ++ a' :: b' :: q') ∨ (∃ m, p = p' ++ a' :: b' :: m ∧ q' = m ++ a :: b :: q)
  | [], [], _, _, _, _, _, _, h => by
    simp only [List.nil_append, List.cons.injEq] at h
    exact .inl ⟨rfl, h.1, h.2.1, h.2.2⟩
  | [], [x], a, b, a', b', q, q', h => by
    simp only [List.nil_append, List.cons_append, List.cons.injEq] at h
    exact .inr (.inl ⟨b', by simp [h.1], h.2.1.symm, rfl, h.2.2⟩)
  | [], x :: y :: m, a, b, a', b', q, q', h => by
    simp only [List.nil_append, List.cons_append, List.cons.injEq] at h
    exact .inr (.inr (.inr (.inl ⟨m, by simp [h.1, h.2.1], h.2.2⟩)))
  | [x], [], a, b, a', b', q, q', h => by
    simp only [List.nil_append, List.cons_append, List.cons.injEq] at h
    exact .inr (.inr (.inl ⟨b, by simp [h.1], h.2.1, rfl, h.2.2.symm⟩))
  | x :: y :: m, [], a, b, a', b', q, q', h => by
    simp only [List.nil_append, List.cons_append, List.cons.injEq] at h
    exact .inr (.inr (.inr (.inr ⟨m, by simp [h.1, h.2.1], h.2.2.symm⟩)))
  | x :: p, y :: p', a, b, a', b', q, q', h => by
    simp only [List.cons_append, List.cons.injEq] at h
    obtain ⟨rfl, h⟩ := h
    rcases splits h with ⟨rfl, k⟩ | ⟨c, rfl, k⟩ | ⟨c, rfl, k⟩ | ⟨m, rfl, k⟩ | ⟨m, rfl, k⟩
    · exact .inl ⟨rfl, k⟩
    · exact .inr (.inl ⟨c, rfl, k⟩)
    · exact .inr (.inr (.inl ⟨c, rfl, k⟩))
    · exact .inr (.inr (.inr (.inl ⟨m, rfl, k⟩)))
    · exact .inr (.inr (.inr (.inr ⟨m, rfl, k⟩)))
theorem near {L M N : List Cow} (ht : ∀ x ∈ L, 0 ≤ x.2.2) (h : Step L M) (g : Step L N) : ∃ J, Steps M J ∧ Steps N J := by
  obtain ⟨p, q, a, b, rfl, h1, rfl⟩ := h
  obtain ⟨p', q', a', b', e, h2, rfl⟩ := g
  rcases splits e with ⟨rfl, rfl, rfl, rfl⟩ | ⟨c, rfl, rfl, rfl, rfl⟩ | ⟨c, rfl, rfl, rfl, rfl⟩ | ⟨m, rfl, rfl⟩ | ⟨m, rfl, rfl⟩
  · exact ⟨_, .refl _, .refl _⟩
  · obtain ⟨s1, s2⟩ := three (a := a) (b := a') (c := b') (ht a (by simp)) (ht a' (by simp)) h1 h2
    refine ⟨p ++ [(b'.1, (b'.2.1 - a.2.2 - a'.2.2, b'.2.2)), (a'.1, (a'.2.1 - a.2.2, a'.2.2)), a] ++ q', ?_, ?_⟩
    · have := s1.under p q'
      simpa using this
    · have := s2.under p q'
      simpa using this
  · obtain ⟨s1, s2⟩ := three (a := a') (b := a) (c := b) (ht a' (by simp)) (ht a (by simp)) h2 h1
    refine ⟨p' ++ [(b.1, (b.2.1 - a'.2.2 - a.2.2, b.2.2)), (a.1, (a.2.1 - a'.2.2, a.2.2)), a'] ++ q, ?_, ?_⟩
    · have := s2.under p' q
      simpa using this
    · have := s1.under p' q
      simpa using this
  · refine ⟨p ++ (b.1, (b.2.1 - a.2.2, b.2.2)) :: a :: (m ++ (b'.1, (b'.2.1 - a'.2.2, b'.2.2)) :: a' :: q'), .one ⟨p ++ (b.1, (b.2.1 - a.2.2, b.2.2)) :: a :: m, q', a', b', by simp, h2, by simp⟩, .one ⟨p, m ++ (b'.1, (b'.2.1 - a'.2.2, b'.2.2)) :: a' :: q', a, b, by simp, h1, by simp⟩⟩
  · refine ⟨p' ++ (b'.1, (b'.2.1 - a'.2.2, b'.2.2)) :: a' :: (m ++ (b.1, (b.2.1 - a.2.2, b.2.2)) :: a :: q), .one ⟨p', m ++ (b.1, (b.2.1 - a.2.2, b.2.2)) :: a :: q, a', b', by simp, h2, by simp⟩, .one ⟨p' ++ (b'.1, (b'.2.1 - a'.2.2, b'.2.2)) :: a' :: m, q, a, b, by simp, h1, by simp⟩⟩
structure Good (L : List Cow) : Prop where
  tl : ∀ x ∈ L, 0 ≤ x.2.2
  nd : (L.map (·.1)).Nodup
  iv : PInv L
theorem Good.step {L M : List Cow} (g : Good L) (h : Step L M) : Good M ∧ asc (M.map (·.1)) < asc (L.map (·.1)) := by
  obtain ⟨p, q, a, b, rfl, h1, rfl⟩ := h
  obtain ⟨f1, f2, f3⟩ := facts_pass (n := (p ++ a :: b :: q).length) (ps := []) (q := (0, 0)) ⟨rfl, g.tl, g.nd, by
    have := asc_le ((p ++ a :: b :: q).map (·.1))
    rw [List.length_map] at this
    show 0 + _ ≤ _
    omega⟩ g.iv h1
  exact ⟨⟨f1.tl, f1.nd, f2⟩, f3⟩
theorem Good.steps {L M : List Cow} (g : Good L) (h : Steps L M) : Good M := by
  induction h with
  | refl => exact g
  | head s _ ih => exact ih (g.step s).1
theorem some_nf : ∀ (n : Nat) {L : List Cow}, Good L → asc (L.map (·.1)) ≤ n → ∃ N, Steps L N ∧ Nf N
  | n, L, g, h => by
    by_cases z : Nf L
    · exact ⟨L, .refl L, z⟩
    · have z' : ∃ M, Step L M := Classical.byContradiction fun e => z fun M s => e ⟨M, s⟩
      obtain ⟨M, s⟩ := z'
      obtain ⟨g2, lt⟩ := g.step s
      cases n with
      | zero => omega
      | succ n =>
        obtain ⟨N, s2, nf⟩ := some_nf n g2 (by omega)
        exact ⟨N, .head s s2, nf⟩
theorem one_nf : ∀ (n : Nat) {L N N' : List Cow}, Good L → asc (L.map (·.1)) ≤ n → Steps L N → Nf N → Steps L N' → Nf N' → N = N'
  | n, L, N, N', g, h, s, nf, s', nf' => by
    cases s with
    | refl =>
      cases s' with
      | refl => rfl
      | head t _ => exact (nf _ t).elim
    | @head _ M _ t u =>
      cases s' with
      | refl => exact (nf' _ t).elim
      | @head _ M' _ t' u' =>
        obtain ⟨J, j1, j2⟩ := near g.tl t t'
        obtain ⟨g2, l2⟩ := g.step t
        obtain ⟨g3, l3⟩ := g.step t'
        cases n with
        | zero => omega
        | succ n =>
          obtain ⟨O, so, nfo⟩ := some_nf _ (g2.steps j1) (Nat.le_refl _)
          have e1 := one_nf n g2 (by omega) u nf (j1.trans so) nfo
          have e2 := one_nf n g3 (by omega) u' nf' (j2.trans so) nfo
          rw [e1, e2]
theorem good_tag {rs : HH.Row} (h : ∀ b ∈ rs, 0 ≤ b.2) : Good (tag 0 rs) := ⟨(facts_tag h).tl, (facts_tag h).nd, pinv_tag 0 rs⟩
theorem Steps.snoc {L M N : List Cow} (h : Steps L M) (s : Step M N) : Steps L N := h.trans (.one s)
theorem PRun.steps {L0 L : List Cow} {ps : List (Int × Int)} (h : PRun L0 L ps) : Steps L0 L := by
  induction h with
  | nil => exact .refl _
  | step _ hp ih => exact ih.snoc ⟨_, _, _, _, rfl, hp, rfl⟩
theorem nf_of {L : List Cow} (h : HH.passL (rowsOf L) = []) : Nf L := by
  intro M s
  obtain ⟨p, q, a, b, rfl, hp, rfl⟩ := s
  have h1 : letsN (rowsOf (p ++ a :: b :: q)) (p.length + 1) = true := by
    rw [rows_mid, show p.length = (rowsOf p).length from (cow_len p).symm, lets_split]
    exact decide_eq_true hp
  have h2 : V.int ((p.length + 1 : Nat) : Int) ∈ HH.passL (rowsOf (p ++ a :: b :: q)) := by
    unfold HH.passL given
    refine List.mem_map_of_mem (f := fun i : Nat => V.int (i : Int)) (List.mem_filter.mpr ⟨List.mem_range.mpr ?_, h1⟩)
    rw [cow_len, List.length_append, List.length_cons, List.length_cons]
    omega
  rw [h] at h2
  cases h2
end HH
set_option maxHeartbeats 4000000
namespace HH
open PySem PySem.Spec PyProof.Rows L2 Evl RZ
/-! ### a line at its end, one more put in -/
def NfR : List Cow → Prop
  | [] => True
  | [_] => True
  | a :: b :: r => ¬ (b.2.1 - a.2.2 > a.2.1) ∧ NfR (b :: r)
theorem nfr_tail {a : Cow} {r : List Cow} (h : NfR (a :: r)) : NfR r := by
  cases r with
  | nil => exact True.intro
  | cons b r => exact h.2
theorem nfr_nf : ∀ {L : List Cow}, NfR L → Nf L := by
  intro L h M s
  obtain ⟨p, q, a, b, rfl, hp, rfl⟩ := s
  induction p with
  | nil => exact h.1 hp
  | cons x p ih => exact ih (nfr_tail h)
theorem nfr_in {w : Cow} : ∀ {A B : List Cow}, NfR (A ++ B) → (∀ x, A.getLast? = some x → ¬ (w.2.1 - x.2.2 > x.2.1)) → (∀ b r, B = b :: r → ¬ (b.2.1 - w.2.2 > w.2.1)) → NfR (A ++ w :: B)
  | [], [], _, _, _ => True.intro
  | [], b :: r, h, _, g => ⟨g b r rfl, h⟩
  | [x], B, h, f, g => ⟨f x rfl, by
    have := nfr_in (w := w) (A := []) (B := B) (nfr_tail h) (fun _ z => by cases z) g
    exact this⟩
  | x :: y :: A, B, h, f, g => ⟨h.1, nfr_in (A := y :: A) (B := B) h.2 (fun z hz => f z (by rw [List.getLast?_cons_cons]; exact hz)) g⟩
def idsV (N : List Cow) : List V := N.map fun x => V.int (x.1 : Int)
/-- strengths and tolls by places at first -/
structure Kept (S T : List Int) (N : List Cow) : Prop where
  s : ∀ x ∈ N, S[x.1]? = some x.2.1
  t : ∀ x ∈ N, T[x.1]? = some x.2.2
def ExB2 (a b : Addr) (H H' : Hp) : Prop := ∀ c o, c ≠ a → c ≠ b → H c = some o → H' c = some o
def spPassAll : Sp := fun vs H Q _ => ∃ (l sa ta : Addr) (N : List Cow) (S T : List Int) (who : Nat) (s0 t0 : Int), vs = [.ref l, .ref sa, .ref ta, .int (who : Int)] ∧ H l = some (.lst (idsV N)) ∧ H sa = some (.lst (S.map V.int)) ∧ H ta = some (.lst (T.map V.int)) ∧ l ≠ sa ∧ l ≠ ta ∧ sa ≠ ta ∧ Kept S T N ∧ S[who]? = some s0 ∧ T[who]? = some t0 ∧ (∀ x ∈ N, x.1 ≠ who) ∧ N.length ≤ 1000 ∧ 0 ≤ t0 ∧ NfR N ∧
  ∀ (A B : List Cow) (s : Int) H', N = A ++ B → Steps (N ++ [(who, (s0, t0))]) (A ++ (who, (s, t0)) :: B) → NfR (A ++ (who, (s, t0)) :: B) → H' l = some (.lst (idsV (A ++ (who, (s, t0)) :: B))) → H' sa = some (.lst ((S.set who s).map V.int)) → ExB2 l sa H H' → Q .non H'
/-- row and order at an address -/
structure LastAt (K : PySem.W.Frag) (H : Hp) (q : Addr) (L : List Cow) : Prop where
  ex : ∃ (v : V) (ot : Addr), H q = some (.tup [v, .ref ot]) ∧ RowAt K H v (rowsOf L) ∧ H ot = some (.tup (ordL L))
theorem LastAt.mono {K : PySem.W.Frag} {H H' : Hp} {q : Addr} {L : List Cow} (h : LastAt K H q L) (e : Ex H H') : LastAt K H' q L := by
  obtain ⟨v, ot, h1, h2, h3⟩ := h.ex
  exact ⟨v, ot, e _ _ h1, h2.ex e, e _ _ h3⟩
def spRowOrder (K : PySem.W.Frag) : Sp := fun vs H Q _ => ∃ (l sa ta : Addr) (N : List Cow) (S T : List Int), vs = [.ref l, .ref sa, .ref ta] ∧ H l = some (.lst (idsV N)) ∧ H sa = some (.lst (S.map V.int)) ∧ H ta = some (.lst (T.map V.int)) ∧ Kept S T N ∧ N.length ≤ 1000 ∧ ∀ q H', Ex H H' → LastAt K H' q N → Q (.ref q) H'
def spLast (K : PySem.W.Frag) : Sp := fun vs H Q _ => ∃ (v : V) (rs : HH.Row), vs = [v] ∧ RowAt K H v rs ∧ rs.length ≤ 1000 ∧ (∀ b ∈ rs, 0 ≤ b.2) ∧ ∀ q H' (L : List Cow), Ex H H' → LastAt K H' q L → Steps (tag 0 rs) L → NfR L → Q (.ref q) H'
section
variable {K : PySem.W.Frag} {σ : L2.St} {H H' : Hp} {te : TE} {v : V}
theorem getI {S : List Int} {j : Nat} {x : Int} (h : S[j]? = some x) : (S.map V.int)[j]? = some (.int x) := by
  rw [List.getElem?_map, h]
  rfl
/-- [a for a, b in row], [b for a, b in row] -/
theorem el_unzip {i j c : Nat} {vs : List Nat} {rs : HH.Row} (fst : Bool) (hr : RowAt K H v rs) (hl : rs.length ≤ 1000) (h : Ev te σ H v) (hw : ∀ x y, wipe (((wipe σ vs).set i (some x)).set j (some y)) vs = wipe σ vs) (hc : ∀ x y : V, (((wipe σ vs).set i (some x)).set j (some y))[c]? = some (some (if fst then x else y))) :
    EvL (tLc (iTup K te) (gTup K 2 (gCons (gName i) (gCons (gName j) gNil))) tYes (tVar c) vs) σ H (rs.map fun b => V.int (if fst then b.1 else b.2)) := fun H0 e Q q => by
  obtain ⟨a, us, rfl, ht, hb⟩ := hr
  refine h H0 e _ fun H1 e1 => ⟨a, rfl, ⟨us, ex_t (e.trans e1) ht⟩, fun Dl hD => ?_⟩
  refine lc_it (walk_tup (xs := us)) (fun k H2 => Ex H1 H2 ∧ H2 Dl = some (.lst ((rs.take k).map fun b => V.int (if fst then b.1 else b.2)))) ⟨Ex.new hD, upd_same⟩ (fun k H2 _ p => ex_t ((e.trans e1).trans p.1) ht) (fun k x H2 H3 hk p y => ?_) (fun H2 p => ?_)
  · obtain ⟨rfl, hx⟩ := y
    obtain ⟨p1, p2⟩ := p
    have hk' : k < rs.length := by rw [← hb.1]; exact hk
    obtain ⟨u, hu, bp, rfl, hbt⟩ := hb.2 k _ (List.getElem?_eq_getElem hk')
    rw [hx] at hu
    cases hu
    refine ⟨bp, _, rfl, ex_t ((e.trans e1).trans p1) hbt, rfl, _, _, rfl, _, _, rfl, rfl, hw _ _, ?_⟩
    refine ⟨_, hc _ _, _, p2, ?_, Ex.mut p1 hD, ?_⟩
    · rw [List.length_map, List.length_take]
      exact sz_lt (by omega)
    · rw [upd_same, List.take_add_one, List.getElem?_eq_getElem hk', List.map_append]
      cases fst <;> rfl
  · have e3 : rs.take us.length = rs := List.take_of_length_le (by rw [hb.1]; exact Nat.le_refl _)
    rw [e3] at p
    exact q Dl H2 (fresh_back e1 hD) (e1.trans p.1) p.2
end
theorem rows_get (rs : HH.Row) (k : Nat) (b : Int × Int) (h : rs[k]? = some b) : (rs.map (·.1))[k]? = some b.1 ∧ (rs.map (·.2))[k]? = some b.2 := by
  rw [List.getElem?_map, List.getElem?_map, h]
  exact ⟨rfl, rfl⟩
theorem tag_split : ∀ (k i : Nat) (rs : HH.Row) (b : Int × Int), rs[i]? = some b → tag (k + i) (rs.drop i) = (k + i, b) :: tag (k + i + 1) (rs.drop (i + 1))
  | k, 0, b' :: r, b, h => by
    cases h
    rfl
  | k, i + 1, c :: r, b, h => by
    have := tag_split (k + 1) i r b h
    show tag (k + (i + 1)) (r.drop i) = _
    rw [show k + (i + 1) = k + 1 + i by omega, this]
    rfl
  | _, 0, [], _, h => by cases h
  | _, _ + 1, [], _, h => by cases h
theorem set_self {α : Type} {S : List α} {k : Nat} {x : α} (h : S[k]? = some x) : S.set k x = S := by
  refine List.ext_getElem? fun i => ?_
  rw [List.getElem?_set]
  by_cases e : k = i
  · subst e
    rw [if_pos rfl, h, if_pos (List.getElem?_eq_some_iff.mp h).1]
  · rw [if_neg e]
theorem set_at {α : Type} {S : List α} {k : Nat} {x y : α} (h : S[k]? = some x) : (S.set k y)[k]? = some y := by
  rw [List.getElem?_set, if_pos rfl, if_pos (List.getElem?_eq_some_iff.mp h).1]
theorem set_off {α : Type} {S : List α} {k i : Nat} {y : α} (h : k ≠ i) : (S.set k y)[i]? = S[i]? := by
  rw [List.getElem?_set, if_neg h]
theorem idsV_at (A B : List Cow) (x : Cow) : (idsV (A ++ x :: B))[A.length]? = some (.int (x.1 : Int)) := by
  unfold idsV
  rw [List.map_append, List.getElem?_append_right (by rw [List.length_map]; exact Nat.le_refl _), List.length_map, Nat.sub_self]
  rfl
theorem idsV_len (A : List Cow) : (idsV A).length = A.length := List.length_map ..
theorem idsV_ins (A B : List Cow) (w : Cow) : (idsV (A ++ B)).take A.length ++ [.int (w.1 : Int)] ++ (idsV (A ++ B)).drop A.length = idsV (A ++ w :: B) := by
  unfold idsV
  rw [List.map_append, List.take_append_of_le_length (by rw [List.length_map]; exact Nat.le_refl _), List.drop_append_of_le_length (by rw [List.length_map]; exact Nat.le_refl _), List.take_of_length_le (by rw [List.length_map]; exact Nat.le_refl _), List.drop_of_length_le (by rw [List.length_map]; exact Nat.le_refl _), List.map_append, List.append_assoc]
  rfl
end HH
set_option maxHeartbeats 4000000
namespace HH
open PySem PySem.Spec PyProof.Rows L2 Evl RZ
section
variable {K : PySem.W.Frag} {σ : L2.St} {p : Addr} {ta tb te : TE} {D : Ends} {tz : TS}
/-- an int that is drawn: c draws, of which P is known -/
def Dr (te : TE) (σ : L2.St) (p : Addr) (c : Nat) (P : Int → Prop) : Prop := ∀ (H : Hp) (n : Nat), Bx H p n → n + c < Lim → ∀ Q : VK, (∀ r H', P r → ExB p H H' → Bx H' p (n + c) → Q (.int r) H') → te σ H Q
theorem dr_c {i : Int} (h : ∀ H, Ev te σ H (.int i)) : Dr te σ p 0 (fun r => r = i) := fun H n hb hn Q q => h H H (Ex.refl H) Q fun H1 e1 => q i H1 rfl (.of e1) (hb.ex e1)
theorem dr_take {ib : Nat} {tm : TE} {E : XK} {m : Int} (hb : σ[ib]? = some (some (.ref p))) (hm : ∀ H, Ev tm σ H (.int m)) (h0 : 0 < m) (h1 : m < 1073741824) : Dr (tCall spTake [] E (tCons (tVar ib) (tCons tm tNil))) σ p 1 (fun r => 0 ≤ r ∧ r < m) := fun H n bx hn Q q =>
  ⟨.ref p, hb, hm H H (Ex.refl H) _ fun H1 e1 => ⟨p, m, n, rfl, h0, h1, bx.ex e1, by omega, fun r H2 r0 r1 x2 b2 => q r H2 ⟨r0, r1⟩ ((ExB.of e1).trans x2) b2⟩⟩
theorem dr_I {C : Int → Int → Prop} {g : Int → Int → Int} {c d : Nat} {P R S : Int → Prop} (ha : Dr ta σ p c P) (hb : Dr tb σ p d R) (h : ∀ i j, P i → R j → C i j ∧ S (g i j)) : Dr (tOp (rI C fun i j => .int (g i j)) ta tb) σ p (c + d) S := fun H n bx hn Q q =>
  ha H n bx (by omega) _ fun i H1 pi x1 b1 => hb H1 (n + c) b1 (by omega) _ fun j H2 rj x2 b2 => ⟨i, j, rfl, rfl, (h i j pi rj).1, q _ H2 (h i j pi rj).2 (x1.trans x2) (by rw [show n + (c + d) = n + c + d by omega]; exact b2)⟩
theorem dr_I0 {g : Int → Int → Int} {c d : Nat} {P R S : Int → Prop} (ha : Dr ta σ p c P) (hb : Dr tb σ p d R) (h : ∀ i j, P i → R j → S (g i j)) : Dr (tOp (rI0 fun i j => .int (g i j)) ta tb) σ p (c + d) S := fun H n bx hn Q q =>
  ha H n bx (by omega) _ fun i H1 pi x1 b1 => hb H1 (n + c) b1 (by omega) _ fun j H2 rj x2 b2 => ⟨i, j, rfl, rfl, q _ H2 (h i j pi rj) (x1.trans x2) (by rw [show n + (c + d) = n + c + d by omega]; exact b2)⟩
theorem q_asgDr {i c n : Nat} {P : Int → Prop} {H : Hp} (h : Dr te σ p c P) (hb : Bx H p n) (hn : n + c < Lim) (k : ∀ r H', P r → ExB p H H' → Bx H' p (n + c) → tz D (σ.set i (some (.int r))) H') : tSeq (tAsg te (gName i)) tz D σ H := h H n hb hn _ k
theorem s_asgDr {i c n : Nat} {P : Int → Prop} {H : Hp} (h : Dr te σ p c P) (hb : Bx H p n) (hn : n + c < Lim) (k : ∀ r H', P r → ExB p H H' → Bx H' p (n + c) → D.nx (σ.set i (some (.int r))) H') : tAsg te (gName i) D σ H := h H n hb hn _ k
end
def spFar (K : PySem.W.Frag) : Sp := fun vs H Q _ => ∃ (p : Addr) (m : Nat) (n : Nat), vs = [.ref p, .int (m : Int)] ∧ 0 < m ∧ m ≤ 16 ∧ Bx H p n ∧ n + 100 < Lim ∧ ∀ v H' (rs : HH.Row), ExB p H H' → Bx H' p (n + 100) → RowAt K H' v rs → 0 < rs.length → rs.length ≤ m → (∀ b ∈ rs, Tame b) → Q v H'
def spEndedBy (K : PySem.W.Frag) : Sp := fun vs H Q _ => ∃ (v : V) (rs : HH.Row) (i : Int), vs = [v, .int i] ∧ (i = 0 ∨ i = -1) ∧ RowAt K H v rs ∧ rs.length ≤ 30 ∧ (∀ b ∈ rs, 0 ≤ b.2) ∧ ∀ q H' (L : List Cow), Ex H H' → LastAt K H' q L → Steps (tag 0 rs) L → HH.passL (rowsOf L) = [] → Q (.ref q) H'
theorem at_end {xs : List V} {i : Int} (hi : i = 0 ∨ i = -1) (h : 0 < xs.length) : ∃ (r : Nat) (x : V), xs[r]? = some x ∧ atI xs i = some x := by
  rcases hi with rfl | rfl
  · exact ⟨0, xs[0], List.getElem?_eq_getElem h, atI_nat (j := 0) (List.getElem?_eq_getElem h)⟩
  · have hl : xs.length - 1 < xs.length := by omega
    refine ⟨xs.length - 1, xs[xs.length - 1], List.getElem?_eq_getElem hl, ?_⟩
    unfold atI ixN
    rw [if_neg (by omega), if_pos (by omega)]
    show xs[(-1 + (xs.length : Int)).toNat]? = _
    rw [show (-1 + (xs.length : Int)).toNat = xs.length - 1 by omega]
    exact List.getElem?_eq_getElem hl
theorem ev_pow {σ : L2.St} {H : Hp} {a b c : Int} (h : CPow a b) (e : a ^ b.toNat = c) : Ev (tOp (rI CPow fun i j => .int (i ^ j.toNat)) (tC (.int a)) (tC (.int b))) σ H (.int c) := ev_is (ev_op ev_c ev_c (rv_I h)) (by rw [e])
theorem ev_mpow {σ : L2.St} {H : Hp} {d a b c : Int} (h : CPow a b) (hd : CMul d (a ^ b.toNat)) (e : d * a ^ b.toNat = c) : Ev (tOp (rI CMul fun i j => .int (i * j)) (tC (.int d)) (tOp (rI CPow fun i j => .int (i ^ j.toNat)) (tC (.int a)) (tC (.int b)))) σ H (.int c) := ev_is (ev_op ev_c (ev_op ev_c ev_c (rv_I h)) (rv_I hd)) (by rw [e])
end HH
set_option maxHeartbeats 4000000
namespace HH
open PySem PySem.Spec PyProof.Rows L2 Evl RZ
/-! rows as data -/
def beastD (b : Int × Int) : PyData := .tuple [.int b.1, .int b.2]
def rowD (rs : HH.Row) : PyData := .tuple (rs.map beastD)
theorem Beasts.uncons {K : PySem.W.Frag} {H : Hp} {v : V} {vs : List V} {b : Int × Int} {rs : HH.Row} (h : Beasts K H (v :: vs) (b :: rs)) : BeastAt K H v b ∧ Beasts K H vs rs := by
  refine ⟨?_, Nat.succ.inj h.1, fun i c hi => ?_⟩
  · obtain ⟨u, hu, g⟩ := h.2 0 b rfl
    cases hu
    exact g
  · obtain ⟨u, hu, g⟩ := h.2 (i + 1) c hi
    exact ⟨u, hu, g⟩
theorem beasts_dp {K : PySem.W.Frag} {H : Hp} : ∀ {vs : List V} {rs : HH.Row}, Beasts K H vs rs → DpAll K H vs (rs.map beastD)
  | [], [], _ => .nil
  | [], _ :: _, h => by cases h.1
  | _ :: _, [], h => by cases h.1
  | v :: vs, b :: rs, h => by
    obtain ⟨⟨p, rfl, hp⟩, h2⟩ := h.uncons
    exact .cons (.tup hp (.cons (.int _) (.cons (.int _) .nil))) (beasts_dp h2)
theorem RowAt.dp {K : PySem.W.Frag} {H : Hp} {v : V} {rs : HH.Row} (h : RowAt K H v rs) : ∃ a, v = .ref a ∧ Dp K H (.ref a) (rowD rs) := by
  obtain ⟨a, vs, rfl, h1, h2⟩ := h
  exact ⟨a, rfl, .tup h1 (beasts_dp h2)⟩
theorem nice_beast (b : Int × Int) : Nice 1 (beastD b) := nice_tuple (k := 0) fun d hd => by
  rcases List.mem_cons.mp hd with rfl | hd
  · exact nice_int 0 _
  · rcases List.mem_cons.mp hd with rfl | hd
    · exact nice_int 0 _
    · cases hd
theorem nice_row (rs : HH.Row) : Nice 2 (rowD rs) := nice_tuple fun d hd => by
  obtain ⟨b, _, rfl⟩ := List.mem_map.mp hd
  exact nice_beast b
theorem nice_mono {k j : Nat} {d : PyData} (h : Nice k d) (e : k ≤ j) : Nice j d := ⟨h.1, Nat.le_trans h.2 e⟩
theorem small_log {i : Int} (h : i.natAbs < 10 ^ 18) : i.natAbs.log2 < 1920 := by
  by_cases z : i.natAbs = 0
  · rw [z]
    decide
  · rw [Nat.log2_lt z]
    have h1 : (10 : Nat) ^ 18 ≤ 2 ^ 60 := by decide
    have h2 : (2 : Nat) ^ 60 ≤ 2 ^ 1920 := Nat.pow_le_pow_right (by decide) (by decide)
    omega
def Low (b : Int × Int) : Prop := b.1.natAbs < 10 ^ 18 ∧ b.2.natAbs < 10 ^ 18
theorem shown_le18 {i : Int} (h : i.natAbs < 10 ^ 18) : (PyData.shown (.int i)).length ≤ 19 := by
  have e := int_text_length_le10 (k := 18) (by decide) h
  show (Str.ofString (toString i)).length ≤ 19
  rw [PySem.ofString_length]
  exact e
theorem Tame.low {b : Int × Int} (h : Tame b) : Low b := by
  unfold Tame at h
  have e : (10 : Int) ^ 12 = 1000000000000 := by decide
  have e2 : (10 : Nat) ^ 18 = 1000000000000000000 := by decide
  rw [e] at h
  unfold Low
  rw [e2]
  omega
theorem show_beast {b : Int × Int} (h : Low b) : (beastD b).showable = true ∧ (beastD b).shown.length ≤ 50 := by
  have s1 : PyData.showable (.int b.1) = true := by simp only [PyData.showable]; exact decide_eq_true (small_log h.1)
  have s2 : PyData.showable (.int b.2) = true := by simp only [PyData.showable]; exact decide_eq_true (small_log h.2)
  refine ⟨by simp only [beastD, PyData.showable, PyData.showableAll]; rw [show decide (b.1.natAbs.log2 < 1920) = true from decide_eq_true (small_log h.1), show decide (b.2.natAbs.log2 < 1920) = true from decide_eq_true (small_log h.2)]; rfl, ?_⟩
  have l1 := shown_le18 h.1
  have l2 := shown_le18 h.2
  have e : (beastD b).shown = tupleText [PyData.shown (.int b.1), PyData.shown (.int b.2)] := by simp only [beastD, PyData.shown, PyData.shownAll]
  rw [e]
  have := tupleText_len_le [PyData.shown (.int b.1), PyData.shown (.int b.2)]
  simp only [List.map_cons, List.map_nil, List.sum_cons, List.sum_nil, List.length_cons, List.length_nil] at this
  omega
theorem show_all : ∀ {rs : HH.Row}, (∀ b ∈ rs, Low b) → PyData.showableAll (rs.map beastD) = true ∧ ((PyData.shownAll (rs.map beastD)).map (·.length)).sum ≤ 50 * rs.length ∧ (PyData.shownAll (rs.map beastD)).length = rs.length
  | [], _ => ⟨by simp [PyData.showableAll], by simp [PyData.shownAll], by simp [PyData.shownAll]⟩
  | b :: r, h => by
    obtain ⟨a1, a2⟩ := show_beast (h b (List.mem_cons_self ..))
    obtain ⟨b1, b2, b3⟩ := show_all (rs := r) fun c hc => h c (List.mem_cons_of_mem _ hc)
    refine ⟨by simp only [List.map_cons, PyData.showableAll, a1, b1]; rfl, ?_, ?_⟩
    · simp only [List.map_cons, PyData.shownAll, List.sum_cons, List.length_cons]
      omega
    · simp only [List.map_cons, PyData.shownAll, List.length_cons]
      omega
theorem show_row {rs : HH.Row} (h : ∀ b ∈ rs, Low b) (hl : rs.length ≤ 1000) : (rowD rs).showable = true ∧ (rowD rs).shown.length ≤ sizeLine := by
  obtain ⟨a, b, c⟩ := show_all h
  refine ⟨by simp only [rowD, PyData.showable]; exact a, ?_⟩
  have e : (rowD rs).shown = tupleText (PyData.shownAll (rs.map beastD)) := by simp only [rowD, PyData.shown]
  rw [e]
  have := tupleText_len_le (PyData.shownAll (rs.map beastD))
  exact sz_of (by omega)
section
variable {K : PySem.W.Frag} {σ : L2.St} {H H' : Hp} {te : TE} {v : V}
theorem rc_repr {rs : HH.Row} (hr : RowAt K H v rs) (h : ∀ b ∈ rs, Low b) (hl : rs.length ≤ 1000) : RC (fun xs H Q => ∃ (a : Addr) (d : PyData), xs = [.ref a] ∧ Dp K H (.ref a) d ∧ Nice 60 d ∧ d.showable = true ∧ d.shown.length ≤ sizeLine ∧ Q (.str d.shown) H) [v] H (.str (rowD rs).shown) := fun H1 e1 Q q => by
  obtain ⟨a, rfl, hd⟩ := (hr.ex e1).dp
  obtain ⟨s1, s2⟩ := show_row h hl
  exact ⟨a, rowD rs, rfl, hd, nice_mono (nice_row rs) (by decide), s1, s2, q H1 (Ex.refl H1)⟩
end
/-! alike things -/
theorem alike_beast {K : PySem.W.Frag} {H : Hp} {v u : V} {b : Int × Int} (h : BeastAt K H v b) (g : BeastAt K H u b) : Alike K H 2 v u := by
  obtain ⟨p, rfl, hp⟩ := h
  obtain ⟨q, rfl, hq⟩ := g
  refine .inr ⟨p, q, _, _, rfl, rfl, .inr ⟨hp, hq⟩, rfl, by show 2 ≤ 40000; decide, fun i x y hx hy => ?_⟩
  rw [hx] at hy
  cases hy
  refine .inl ⟨rfl, ?_⟩
  match i, hx with
  | 0, hx => cases hx; exact True.intro
  | 1, hx => cases hx; exact True.intro
  | i + 2, hx => cases hx
theorem alike_row {K : PySem.W.Frag} {H : Hp} {v u : V} {rs : HH.Row} (hl : rs.length ≤ 40000) (h : RowAt K H v rs) (g : RowAt K H u rs) : Alike K H 3 v u := by
  obtain ⟨a, vs, rfl, h1, h2⟩ := h
  obtain ⟨b, us, rfl, g1, g2⟩ := g
  refine .inr ⟨a, b, vs, us, rfl, rfl, .inr ⟨h1, g1⟩, by rw [h2.1, g2.1], by rw [h2.1]; exact hl, fun i x y hx hy => ?_⟩
  have hi : i < rs.length := by
    rw [← h2.1]
    exact (List.getElem?_eq_some_iff.mp hx).1
  obtain ⟨x', ex, bx⟩ := h2.2 i _ (List.getElem?_eq_getElem hi)
  obtain ⟨y', ey, by'⟩ := g2.2 i _ (List.getElem?_eq_getElem hi)
  rw [hx] at ex
  rw [hy] at ey
  cases ex
  cases ey
  exact alike_beast bx by'
theorem alike_ints {K : PySem.W.Frag} {H : Hp} {a b : Addr} {ns : List Nat} (hl : ns.length ≤ 40000) (h : SqT K H a (ns.map fun (k : Nat) => V.int (k : Int))) (g : SqT K H b (ns.map fun (k : Nat) => V.int (k : Int))) : Alike K H 2 (.ref a) (.ref b) := by
  refine .inr ⟨a, b, _, _, rfl, rfl, .inr ⟨h, g⟩, rfl, by rw [List.length_map]; exact hl, fun i x y hx hy => ?_⟩
  rw [hx] at hy
  cases hy
  refine .inl ⟨rfl, ?_⟩
  obtain ⟨k, _, rfl⟩ := List.mem_map.mp (List.mem_of_getElem? hx)
  exact True.intro
theorem Alike.up {K : PySem.W.Frag} {H : Hp} : ∀ {d : Nat} {x y : V}, Alike K H d x y → Alike K H (d + 1) x y
  | 0, _, _, h => h.elim
  | d + 1, x, y, h => by
    rcases h with h | ⟨a, b, xs, ys, h1, h2, h3, h4, h5, h6⟩
    · exact .inl h
    · exact .inr ⟨a, b, xs, ys, h1, h2, h3, h4, h5, fun i u v hu hv => (h6 i u v hu hv).up⟩
theorem ordL_nat (L : List Cow) : ordL L = (L.map (·.1)).map fun (k : Nat) => V.int (k : Int) := by
  unfold ordL
  rw [List.map_map]
  rfl
theorem alike_last {K : PySem.W.Frag} {H : Hp} {p q : Addr} {L : List Cow} (hl : L.length ≤ 40000) (h : LastAt K H p L) (g : LastAt K H q L) : Alike K H 4 (.ref p) (.ref q) := by
  obtain ⟨v, ot, h1, h2, h3⟩ := h.ex
  obtain ⟨u, os, g1, g2, g3⟩ := g.ex
  refine .inr ⟨p, q, _, _, rfl, rfl, .inr ⟨st_of h1, st_of g1⟩, rfl, by show 2 ≤ 40000; decide, fun i x y hx hy => ?_⟩
  rw [ordL_nat] at h3 g3
  match i, hx, hy with
  | 0, hx, hy =>
    cases hx
    cases hy
    exact alike_row (by rw [cow_len]; exact hl) h2 g2
  | 1, hx, hy =>
    cases hx
    cases hy
    exact (alike_ints (by rw [List.length_map]; exact hl) (st_of h3) (st_of g3)).up
  | i + 2, hx, _ => cases hx
/-! the pair as data -/
def lastD (L : List Cow) : PyData := .tuple [rowD (rowsOf L), .tuple ((L.map fun x => (x.1 : Int)).map PyData.int)]
theorem LastAt.dp {K : PySem.W.Frag} {H : Hp} {p : Addr} {L : List Cow} (h : LastAt K H p L) : Dp K H (.ref p) (lastD L) := by
  obtain ⟨v, ot, h1, h2, h3⟩ := h.ex
  obtain ⟨a, rfl, hd⟩ := h2.dp
  have e : ordL L = (L.map fun x => (x.1 : Int)).map V.int := by
    unfold ordL
    rw [List.map_map]
    rfl
  rw [e] at h3
  exact .tup (st_of h1) (.cons hd (.cons (.tup (st_of h3) (dp_ints _)) .nil))
theorem nice_last (L : List Cow) : Nice 3 (lastD L) := nice_tuple fun d hd => by
  rcases List.mem_cons.mp hd with rfl | hd
  · exact nice_row _
  · rcases List.mem_cons.mp hd with rfl | hd
    · exact nice_mono (nice_tuple (k := 0) (nice_ints _)) (by decide)
    · cases hd
theorem steps_nf {L M : List Cow} (h : Steps L M) (n : Nf L) : M = L := by
  cases h with
  | refl => rfl
  | head s _ => exact (n _ s).elim
theorem steps_len {L M : List Cow} (h : Steps L M) : M.length = L.length := by
  induction h with
  | refl => rfl
  | head s _ ih =>
    obtain ⟨p, q, a, b, rfl, _, rfl⟩ := s
    rw [ih, List.length_append, List.length_append]
    rfl
end HH
set_option maxHeartbeats 4000000
namespace HH
open PySem PySem.Spec PyProof.Rows L2 Evl RZ
/-! ### one first row, whatever order they fall back in -/
def FStep (L M : List Cow) : Prop := ∃ (pre post : List Cow) (a b : Cow), L = pre ++ a :: b :: post ∧ a.2.1 > b.2.1 ∧ M = pre ++ b :: (a.1, (a.2.1 + b.2.2, a.2.2)) :: post
inductive FSteps : List Cow → List Cow → Prop
  | refl (L : List Cow) : FSteps L L
  | head {L M N : List Cow} : FStep L M → FSteps M N → FSteps L N
theorem FSteps.trans {L M N : List Cow} (h : FSteps L M) (g : FSteps M N) : FSteps L N := by
  induction h with
  | refl => exact g
  | head s _ ih => exact .head s (ih g)
theorem FSteps.one {L M : List Cow} (h : FStep L M) : FSteps L M := .head h (.refl M)
def Ff (L : List Cow) : Prop := ∀ M, ¬ FStep L M
theorem FStep.under {L M : List Cow} (pre post : List Cow) (h : FStep L M) : FStep (pre ++ L ++ post) (pre ++ M ++ post) := by
  obtain ⟨p, q, a, b, rfl, hp, rfl⟩ := h
  exact ⟨pre ++ p, q ++ post, a, b, by simp, hp, by simp⟩
theorem FSteps.under {L M : List Cow} (pre post : List Cow) (h : FSteps L M) : FSteps (pre ++ L ++ post) (pre ++ M ++ post) := by
  induction h with
  | refl => exact .refl _
  | head s _ ih => exact .head (s.under pre post) ih
theorem threeF {a b c : Cow} (tb : 0 ≤ b.2.2) (tc : 0 ≤ c.2.2) (h1 : a.2.1 > b.2.1) (h2 : b.2.1 > c.2.1) :
    FSteps [b, (a.1, (a.2.1 + b.2.2, a.2.2)), c] [c, (b.1, (b.2.1 + c.2.2, b.2.2)), (a.1, (a.2.1 + b.2.2 + c.2.2, a.2.2))] ∧ FSteps [a, c, (b.1, (b.2.1 + c.2.2, b.2.2))] [c, (b.1, (b.2.1 + c.2.2, b.2.2)), (a.1, (a.2.1 + b.2.2 + c.2.2, a.2.2))] := by
  constructor
  · exact .head (M := [b, c, (a.1, (a.2.1 + b.2.2 + c.2.2, a.2.2))]) ⟨[b], [], (a.1, (a.2.1 + b.2.2, a.2.2)), c, rfl, by dsimp only; omega, rfl⟩ (.one ⟨[], [(a.1, (a.2.1 + b.2.2 + c.2.2, a.2.2))], b, c, rfl, h2, rfl⟩)
  · have e : a.2.1 + b.2.2 + c.2.2 = a.2.1 + c.2.2 + b.2.2 := by omega
    rw [e]
    exact .head (M := [c, (a.1, (a.2.1 + c.2.2, a.2.2)), (b.1, (b.2.1 + c.2.2, b.2.2))]) ⟨[], [(b.1, (b.2.1 + c.2.2, b.2.2))], a, c, rfl, by omega, rfl⟩ (.one ⟨[c], [], (a.1, (a.2.1 + c.2.2, a.2.2)), (b.1, (b.2.1 + c.2.2, b.2.2)), rfl, by dsimp only; omega, rfl⟩)
theorem nearF {L M N : List Cow} (ht : ∀ x ∈ L, 0 ≤ x.2.2) (h : FStep L M) (g : FStep L N) : ∃ J, FSteps M J ∧ FSteps N J := by
  obtain ⟨p, q, a, b, rfl, h1, rfl⟩ := h
  obtain ⟨p', q', a', b', e, h2, rfl⟩ := g
  rcases splits e with ⟨rfl, rfl, rfl, rfl⟩ | ⟨c, rfl, rfl, rfl, rfl⟩ | ⟨c, rfl, rfl, rfl, rfl⟩ | ⟨m, rfl, rfl⟩ | ⟨m, rfl, rfl⟩
  · exact ⟨_, .refl _, .refl _⟩
  · obtain ⟨s1, s2⟩ := threeF (a := a) (b := a') (c := b') (ht a' (by simp)) (ht b' (by simp)) h1 h2
    refine ⟨p ++ [b', (a'.1, (a'.2.1 + b'.2.2, a'.2.2)), (a.1, (a.2.1 + a'.2.2 + b'.2.2, a.2.2))] ++ q', ?_, ?_⟩
    · have := s1.under p q'
      simpa using this
    · have := s2.under p q'
      simpa using this
  · obtain ⟨s1, s2⟩ := threeF (a := a') (b := a) (c := b) (ht a (by simp)) (ht b (by simp)) h2 h1
    refine ⟨p' ++ [b, (a.1, (a.2.1 + b.2.2, a.2.2)), (a'.1, (a'.2.1 + a.2.2 + b.2.2, a'.2.2))] ++ q, ?_, ?_⟩
    · have := s2.under p' q
      simpa using this
    · have := s1.under p' q
      simpa using this
  · refine ⟨p ++ b :: (a.1, (a.2.1 + b.2.2, a.2.2)) :: (m ++ b' :: (a'.1, (a'.2.1 + b'.2.2, a'.2.2)) :: q'), .one ⟨p ++ b :: (a.1, (a.2.1 + b.2.2, a.2.2)) :: m, q', a', b', by simp, h2, by simp⟩, .one ⟨p, m ++ b' :: (a'.1, (a'.2.1 + b'.2.2, a'.2.2)) :: q', a, b, by simp, h1, by simp⟩⟩
  · refine ⟨p' ++ b' :: (a'.1, (a'.2.1 + b'.2.2, a'.2.2)) :: (m ++ b :: (a.1, (a.2.1 + b.2.2, a.2.2)) :: q), .one ⟨p', m ++ b :: (a.1, (a.2.1 + b.2.2, a.2.2)) :: q, a', b', by simp, h2, by simp⟩, .one ⟨p' ++ b' :: (a'.1, (a'.2.1 + b'.2.2, a'.2.2)) :: m, q, a, b, by simp, h1, by simp⟩⟩
structure FGood (L : List Cow) : Prop where
  tl : ∀ x ∈ L, 0 ≤ x.2.2
  nd : (L.map (·.1)).Nodup
  iv : FInv L
theorem FGood.step {L M : List Cow} (g : FGood L) (h : FStep L M) : FGood M ∧ asc (M.map (·.1)) < asc (L.map (·.1)) := by
  obtain ⟨p, q, a, b, rfl, h1, rfl⟩ := h
  obtain ⟨f1, f2, f3⟩ := facts_fall (n := (p ++ a :: b :: q).length) (ps := []) (q := (0, 0)) ⟨rfl, g.tl, g.nd, by
    have := asc_le ((p ++ a :: b :: q).map (·.1))
    rw [List.length_map] at this
    show 0 + _ ≤ _
    omega⟩ g.iv h1
  exact ⟨⟨f1.tl, f1.nd, f2⟩, f3⟩
theorem FGood.steps {L M : List Cow} (g : FGood L) (h : FSteps L M) : FGood M := by
  induction h with
  | refl => exact g
  | head s _ ih => exact ih (g.step s).1
theorem some_ff : ∀ (n : Nat) {L : List Cow}, FGood L → asc (L.map (·.1)) ≤ n → ∃ N, FSteps L N ∧ Ff N
  | n, L, g, h => by
    by_cases z : Ff L
    · exact ⟨L, .refl L, z⟩
    · have z' : ∃ M, FStep L M := Classical.byContradiction fun e => z fun M s => e ⟨M, s⟩
      obtain ⟨M, s⟩ := z'
      obtain ⟨g2, lt⟩ := g.step s
      cases n with
      | zero => omega
      | succ n =>
        obtain ⟨N, s2, nf⟩ := some_ff n g2 (by omega)
        exact ⟨N, .head s s2, nf⟩
theorem one_ff : ∀ (n : Nat) {L N N' : List Cow}, FGood L → asc (L.map (·.1)) ≤ n → FSteps L N → Ff N → FSteps L N' → Ff N' → N = N'
  | n, L, N, N', g, h, s, nf, s', nf' => by
    cases s with
    | refl =>
      cases s' with
      | refl => rfl
      | head t _ => exact (nf _ t).elim
    | @head _ M _ t u =>
      cases s' with
      | refl => exact (nf' _ t).elim
      | @head _ M' _ t' u' =>
        obtain ⟨J, j1, j2⟩ := nearF g.tl t t'
        obtain ⟨g2, l2⟩ := g.step t
        obtain ⟨g3, l3⟩ := g.step t'
        cases n with
        | zero => omega
        | succ n =>
          obtain ⟨O, so, nfo⟩ := some_ff _ (g2.steps j1) (Nat.le_refl _)
          have e1 := one_ff n g2 (by omega) u nf (j1.trans so) nfo
          have e2 := one_ff n g3 (by omega) u' nf' (j2.trans so) nfo
          rw [e1, e2]
theorem fgood_tag {rs : HH.Row} (h : ∀ b ∈ rs, 0 ≤ b.2) : FGood (tag 0 rs) := ⟨(facts_tag h).tl, (facts_tag h).nd, finv_tag 0 rs⟩
theorem FSteps.snoc {L M N : List Cow} (h : FSteps L M) (s : FStep M N) : FSteps L N := h.trans (.one s)
theorem FRun.steps {L0 L : List Cow} {ps : List (Int × Int)} (h : FRun L0 L ps) : FSteps L0 L := by
  induction h with
  | nil => exact .refl _
  | step _ hp ih => exact ih.snoc ⟨_, _, _, _, rfl, hp, rfl⟩
theorem ff_of {L : List Cow} (hl : 0 < L.length) (h : HH.fallG (rowsOf L) = []) : Ff L := by
  intro M s
  obtain ⟨p, q, a, b, rfl, hp, rfl⟩ := s
  have h1 : fallsN (rowsOf (p ++ a :: b :: q)) p.length = true := by
    rw [rows_mid, show p.length = (rowsOf p).length from (cow_len p).symm, falls_split]
    exact decide_eq_true hp
  have h2 : V.int (p.length : Int) ∈ HH.fallG (rowsOf (p ++ a :: b :: q)) := by
    unfold HH.fallG given
    refine List.mem_map_of_mem (f := fun i : Nat => V.int (i : Int)) (List.mem_filter.mpr ⟨List.mem_range.mpr ?_, h1⟩)
    rw [cow_len, List.length_append, List.length_cons, List.length_cons]
    omega
  rw [h] at h2
  cases h2
def FfR : List Cow → Prop
  | [] => True
  | [_] => True
  | a :: b :: r => ¬ (a.2.1 > b.2.1) ∧ FfR (b :: r)
theorem ffr_tail {a : Cow} {r : List Cow} (h : FfR (a :: r)) : FfR r := by
  cases r with
  | nil => exact True.intro
  | cons b r => exact h.2
theorem ffr_ff : ∀ {L : List Cow}, FfR L → Ff L := by
  intro L h M s
  obtain ⟨p, q, a, b, rfl, hp, rfl⟩ := s
  induction p with
  | nil => exact h.1 hp
  | cons x p ih => exact ih (ffr_tail h)
theorem ffr_in {w : Cow} : ∀ {A B : List Cow}, FfR (A ++ B) → (∀ x, A.getLast? = some x → ¬ (x.2.1 > w.2.1)) → (∀ b r, B = b :: r → ¬ (w.2.1 > b.2.1)) → FfR (A ++ w :: B)
  | [], [], _, _, _ => True.intro
  | [], b :: r, h, _, g => ⟨g b r rfl, h⟩
  | [x], B, h, f, g => ⟨f x rfl, by
    have := ffr_in (w := w) (A := []) (B := B) (ffr_tail h) (fun _ z => by cases z) g
    exact this⟩
  | x :: y :: A, B, h, f, g => ⟨h.1, ffr_in (A := y :: A) (B := B) h.2 (fun z hz => f z (by rw [List.getLast?_cons_cons]; exact hz)) g⟩
theorem ff_ffr : ∀ {L : List Cow}, Ff L → FfR L
  | [], _ => True.intro
  | [_], _ => True.intro
  | a :: b :: r, h => ⟨fun z => h _ ⟨[], r, a, b, rfl, z, rfl⟩, ff_ffr fun M s => h (a :: M) (by
    have := s.under [a] []
    simpa using this)⟩
theorem ffr_sorted : ∀ {L : List Cow}, FfR L → ((rowsOf L).map (·.1)).Pairwise (· ≤ ·)
  | [], _ => .nil
  | [a], _ => List.pairwise_singleton ..
  | a :: b :: r, h => by
    have ih := ffr_sorted h.2
    refine List.pairwise_cons.mpr ⟨fun x hx => ?_, ih⟩
    have hab : a.2.1 ≤ b.2.1 := by
      have := h.1
      omega
    rcases List.mem_cons.mp hx with rfl | hx
    · exact hab
    · have := (List.pairwise_cons.mp ih).1 x hx
      exact Int.le_trans hab this
theorem fsteps_ff {L M : List Cow} (h : FSteps L M) (n : Ff L) : M = L := by
  cases h with
  | refl => rfl
  | head s _ => exact (n _ s).elim
def spFallAll : Sp := fun vs H Q _ => ∃ (l sa ta : Addr) (N : List Cow) (S T : List Int) (who : Nat) (s0 t0 : Int), vs = [.ref l, .ref sa, .ref ta, .int (who : Int)] ∧ H l = some (.lst (idsV N)) ∧ H sa = some (.lst (S.map V.int)) ∧ H ta = some (.lst (T.map V.int)) ∧ l ≠ sa ∧ l ≠ ta ∧ sa ≠ ta ∧ Kept S T N ∧ S[who]? = some s0 ∧ T[who]? = some t0 ∧ (∀ x ∈ N, x.1 ≠ who ∧ 0 ≤ x.2.2) ∧ N.length ≤ 1000 ∧ FfR N ∧
  ∀ (A B : List Cow) (s : Int) H', N = A ++ B → FSteps ((who, (s0, t0)) :: N) (A ++ (who, (s, t0)) :: B) → FfR (A ++ (who, (s, t0)) :: B) → H' l = some (.lst (idsV (A ++ (who, (s, t0)) :: B))) → H' sa = some (.lst ((S.set who s).map V.int)) → ExB2 l sa H H' → Q .non H'
def spFirst (K : PySem.W.Frag) : Sp := fun vs H Q _ => ∃ (v : V) (rs : HH.Row), vs = [v] ∧ RowAt K H v rs ∧ rs.length ≤ 1000 ∧ (∀ b ∈ rs, 0 ≤ b.2) ∧ ∀ q H' (L : List Cow), Ex H H' → LastAt K H' q L → FSteps (tag 0 rs) L → FfR L → Q (.ref q) H'
def spBegunBy (K : PySem.W.Frag) : Sp := fun vs H Q _ => ∃ (v : V) (rs : HH.Row), vs = [v] ∧ RowAt K H v rs ∧ 0 < rs.length ∧ rs.length ≤ 30 ∧ (∀ b ∈ rs, 0 ≤ b.2) ∧ ∀ q H' (L : List Cow), Ex H H' → LastAt K H' q L → FSteps (tag 0 rs) L → L.length = rs.length → HH.fallG (rowsOf L) = [] → Q (.ref q) H'
/-- what wanders stays low -/
theorem mrun_low {rs : HH.Row} (h : ∀ b ∈ rs, Tame b) {L : List Cow} {ds : List Deed} (m : MRun (tag 0 rs) L ds) : ∀ x ∈ L, x.2.1.natAbs ≤ 10 ^ 12 * (1 + ds.length) ∧ 0 ≤ x.2.2 ∧ x.2.2 < 10 ^ 12 := by
  have e : (10 : Int) ^ 12 = 1000000000000 := by decide
  have e2 : (10 : Nat) ^ 12 = 1000000000000 := by decide
  rw [e, e2]
  induction m with
  | nil =>
    intro x hx
    have hb := h x.2 (by
      rw [← tag_snd 0 rs]
      exact List.mem_map_of_mem (f := (·.2)) hx)
    unfold Tame at hb
    rw [e] at hb
    simp only [List.length_nil]
    omega
  | @pass pre post a b ds _ hp ih =>
    have ia := ih a (by simp)
    have ib := ih b (by simp)
    intro x hx
    rw [List.length_append]
    simp only [List.length_cons, List.length_nil]
    rcases List.mem_append.mp hx with z | z
    · have := ih x (List.mem_append_left _ z)
      omega
    · rcases List.mem_cons.mp z with rfl | z
      · dsimp only
        omega
      · rcases List.mem_cons.mp z with rfl | z
        · omega
        · have := ih x (by simp [z])
          omega
  | @fall pre post a b ds _ hp ih =>
    have ia := ih a (by simp)
    have ib := ih b (by simp)
    intro x hx
    rw [List.length_append]
    simp only [List.length_cons, List.length_nil]
    rcases List.mem_append.mp hx with z | z
    · have := ih x (List.mem_append_left _ z)
      omega
    · rcases List.mem_cons.mp z with rfl | z
      · omega
      · rcases List.mem_cons.mp z with rfl | z
        · dsimp only
          omega
        · have := ih x (by simp [z])
          omega
theorem tag_snoc : ∀ (j : Nat) (rs : HH.Row) (b : Int × Int), tag j (rs ++ [b]) = tag j rs ++ [(j + rs.length, b)]
  | j, [], b => rfl
  | j, c :: r, b => by
    show (j, c) :: tag (j + 1) (r ++ [b]) = (j, c) :: (tag (j + 1) r ++ [(j + (r.length + 1), b)])
    rw [tag_snoc, show j + 1 + r.length = j + (r.length + 1) by omega]
theorem tag_take {rs : HH.Row} {k : Nat} {b : Int × Int} (h : rs[k]? = some b) : tag 0 (rs.take (k + 1)) = tag 0 (rs.take k) ++ [(k, b)] := by
  have hk := (List.getElem?_eq_some_iff.mp h).1
  rw [List.take_add_one, h]
  show tag 0 (rs.take k ++ [b]) = _
  rw [tag_snoc, List.length_take, Nat.zero_add, Nat.min_eq_left (by omega)]
section
variable {K : PySem.W.Frag} {σ : L2.St} {H : Hp} {D : Ends} {tz tu : TS}
theorem q_forRev {te : TE} {j n : Nat} (h : Ev te σ H (.int (n : Int))) (hn : n ≤ 100000) (Pv : Nat → L2.St → Hp → Prop) (h0 : ∀ H1, Ex H H1 → Pv 0 σ H1)
    (hs : ∀ i σ' H', i < n → Pv i σ' H' → tu { D with nx := Pv (i + 1), ct := Pv (i + 1), bk := tz D } (σ'.set j (some (.int ((n - 1 - i : Nat) : Int)))) H') (hd : ∀ σ' H', Pv n σ' H' → tz D σ' H') : tSeq (tFor (iRevR (tRg1 te)) (gName j) tu) tz D σ H :=
  h H (Ex.refl H) _ fun H1 e => ⟨(n : Int), rfl, by omega, by omega, by omega, by omega, by
    rw [show ((n : Int) - 0).toNat = n by omega]
    refine for_rangeC (D := { D with nx := tz D }) Pv (h0 H1 e) (fun i σ' H' hi p => ?_) hd
    rw [show (0 : Int) + ((n : Nat) : Int) - 1 + ((i : Nat) : Int) * (-1) = ((n - 1 - i : Nat) : Int) by omega]
    exact hs i σ' H' hi p⟩
end
theorem el_listRg {σ : L2.St} {H : Hp} {te : TE} {n : Nat} (h : Ev te σ H (.int (n : Int))) (hn : n ≤ 100000) : EvL (tLstRg (tRg1 te)) σ H (rgV 0 (n : Int)) := fun H1 e Q q =>
  h H1 e _ fun H2 e2 => ⟨(n : Int), rfl, RgOk.of_le (by decide) (by omega) (by decide) (by omega), fun p hp => q p _ (fresh_back e2 hp) (e2.trans (Ex.new hp)) upd_same⟩
theorem sorted_same : ∀ {xs ys : List Int}, xs.Perm ys → xs.Pairwise (· ≤ ·) → ys.Pairwise (· ≤ ·) → xs = ys := fun p h g => p.eq_of_pairwise (fun a b _ _ h1 h2 => Int.le_antisymm h1 h2) h g
theorem fallL_fallG (rs : HH.Row) : (HH.fallL rs).isEmpty = (HH.fallG rs).isEmpty := by
  rw [first_any]
  unfold HH.fallG
  rw [empty_any]
end HH
set_option maxHeartbeats 4000000
namespace PySem
open Sem (wp)
open AutoSeq1 (wpAny_loadPart')
theorem meets_enum_newT (t : Addr) (items : Array Value) (n : Nat) (dct : Option Addr) (sl : Array (Option Value)) :
    Meets (Builtin.«enumerate.__new__» ⟨[.type "enumerate", .ref t], []⟩) (fun _ R s => s.heap.get? t = some { cls := .type "tuple", dict := dct, data := .seq items n, slots := sl } ∧
      R (.ok (.ret (.ref (s.heap.push { cls := .type "tuple_iterator", data := .fields #[.ref t, .int 0 0] }).objs.size)))
        { s with heap := (s.heap.push { cls := .type "tuple_iterator", data := .fields #[.ref t, .int 0 0] }).push { cls := .type "enumerate", data := .fields #[.none, .bool false, .ref s.heap.objs.size, rawInt 0, .none, .none] } }) :=
  .of_wp fun prog w A R s h => by
    obtain ⟨hp, g, d, tk, os⟩ := s; obtain ⟨hl, h⟩ := h
    have hsub := sub_enumerate
    have hT : Heap.IsTuple (Shared.heap ⟨hp, g, d, tk, os⟩) t items := ⟨_, hl, rfl, n, rfl⟩
    wp_walk using wpAny_loadPart' hl
    refine wpAny_stack_any fun st => wpAny_pure ?_
    split
    · rename_i c _ _ _ _ _
      cases (c == Value.type "enumerate")
      · wp_walk using wpAny_loadPart' hl, wpAny_pyIter_tuple hT
        exact ⟨_, rfl, h⟩
      · wp_walk using wpAny_loadPart' hl, wpAny_pyIter_tuple hT
        exact ⟨_, rfl, h⟩
    · wp_walk using wpAny_loadPart' hl, wpAny_pyIter_tuple hT
      exact ⟨_, rfl, h⟩
section
variable {prog : Program} {w : World} {A : Around} {E : Value → Shared → Prop} {s : Shared}
theorem call_enum_tuple {t : Addr} {items : Array Value} {Q : Value → Shared → Prop} (hL : s.heap.IsTuple t items)
    (h : ∀ h', IsEnum h' (s.heap.objs.size + 1) s.heap.objs.size 0 .none → h'.IsTupleIter s.heap.objs.size t 0 → h'.objs.size = s.heap.objs.size + 2 →
      (∀ b o, s.heap.get? b = some o → h'.get? b = some o) → Q (.ref (s.heap.objs.size + 1)) { s with heap := h' }) :
    wpAny (model prog w) A (call (.type "enumerate") [.ref t]) Q E s := by
  obtain ⟨⟨c, dct, dt, sl⟩, hl, hc, n, hd⟩ := hL
  replace hc : c = .type "tuple" := hc
  replace hd : dt = .seq items n := hd
  subst hc hd
  refine callType_new F.called_enumerate (by decide) (F.typeCall_enumerate_1 _) (F.newCall_enumerate_1 _) (fun obj => F.args_object_init_2 obj _) F.entry_enumerate_new
    (meets_enum_newT t items n dct sl) ⟨hl, ?_⟩
  have hz : (s.heap.push { cls := .type "tuple_iterator", data := .fields #[.ref t, .int 0 0] }).objs.size = s.heap.objs.size + 1 := Heap.size_push ..
  show _ ∧ _
  rw [hz]
  have he : IsEnum ((s.heap.push { cls := .type "tuple_iterator", data := .fields #[.ref t, .int 0 0] }).push
      { cls := .type "enumerate", data := .fields #[.none, .bool false, .ref s.heap.objs.size, rawInt 0, .none, .none] }) (s.heap.objs.size + 1) s.heap.objs.size 0 .none := by
    have := Heap.get?_push_size (s.heap.push { cls := .type "tuple_iterator", data := .fields #[.ref t, .int 0 0] })
      (o := { cls := .type "enumerate", data := .fields #[.none, .bool false, .ref s.heap.objs.size, rawInt 0, .none, .none] }) rfl
    rw [hz] at this; exact this
  refine ⟨⟨_, he, rfl⟩, h _ he ⟨_, Heap.get?_push_of_some _ (Heap.get?_push_size _ rfl), rfl, rfl⟩ (by rw [Heap.size_push, hz]) fun b o x => Heap.get?_push_of_some _ (Heap.get?_push_of_some _ x)⟩
end
end PySem
namespace HH
open PySem PySem.Spec PyProof.Rows L2 Evl RZ
/-! ### enumerate(tuple) -/
def IteT (K : PySem.W.Frag) (a : Addr) : It :=
  ⟨fun i H => ∃ (xs : List V) (x : V), SqT K H a xs ∧ xs[i]? = some x, fun i H v H' => ∃ T x, v = .ref T ∧ H T = none ∧ H' = upd H T (.tup [.int (i : Nat), x]) ∧ ∀ xs, SqT K H a xs → xs[i]? = some x, fun i H => ∃ xs : List V, SqT K H a xs ∧ xs.length = i⟩
theorem turn_enumT {P : Program} {w : World} {K : PySem.W.Frag} {elts : List Expr} {kk : Nat} {tpos : Pos} (a e it : Addr) :
    Turn P w K (.Tuple elts kk tpos) (IteT K a) [e, it] e (fun i h => (∃ old, IsEnum h e it ((i : Nat) : Int) old) ∧ h.IsTupleIter it a i ∧ e ≠ it) where
  mem := by simp
  obj := fun i h st b hb => by
    obtain ⟨⟨old, he⟩, ⟨o, ho, hc, hd⟩, _⟩ := st
    have e' : b = e ∨ b = it := by simpa using hb
    rcases e' with z | z
    · rw [z]; exact ⟨_, he, fun v q => nomatch q⟩
    · rw [z]; exact ⟨o, ho, fun v q => by rw [hd] at q; cases q⟩
  keep := fun i h h' st k => let ⟨⟨old, he⟩, hi, hne⟩ := st; ⟨⟨old, k e (by simp) _ he⟩, hi.at fun o q => k it (by simp) o q, hne⟩
  item := by
    intro X hP hw hK hc i pins s σ H E I hf st hg
    subst hP hw hK
    obtain ⟨⟨old, he⟩, hit, hne⟩ := st
    obtain ⟨xs, x, hq, hx⟩ := hg
    obtain ⟨its, rv, p, hz⟩ := I.tuple hq
    obtain ⟨u, hu, ru⟩ := rv.get hx
    have hel : e < s.heap.objs.size := Heap.lt_size he
    have hil : it < s.heap.objs.size := by obtain ⟨_, q, _⟩ := hit; exact Heap.lt_size q
    have pT : s.heap.IsTuple a its.toArray := p
    have hHa : ∀ b ∈ [e, it], a ≠ b := fun b hb z => by
      obtain ⟨o, ho, hoc, _⟩ := (show s.heap.IsTuple a its.toArray from p)
      obtain ⟨o2, ho2, hc2, _⟩ := hit
      have e' : b = e ∨ b = it := by simpa using hb
      rcases e' with z' | z'
      · rw [z, z', he] at ho
        rw [← Option.some.inj ho] at hoc
        revert hoc
        simp
      · rw [z, z', ho2] at ho
        rw [← Option.some.inj ho, hc2] at hoc
        revert hoc
        simp
    have hae : a ≠ e := hHa e (by simp)
    have hai : a ≠ it := hHa it (by simp)
    have hlt : i < its.toArray.size := by
      have := (List.getElem?_eq_some_iff.mp hu).1
      simpa using this
    refine wpAny_pyNext_enum_itemD (Draws.tuple (A := X.A.in1) (I.ok.hd hc) it a hai its.toArray) he ⟨hit, pT⟩ hlt hne (by simp; exact ⟨hne, Ne.symm hae⟩) fun y h' tk hy ho hst hT hsz hk => ?_
    have hyu : y = u := by
      have : its.toArray[i]? = some u := by simpa using hu
      rw [hy] at this
      exact Option.some.inj this
    subst hyu
    obtain ⟨hit', _⟩ := hst
    refine ⟨_, rfl, wpAny_letOwnedTupleGo_enum (s := { s with heap := h', toks := tk + 1 }) ho fun h'' he' sb => ?_⟩
    have hT2 : h''.get? s.heap.objs.size = some { cls := .type "tuple", data := .seq #[.int i tk, y] } := (sb.2 _ (Nat.ne_of_gt hel)).trans hT
    have new : ObjOk X.prog X.w (upd H s.heap.objs.size (.tup [.int (i : Nat), x])) h'' s.heap.objs.size (.tup [.int (i : Nat), x]) :=
      ⟨by show 2 ≤ sizeLine; decide, [.int i tk, y], .cons ⟨_, rfl⟩ (.cons ru .nil), ⟨_, hT2, rfl, _, rfl⟩⟩
    have I1 : Inv X pins σ (upd H s.heap.objs.size (.tup [.int (i : Nat), x])) { s with heap := h'', toks := tk + 1 } :=
      I.turnedNew (ch := [e, it]) (fun b ob hb q => (sb.2 b (fun z => hb (by simp [z]))).trans (hk b ob (fun z => hb (by simp [z])) (fun z => hb (by simp [z])) q)) hf (Nat.le_refl _) new
    refine ⟨.ref s.heap.objs.size, _, I1, rfl, ⟨_, x, rfl, I.hok.fresh (Nat.le_refl _), rfl, fun ys hy => by rw [I.tuple_inj hy hq]; exact hx⟩, ⟨⟨y, ?_⟩, hit'.at fun o q => (sb.2 it (Ne.symm hne)).trans q, hne⟩, fun b hb => ?_⟩
    · have e1 : ((i + 1 : Nat) : Int) = (i : Int) + 1 := by omega
      rw [e1]; exact he'
    · have hb' : b < s.heap.objs.size := by
        have e' : b = e ∨ b = it := by simpa using hb
        rcases e' with z | z
        · rw [z]; exact hel
        · rw [z]; exact hil
      rw [upd_ne (Nat.ne_of_lt hb')]
      exact (hf b hb).1
  done := by
    intro X hP hw hK hc i pins s σ H E I hf st hg
    subst hP hw hK
    obtain ⟨⟨old, he⟩, hit, hne⟩ := st
    obtain ⟨xs, hq, hx⟩ := hg
    obtain ⟨its, rv, p, hz⟩ := I.tuple hq
    have hHa : ∀ b ∈ [e, it], a ≠ b := fun b hb z => by
      obtain ⟨o, ho, hoc, _⟩ := (show s.heap.IsTuple a its.toArray from p)
      obtain ⟨o2, ho2, hc2, _⟩ := hit
      have e' : b = e ∨ b = it := by simpa using hb
      rcases e' with z' | z'
      · rw [z, z', he] at ho
        rw [← Option.some.inj ho] at hoc
        revert hoc
        simp
      · rw [z, z', ho2] at ho
        rw [← Option.some.inj ho, hc2] at hoc
        revert hoc
        simp
    have hai : a ≠ it := hHa it (by simp)
    have pT : s.heap.IsTuple a its.toArray := p
    obtain ⟨f0, f1, f2, f3, f4, f5⟩ := hf it (by simp)
    have hl := rv.length
    have hn : its.toArray.size = i := by simp; omega
    exact wpAny_pyNext_enum_endD (Draws.tuple (A := X.A.in1) (I.ok.hd hc) it a hai its.toArray) he (by rw [hn]; exact ⟨hit, pT⟩) fun h' eb => ⟨rfl, I.turned (t' := s.toks) (fun b o hb q => eb b o hb q) f0 f1 f3 f4 f5⟩
  self := fun A i s Q E st h => let ⟨⟨_, he⟩, _⟩ := st; wpAny_pyIter_enum he h
def iEnumT (K : PySem.W.Frag) (ta : TA) : TI := fun σ H R => ta σ H fun vs H1 => ∃ a xs, vs = [.ref a] ∧ SqT K H1 a xs ∧ R (IteT K a) H1
theorem pi_enumT {X : Cx} {e : Expr} {ta : TA} {p pos tpos : Pos} {elts : List Expr} {kk : Nat} (hg : Gl X "enumerate") (hm : X.mg "enumerate" = none) (ha : PA X [e] ta) (hs : starEach [e] X.env = [(false, eval e X.env)] := by rfl) :
    PI X (.Tuple elts kk tpos) (.Call (.Name "enumerate" p) [e] [] pos) (iEnumT X.K ta) := by
  refine ⟨fun pins s σ H R I h => ?_⟩
  refine Call_ (ld_blt I hg hm boot_enumerate (PyProof.Rows.callWith_type1 (thn (ha.run pos pins s σ H _ I h) fun us s1 ⟨vs, H1, I1, r1, q1⟩ => ?_) hs rfl))
  obtain ⟨a, xs, ex, hq, q⟩ := q1
  subst ex
  cases r1 with
  | cons r rr =>
    cases rr
    cases r
    obtain ⟨its, rv, p', hz⟩ := I1.tuple hq
    refine call_enum_tuple (show s1.heap.IsTuple a its.toArray from p') fun h' he hit hsz hk => wpAny_pyIter_enum he ?_
    have I2 : Inv X pins σ H1 { s1 with heap := h' } := I1.kept (t' := s1.toks) hk
    refine ⟨s1.heap.objs.size + 1, [s1.heap.objs.size + 1, s1.heap.objs.size], _, _, H1, rfl, I2, turn_enumT a (s1.heap.objs.size + 1) s1.heap.objs.size, ⟨⟨.none, he⟩, hit, Nat.succ_ne_self _⟩, fun b hb => ?_, q⟩
    have e' : b = s1.heap.objs.size + 1 ∨ b = s1.heap.objs.size := by simpa using hb
    have hle : s1.heap.objs.size ≤ b := by
      rcases e' with z | z
      · rw [z]; exact Nat.le_add_right _ _
      · rw [z]; exact Nat.le_refl _
    exact I1.fpOk hle (I1.hok.fresh hle)
theorem walk_enumT {K : PySem.W.Frag} {a : Addr} {xs : List V} : Walk (IteT K a) xs.length (fun H => SqT K H a xs) (YPair (fun i => some (.int (i : Nat))) (fun i => xs[i]?)) := by
  refine ⟨fun i _ hi q => ⟨xs, xs[i], q, by simp [hi]⟩, fun _ q => ⟨xs, q, rfl⟩, fun i H v H' _ q y => ?_⟩
  obtain ⟨T, x, h1, h2, h3, h4⟩ := y
  exact ⟨T, .int (i : Nat), x, h1, h2, h3, rfl, h4 xs q⟩
end HH
set_option maxHeartbeats 4000000
namespace HH
open PySem PySem.Spec PyProof.Rows L2 Evl RZ
/-! ### whom passes whom: pairs turned about -/
/-- j stands ahead of i -/
def bef : List Nat → Nat → Nat → Bool
  | [], _, _ => false
  | x :: r, j, i => (decide (x = j) && decide (i ∈ r)) || bef r j i
theorem bef_cons {x : Nat} {r : List Nat} {j i : Nat} : bef (x :: r) j i = true ↔ (x = j ∧ i ∈ r) ∨ bef r j i = true := by
  simp [bef]
theorem bef_mem : ∀ {l : List Nat} {j i : Nat}, bef l j i = true → j ∈ l ∧ i ∈ l
  | [], _, _, h => by cases h
  | x :: r, j, i, h => by
    rcases bef_cons.mp h with ⟨rfl, h1⟩ | h1
    · exact ⟨List.mem_cons_self .., List.mem_cons_of_mem _ h1⟩
    · exact ⟨List.mem_cons_of_mem _ (bef_mem h1).1, List.mem_cons_of_mem _ (bef_mem h1).2⟩
theorem bef_swap {a b i j : Nat} {B : List Nat} (hab : a < b) (hij : i < j) : ∀ A : List Nat, bef (A ++ b :: a :: B) j i = true ↔ bef (A ++ a :: b :: B) j i = true ∨ (i = a ∧ j = b)
  | [] => by
    rw [List.nil_append, List.nil_append, bef_cons, bef_cons, bef_cons, bef_cons, List.mem_cons, List.mem_cons]
    constructor
    · rintro (⟨h1, h2 | h2⟩ | ⟨h1, h2⟩ | h)
      · exact .inr ⟨h2, h1.symm⟩
      · exact .inl (.inr (.inl ⟨h1, h2⟩))
      · exact .inl (.inl ⟨h1, .inr h2⟩)
      · exact .inl (.inr (.inr h))
    · rintro ((⟨h1, h2 | h2⟩ | ⟨h1, h2⟩ | h) | ⟨h1, h2⟩)
      · omega
      · exact .inr (.inl ⟨h1, h2⟩)
      · exact .inl ⟨h1, .inr h2⟩
      · exact .inr (.inr h)
      · exact .inl ⟨h2.symm, .inl h1⟩
  | x :: A => by
    rw [List.cons_append, List.cons_append, bef_cons, bef_cons, bef_swap hab hij A]
    have e : i ∈ A ++ b :: a :: B ↔ i ∈ A ++ a :: b :: B := by
      rw [List.mem_append, List.mem_append, List.mem_cons, List.mem_cons, List.mem_cons, List.mem_cons]
      constructor
      · rintro (h | h | h | h)
        · exact .inl h
        · exact .inr (.inr (.inl h))
        · exact .inr (.inl h)
        · exact .inr (.inr (.inr h))
      · rintro (h | h | h | h)
        · exact .inl h
        · exact .inr (.inr (.inl h))
        · exact .inr (.inl h)
        · exact .inr (.inr (.inr h))
    rw [e]
    constructor
    · rintro (h | h | h)
      · exact .inl (.inl h)
      · exact .inl (.inr h)
      · exact .inr h
    · rintro ((h | h) | h)
      · exact .inl h
      · exact .inr (.inl h)
      · exact .inr (.inr h)
theorem bef_lt : ∀ {l : List Nat} {p q j i : Nat}, l[p]? = some j → l[q]? = some i → p < q → bef l j i = true
  | [], p, q, j, i, h, _, _ => by cases h
  | x :: r, 0, 0, j, i, _, _, h => absurd h (Nat.lt_irrefl 0)
  | x :: r, 0, q + 1, j, i, h1, h2, _ => by
    have e : x = j := Option.some.inj h1
    exact bef_cons.mpr (.inl ⟨e, List.mem_of_getElem? (i := q) h2⟩)
  | x :: r, p + 1, 0, j, i, _, _, h => absurd h (Nat.not_lt_zero _)
  | x :: r, p + 1, q + 1, j, i, h1, h2, h => bef_cons.mpr (.inr (bef_lt (l := r) (p := p) (q := q) h1 h2 (by omega)))
theorem bef_get : ∀ {l : List Nat} {j i : Nat}, bef l j i = true → ∃ p q : Nat, p < q ∧ l[p]? = some j ∧ l[q]? = some i
  | [], _, _, h => by cases h
  | x :: r, j, i, h => by
    rcases bef_cons.mp h with ⟨rfl, h1⟩ | h1
    · obtain ⟨q, hq⟩ := List.getElem?_of_mem h1
      exact ⟨0, q + 1, by omega, rfl, hq⟩
    · obtain ⟨p, q, h2, h3, h4⟩ := bef_get h1
      exact ⟨p + 1, q + 1, by omega, h3, h4⟩
theorem nd_at {l : List Nat} (nd : l.Nodup) {p q j : Nat} (h1 : l[p]? = some j) (h2 : l[q]? = some j) : p = q := by
  have hp := (List.getElem?_eq_some_iff.mp h1).1
  exact (List.getElem?_inj hp nd).mp (h1.trans h2.symm)
theorem bef_iff {l : List Nat} (nd : l.Nodup) {p q j i : Nat} (h1 : l[p]? = some j) (h2 : l[q]? = some i) : bef l j i = decide (p < q) := by
  by_cases h : p < q
  · rw [decide_eq_true h]
    exact bef_lt h1 h2 h
  · rw [decide_eq_false h]
    cases hb : bef l j i with
    | false => rfl
    | true =>
      obtain ⟨p', q', h3, h4, h5⟩ := bef_get hb
      have := nd_at nd h1 h4
      have := nd_at nd h2 h5
      omega
def inP (l : List Nat) (i : Nat) (k : Nat) : Bool := bef l (i + 1 + k) i
def tabR (l : List Nat) (n i m : Nat) : List (Int × Int) := ((List.range m).filter (inP l i)).map fun k => ((i : Int), ((i + 1 + k : Nat) : Int))
/-- the pairs turned about, as they rise -/
def tab (l : List Nat) (n m : Nat) : List (Int × Int) := (List.range m).flatMap fun i => tabR l n i (n - (i + 1))
theorem tabR_succ (l : List Nat) (n i m : Nat) : tabR l n i (m + 1) = tabR l n i m ++ (if inP l i m = true then [((i : Int), ((i + 1 + m : Nat) : Int))] else []) := by
  unfold tabR
  rw [List.range_succ, List.filter_append, List.map_append]
  by_cases h : inP l i m = true
  · rw [if_pos h, List.filter_cons_of_pos h]
    rfl
  · rw [if_neg h, List.filter_cons_of_neg h]
    rfl
theorem tab_succ (l : List Nat) (n m : Nat) : tab l n (m + 1) = tab l n m ++ tabR l n m (n - (m + 1)) := by
  unfold tab
  rw [List.range_succ, List.flatMap_append]
  simp
theorem mem_tab {l : List Nat} {n : Nat} {p : Int × Int} : p ∈ tab l n n ↔ ∃ i j : Nat, i < j ∧ j < n ∧ p = ((i : Int), (j : Int)) ∧ bef l j i = true := by
  unfold tab tabR
  rw [List.mem_flatMap]
  constructor
  · rintro ⟨i, hi, h⟩
    obtain ⟨k, hk, rfl⟩ := List.mem_map.mp h
    obtain ⟨h1, h2⟩ := List.mem_filter.mp hk
    have h3 := List.mem_range.mp h1
    exact ⟨i, i + 1 + k, by omega, by omega, rfl, h2⟩
  · rintro ⟨i, j, h1, h2, rfl, h3⟩
    refine ⟨i, List.mem_range.mpr (by omega), List.mem_map.mpr ⟨j - (i + 1), List.mem_filter.mpr ⟨List.mem_range.mpr (by omega), ?_⟩, ?_⟩⟩
    · unfold inP
      rw [show i + 1 + (j - (i + 1)) = j by omega]
      exact h3
    · rw [show i + 1 + (j - (i + 1)) = j by omega]
def lexL (p q : Int × Int) : Prop := p.1 < q.1 ∨ (p.1 = q.1 ∧ p.2 < q.2)
theorem pw_tabR (l : List Nat) (n i m : Nat) : (tabR l n i m).Pairwise lexL := by
  unfold tabR
  rw [List.pairwise_map]
  refine List.Pairwise.filter _ ?_
  refine List.pairwise_lt_range.imp fun {a b} h => .inr ⟨rfl, ?_⟩
  show ((i + 1 + a : Nat) : Int) < ((i + 1 + b : Nat) : Int)
  omega
theorem pw_tab (l : List Nat) (n : Nat) : ∀ m, (tab l n m).Pairwise lexL
  | 0 => .nil
  | m + 1 => by
    rw [tab_succ]
    refine List.pairwise_append.mpr ⟨pw_tab l n m, pw_tabR l n m _, fun p hp q hq => ?_⟩
    obtain ⟨i, hi, h⟩ := List.mem_flatMap.mp hp
    obtain ⟨k, _, rfl⟩ := List.mem_map.mp h
    obtain ⟨k', _, rfl⟩ := List.mem_map.mp hq
    have := List.mem_range.mp hi
    exact .inl (by show (i : Int) < (m : Int); omega)
theorem lex_irr (p : Int × Int) : ¬ lexL p p := fun h => by
  rcases h with h | h
  · omega
  · omega
theorem nd_tab (l : List Nat) (n m : Nat) : (tab l n m).Nodup := (pw_tab l n m).imp fun {a b} h (e : a = b) => lex_irr b (by rw [e] at h; exact h)
/-! pairs of a run -/
structure Told (n : Nat) (l : List Nat) (ps : List (Int × Int)) : Prop where
  mem : ∀ p, p ∈ ps ↔ ∃ i j : Nat, i < j ∧ p = ((i : Int), (j : Int)) ∧ bef l j i = true
  nd : ps.Nodup
theorem told_swap {n a b : Nat} {A B : List Nat} {ps : List (Int × Int)} (t : Told n (A ++ a :: b :: B) ps) (hab : a < b) (nd : (A ++ a :: b :: B).Nodup) : Told n (A ++ b :: a :: B) (ps ++ [((a : Int), (b : Int))]) := by
  refine ⟨fun p => ?_, ?_⟩
  · rw [List.mem_append, List.mem_singleton, t.mem]
    constructor
    · rintro (⟨i, j, h1, h2, h3⟩ | rfl)
      · exact ⟨i, j, h1, h2, (bef_swap hab h1 A).mpr (.inl h3)⟩
      · exact ⟨a, b, hab, rfl, (bef_swap hab hab A).mpr (.inr ⟨rfl, rfl⟩)⟩
    · rintro ⟨i, j, h1, h2, h3⟩
      rcases (bef_swap hab h1 A).mp h3 with h4 | ⟨rfl, rfl⟩
      · exact .inl ⟨i, j, h1, h2, h4⟩
      · exact .inr h2
  · refine List.nodup_append.mpr ⟨t.nd, by simp, fun x hx y hy e => ?_⟩
    rw [List.mem_singleton] at hy
    subst e hy
    obtain ⟨i, j, h1, h2, h3⟩ := (t.mem _).mp hx
    have e1 : a = i := by
      have := congrArg Prod.fst h2
      have : (a : Int) = (i : Int) := this
      omega
    have e2 : b = j := by
      have := congrArg Prod.snd h2
      have : (b : Int) = (j : Int) := this
      omega
    subst e1 e2
    have g1 : (A ++ a :: b :: B)[A.length]? = some a := by simp
    have g2 : (A ++ a :: b :: B)[A.length + 1]? = some b := by
      rw [List.getElem?_append_right (by omega), show A.length + 1 - A.length = 1 by omega]
      rfl
    rw [bef_iff nd g2 g1] at h3
    have := of_decide_eq_true h3
    omega
theorem bef_range' : ∀ (k n : Nat) {j i : Nat}, bef (List.range' k n) j i = true → j < i
  | k, 0, _, _, h => by cases h
  | k, n + 1, j, i, h => by
    rw [List.range'_succ] at h
    rcases bef_cons.mp h with ⟨rfl, h1⟩ | h1
    · have := (List.mem_range'_1.mp h1).1
      omega
    · exact bef_range' _ n h1
theorem told_nil (n : Nat) : Told n (List.range n) [] := by
  refine ⟨fun p => ⟨(fun h => by cases h), ?_⟩, .nil⟩
  rintro ⟨i, j, h1, _, h2⟩
  rw [List.range_eq_range'] at h2
  have := bef_range' 0 n h2
  omega
theorem told_tab {n : Nat} {l : List Nat} {ps : List (Int × Int)} (t : Told n l ps) (hl : ∀ x ∈ l, x < n) : ps.Perm (tab l n n) := by
  refine (List.perm_ext_iff_of_nodup t.nd (nd_tab l n n)).mpr fun p => ?_
  rw [t.mem, mem_tab]
  constructor
  · rintro ⟨i, j, h1, h2, h3⟩
    exact ⟨i, j, h1, hl _ (bef_mem h3).1, h2, h3⟩
  · rintro ⟨i, j, h1, h2, h3, h4⟩
    exact ⟨i, j, h1, h3, h4⟩
end HH
set_option maxHeartbeats 4000000
namespace HH
open PySem PySem.Spec PyProof.Rows L2 Evl RZ
/-- any walk of n turns -/
theorem in_it {J : It} {n : Nat} {G : Hp → Prop} {Y : Nat → Hp → V → Hp → Prop} (w : Walk J n G Y) {Step : V → Hp → (Hp → Prop) → Prop} {H1 : Hp} {Qd : Hp → Prop} (Pv : Nat → Hp → Prop) (h0 : Pv 0 H1) (hG : ∀ i H, i ≤ n → Pv i H → G H)
    (hs : ∀ i x H H', i < n → Pv i H → Y i H x H' → Step x H' (Pv (i + 1))) (hd : ∀ H, Pv n H → Qd H) :
    ∃ W : Nat → Nat → Hp → Prop, (∃ m, W 0 m H1) ∧ ∀ i m H, W i m H →
      (J.stop i H ∧ Qd H) ∨ (J.go i H ∧ ∃ Nx : Hp → Prop, (∀ H', Nx H' → ∃ m', m' < m ∧ W (i + 1) m' H') ∧ ∀ x H', J.yld i H x H' → Step x H' Nx) := by
  refine ⟨fun i m H => m = n - i ∧ i ≤ n ∧ Pv i H, ⟨n, by simp, Nat.zero_le _, h0⟩, ?_⟩
  rintro i m H ⟨rfl, hi, p⟩
  have q := hG i H hi p
  by_cases hlt : i < n
  · refine .inr ⟨w.goes i H hlt q, Pv (i + 1), fun H' p' => ⟨n - (i + 1), by omega, rfl, hlt, p'⟩, fun x H' y => hs i x H H' hlt p (w.yields i H x H' hlt q y)⟩
  · have e : i = n := by omega
    subst e
    exact .inl ⟨w.stops H q, hd H p⟩
/-! a run's pairs, told -/
theorem PRun.told {rs : HH.Row} {L : List Cow} {ps : List (Int × Int)} (r : PRun (tag 0 rs) L ps) (ht : ∀ b ∈ rs, 0 ≤ b.2) : Told rs.length (L.map (·.1)) ps ∧ Facts rs.length L ps ∧ PInv L := by
  induction r with
  | nil =>
    refine ⟨?_, facts_tag ht, pinv_tag 0 rs⟩
    have e : (tag 0 rs).map (·.1) = List.range rs.length := by
      rw [tag_fst]
      have e : (fun x => 0 + x) = (id : Nat → Nat) := by
        funext x
        exact Nat.zero_add x
      rw [e, List.map_id]
    rw [e]
    exact told_nil _
  | step r hp ih =>
    rename_i pre post a b ps
    obtain ⟨t, f, i⟩ := ih
    have hab := pinv_lt i hp (nd_ne f.nd)
    obtain ⟨f1, f2, f3⟩ := facts_pass (q := ((a.1 : Int), (b.1 : Int))) f i hp
    refine ⟨?_, f1, f2⟩
    have e1 : (pre ++ a :: b :: post).map (·.1) = pre.map (·.1) ++ a.1 :: b.1 :: post.map (·.1) := by simp
    have e2 : (pre ++ (b.1, (b.2.1 - a.2.2, b.2.2)) :: a :: post).map (·.1) = pre.map (·.1) ++ b.1 :: a.1 :: post.map (·.1) := by simp
    have nd := f.nd
    rw [e1] at t nd
    rw [e2]
    exact told_swap t hab nd
theorem FRun.told {rs : HH.Row} {L : List Cow} {ps : List (Int × Int)} (r : FRun (tag 0 rs) L ps) (ht : ∀ b ∈ rs, 0 ≤ b.2) : Told rs.length (L.map (·.1)) ps ∧ Facts rs.length L ps ∧ FInv L := by
  induction r with
  | nil =>
    refine ⟨?_, facts_tag ht, finv_tag 0 rs⟩
    have e : (tag 0 rs).map (·.1) = List.range rs.length := by
      rw [tag_fst]
      have e : (fun x => 0 + x) = (id : Nat → Nat) := by
        funext x
        exact Nat.zero_add x
      rw [e, List.map_id]
    rw [e]
    exact told_nil _
  | step r hp ih =>
    rename_i pre post a b ps
    obtain ⟨t, f, i⟩ := ih
    have hab := finv_lt i hp (nd_ne f.nd)
    obtain ⟨f1, f2, f3⟩ := facts_fall (q := ((a.1 : Int), (b.1 : Int))) f i hp
    refine ⟨?_, f1, f2⟩
    have e1 : (pre ++ a :: b :: post).map (·.1) = pre.map (·.1) ++ a.1 :: b.1 :: post.map (·.1) := by simp
    have e2 : (pre ++ b :: (a.1, (a.2.1 + b.2.2, a.2.2)) :: post).map (·.1) = pre.map (·.1) ++ b.1 :: a.1 :: post.map (·.1) := by simp
    have nd := f.nd
    rw [e1] at t nd
    rw [e2]
    exact told_swap t hab nd
/-! the same beasts -/
theorem Step.ids {L M : List Cow} (h : Step L M) : (M.map (·.1)).Perm (L.map (·.1)) := by
  obtain ⟨pre, post, a, b, rfl, _, rfl⟩ := h
  rw [List.map_append, List.map_append]
  exact List.Perm.append_left _ (List.Perm.swap ..)
theorem FStep.ids {L M : List Cow} (h : FStep L M) : (M.map (·.1)).Perm (L.map (·.1)) := by
  obtain ⟨pre, post, a, b, rfl, _, rfl⟩ := h
  rw [List.map_append, List.map_append]
  exact List.Perm.append_left _ (List.Perm.swap ..)
theorem Steps.ids {L M : List Cow} (h : Steps L M) : (M.map (·.1)).Perm (L.map (·.1)) := by
  induction h with
  | refl => exact .refl _
  | head s _ ih => exact ih.trans s.ids
theorem FSteps.ids {L M : List Cow} (h : FSteps L M) : (M.map (·.1)).Perm (L.map (·.1)) := by
  induction h with
  | refl => exact .refl _
  | head s _ ih => exact ih.trans s.ids
theorem tag_ids (rs : HH.Row) : (tag 0 rs).map (·.1) = List.range rs.length := by
  rw [tag_fst]
  have e : (fun x => 0 + x) = (id : Nat → Nat) := by
    funext x
    exact Nat.zero_add x
  rw [e, List.map_id]
/-! places by a dict -/
def natsV (l : List Nat) : List V := l.map fun (x : Nat) => V.int (x : Int)
theorem ordL_nats (L : List Cow) : ordL L = natsV (L.map (·.1)) := by
  unfold ordL natsV
  rw [List.map_map]
  rfl
structure PlacesD (l : List Nat) (k : Nat) (kvs : List (Key × V)) : Prop where
  at' : ∀ i x : Nat, i < k → l[i]? = some x → valV kvs (.inl (x : Int)) = some (.int (i : Int))
  few : kvs.length ≤ k
theorem PlacesD.put {l : List Nat} (nd : l.Nodup) {k x : Nat} {kvs : List (Key × V)} (h : PlacesD l k kvs) (hx : l[k]? = some x) : PlacesD l (k + 1) (putK kvs (.inl (x : Int)) (.int (k : Int))) := by
  refine ⟨fun i y hi hy => ?_, ?_⟩
  · rw [valV_put]
    by_cases e : y = x
    · subst e
      have := nd_at nd hy hx
      subst this
      rw [if_pos rfl]
    · rw [if_neg (fun z => e (by
        have z' : (y : Int) = (x : Int) := Sum.inl.inj z
        omega))]
      refine h.at' i y ?_ hy
      rcases Nat.lt_or_ge i k with h1 | h1
      · exact h1
      · have h2 : i = k := by omega
        subst h2
        rw [hx] at hy
        exact absurd (Option.some.inj hy).symm e
  · have := length_putK kvs (.inl (x : Int)) (.int (k : Int))
    have := h.few
    omega
theorem room_u1 {k : Nat} {A : Around} (r : Room k A) : A.units + 1 < cLine := by
  have := r.un
  omega
theorem ev_lenT {K : PySem.W.Frag} {ta : TE} {σ : L2.St} {H : Hp} {a : Addr} {xs : List V} (h : Ev ta σ H (.ref a)) (hr : SqT K H a xs) : Ev (tCB (rLenS K) (tCons ta tNil)) σ H (.int (xs.length : Int)) := fun H1 e Q q => h H1 e _ fun H2 e2 => ⟨a, xs, rfl, Or.inr (ex_t (e.trans e2) hr), q H2 e2⟩
theorem ev_dget {td ty : TE} {σ : L2.St} {H : Hp} {a : Addr} {kvs : List (Key × V)} {k : Key} {v : V} (hd : Ev td σ H (.ref a)) (hy : Ev ty σ H (kV k)) (h : H a = some (.dK kvs)) (hv : valV kvs k = some v) : Ev (tDGet td ty) σ H v := fun H1 e Q q =>
  hd H1 e _ fun H2 e2 => hy H2 (e.trans e2) _ fun H3 e3 => ⟨a, v, rfl, by rw [← hv]; exact DGet.k (((e.trans e2).trans e3) _ _ h), q H3 (e2.trans e3)⟩
theorem tabR_len (l : List Nat) (n i m : Nat) : (tabR l n i m).length ≤ m := by
  unfold tabR
  rw [List.length_map]
  have := List.length_filter_le (inP l i) (List.range m)
  rw [List.length_range] at this
  exact this
theorem tab_len (l : List Nat) (n : Nat) : ∀ m, (tab l n m).length ≤ m * n
  | 0 => by
    show ([] : List (Int × Int)).length ≤ 0 * n
    simp
  | m + 1 => by
    rw [tab_succ, List.length_append, Nat.succ_mul]
    have := tab_len l n m
    have := tabR_len l n m (n - (m + 1))
    omega
theorem i_rng2 {ta : TA} {σ : L2.St} {H : Hp} {R : It → Hp → Prop} {i j : Int} (h : EvA ta σ H [.int i, .int j]) (b : -(2 ^ 62) ≤ i ∧ i < 2 ^ 62 ∧ -(2 ^ 62) ≤ j ∧ j < 2 ^ 62) (k : ∀ H1, Ex H H1 → R (Itr i (j - i).toNat) H1) : iRng2 ta σ H R := h H (Ex.refl H) _ fun H1 e => ⟨i, j, rfl, b, k H1 e⟩
theorem t_ev {t : TT} {σ : L2.St} {H : Hp} {b : Bool} {Q : Bool → Hp → Prop} (h : EvT t σ H b) (k : ∀ H1, Ex H H1 → Q b H1) : t σ H Q := h H (Ex.refl H) _ k
theorem t_yes {σ : L2.St} {H : Hp} {Q R : Hp → Prop} (h : Q H) : tYes σ H (fun b H1 => if b = true then Q H1 else R H1) := by
  show if true = true then Q H else R H
  rw [if_pos rfl]
  exact h
/-- turned_about -/
def spTurned (K : PySem.W.Frag) : Sp := fun vs H Q _ => ∃ (o : Addr) (l : List Nat), vs = [.ref o] ∧ SqT K H o (natsV l) ∧ l.Nodup ∧ (∀ x, x < l.length → x ∈ l) ∧ l.length ≤ 30 ∧
  ∀ (q : Addr) (us : List V) (H' : Hp), H q = none → Ex H H' → H' q = some (.lst us) → Beasts K H' us (tab l l.length l.length) → Q (.ref q) H'
def spPairs (K : PySem.W.Frag) (M : List Cow → List Cow → Prop) : Sp := fun vs H Q _ => ∃ (v : V) (rs : HH.Row), vs = [v] ∧ RowAt K H v rs ∧ rs.length ≤ 30 ∧ (∀ b ∈ rs, 0 ≤ b.2) ∧
  ∀ (q : Addr) (us : List V) (L : List Cow) (H' : Hp), M (tag 0 rs) L → H q = none → Ex H H' → H' q = some (.lst us) → Beasts K H' us (tab (L.map (·.1)) rs.length rs.length) → Q (.ref q) H'
def toLast (L M : List Cow) : Prop := Steps L M ∧ NfR M
def toFirst (L M : List Cow) : Prop := FSteps L M ∧ FfR M
end HH
set_option maxHeartbeats 4000000
namespace HH
open PySem PySem.Spec PyProof.Rows L2 Evl RZ
/-! ### who falls back undoes a passing -/
theorem step_back {L M : List Cow} (h : Step L M) : FStep M L := by
  obtain ⟨pre, post, a, b, rfl, hp, rfl⟩ := h
  refine ⟨pre, post, _, a, rfl, hp, ?_⟩
  obtain ⟨bi, bs, bt⟩ := b
  show pre ++ a :: (bi, (bs, bt)) :: post = pre ++ a :: (bi, (bs - a.2.2 + a.2.2, bt)) :: post
  rw [Int.sub_add_cancel]
theorem fstep_back {L M : List Cow} (h : FStep L M) : Step M L := by
  obtain ⟨pre, post, a, b, rfl, hp, rfl⟩ := h
  refine ⟨pre, post, b, _, rfl, ?_, ?_⟩
  · show a.2.1 + b.2.2 - b.2.2 > b.2.1
    omega
  · obtain ⟨ai, as, at'⟩ := a
    show pre ++ (ai, (as, at')) :: b :: post = pre ++ (ai, (as + b.2.2 - b.2.2, at')) :: b :: post
    rw [Int.add_sub_cancel]
theorem FSteps.back {L M : List Cow} (h : FSteps L M) : Steps M L := by
  induction h with
  | refl => exact .refl _
  | head s _ ih => exact ih.snoc (fstep_back s)
theorem Steps.back {L M : List Cow} (h : Steps L M) : FSteps M L := by
  induction h with
  | refl => exact .refl _
  | head s _ ih => exact ih.snoc (step_back s)
/-! ### other names -/
def rl (f : Nat → Nat) (x : Cow) : Cow := (f x.1, x.2)
def rlL (f : Nat → Nat) (L : List Cow) : List Cow := L.map (rl f)
theorem rl_rows (f : Nat → Nat) (L : List Cow) : rowsOf (rlL f L) = rowsOf L := by
  unfold rowsOf rlL
  rw [List.map_map]
  rfl
theorem rl_ids (f : Nat → Nat) (L : List Cow) : (rlL f L).map (·.1) = (L.map (·.1)).map f := by
  unfold rlL
  rw [List.map_map, List.map_map]
  rfl
theorem Step.map {L M : List Cow} (f : Nat → Nat) (h : Step L M) : Step (rlL f L) (rlL f M) := by
  obtain ⟨pre, post, a, b, rfl, hp, rfl⟩ := h
  exact ⟨rlL f pre, rlL f post, rl f a, rl f b, by simp [rlL], hp, by simp [rlL, rl]⟩
theorem Step.unmap {f : Nat → Nat} {L0 M : List Cow} (h : Step (rlL f L0) M) : ∃ M0, Step L0 M0 ∧ M = rlL f M0 := by
  obtain ⟨pre, post, a, b, h1, hp, rfl⟩ := h
  obtain ⟨p0, r0, rfl, rfl, h2⟩ := List.map_eq_append_iff.mp h1
  obtain ⟨a0, r1, rfl, rfl, h3⟩ := List.map_eq_cons_iff.mp h2
  obtain ⟨b0, r2, rfl, rfl, rfl⟩ := List.map_eq_cons_iff.mp h3
  exact ⟨_, ⟨p0, r2, a0, b0, rfl, hp, rfl⟩, by simp [rlL, rl]⟩
theorem FStep.map {L M : List Cow} (f : Nat → Nat) (h : FStep L M) : FStep (rlL f L) (rlL f M) := step_back ((fstep_back h).map f)
theorem Steps.map {L M : List Cow} (f : Nat → Nat) (h : Steps L M) : Steps (rlL f L) (rlL f M) := by
  induction h with
  | refl => exact .refl _
  | head s _ ih => exact .head (s.map f) ih
theorem FSteps.map {L M : List Cow} (f : Nat → Nat) (h : FSteps L M) : FSteps (rlL f L) (rlL f M) := by
  induction h with
  | refl => exact .refl _
  | head s _ ih => exact .head (s.map f) ih
theorem FStep.unmap {f : Nat → Nat} {L0 M : List Cow} (h : FStep (rlL f L0) M) : ∃ M0, FStep L0 M0 ∧ M = rlL f M0 := by
  obtain ⟨pre, post, a, b, h1, hp, rfl⟩ := h
  obtain ⟨p0, r0, rfl, rfl, h2⟩ := List.map_eq_append_iff.mp h1
  obtain ⟨a0, r1, rfl, rfl, h3⟩ := List.map_eq_cons_iff.mp h2
  obtain ⟨b0, r2, rfl, rfl, rfl⟩ := List.map_eq_cons_iff.mp h3
  exact ⟨_, ⟨p0, r2, a0, b0, rfl, hp, rfl⟩, by simp [rlL, rl]⟩
theorem Steps.unmap {f : Nat → Nat} {L M : List Cow} (h : Steps L M) : ∀ {L0 : List Cow}, L = rlL f L0 → ∃ M0, Steps L0 M0 ∧ M = rlL f M0 := by
  induction h with
  | refl => exact fun e => ⟨_, .refl _, e⟩
  | head s _ ih =>
    intro L0 e
    subst e
    obtain ⟨M1, s1, e1⟩ := s.unmap
    obtain ⟨M0, s0, e0⟩ := ih e1
    exact ⟨M0, .head s1 s0, e0⟩
theorem FSteps.unmap {f : Nat → Nat} {L M : List Cow} (h : FSteps L M) : ∀ {L0 : List Cow}, L = rlL f L0 → ∃ M0, FSteps L0 M0 ∧ M = rlL f M0 := by
  induction h with
  | refl => exact fun e => ⟨_, .refl _, e⟩
  | head s _ ih =>
    intro L0 e
    subst e
    obtain ⟨M1, s1, e1⟩ := s.unmap
    obtain ⟨M0, s0, e0⟩ := ih e1
    exact ⟨M0, .head s1 s0, e0⟩
theorem nf_un {f : Nat → Nat} {L : List Cow} (h : Nf (rlL f L)) : Nf L := fun M s => h _ (s.map f)
theorem ff_un {f : Nat → Nat} {L : List Cow} (h : Ff (rlL f L)) : Ff L := fun M s => h _ (s.map f)
theorem nf_map {f : Nat → Nat} {L : List Cow} (h : Nf L) : Nf (rlL f L) := fun M s => by
  obtain ⟨M0, s0, _⟩ := s.unmap
  exact h _ s0
theorem ff_map {f : Nat → Nat} {L : List Cow} (h : Ff L) : Ff (rlL f L) := fun M s => by
  obtain ⟨M0, s0, _⟩ := s.unmap
  exact h _ s0
/-- whom of l stands where -/
def ixN (l : List Nat) (i : Nat) : Nat := (l[i]?).getD 0
theorem tag_at : ∀ (k i : Nat) (rs : HH.Row), (tag k rs)[i]? = (rs[i]?).map fun b => (k + i, b)
  | _, _, [] => rfl
  | k, 0, b :: r => rfl
  | k, i + 1, b :: r => by
    show (tag (k + 1) r)[i]? = (r[i]?).map _
    rw [tag_at (k + 1) i r]
    rw [show k + 1 + i = k + (i + 1) by omega]
theorem rl_tag (L : List Cow) : rlL (ixN (L.map (·.1))) (tag 0 (rowsOf L)) = L := by
  refine List.ext_getElem? fun i => ?_
  unfold rlL
  rw [List.getElem?_map, tag_at]
  unfold rowsOf
  rw [List.getElem?_map]
  cases h : L[i]? with
  | none => rfl
  | some x =>
    show some (rl (ixN (L.map (·.1))) (0 + i, x.2)) = some x
    unfold rl ixN
    rw [Nat.zero_add, List.getElem?_map, h]
    rfl
theorem tolls_rows {L : List Cow} (h : ∀ x ∈ L, 0 ≤ x.2.2) : ∀ b ∈ rowsOf L, 0 ≤ b.2 := fun b hb => by
  obtain ⟨x, hx, rfl⟩ := List.mem_map.mp hb
  exact h x hx
theorem nf_any {L N N' : List Cow} (ht : ∀ x ∈ L, 0 ≤ x.2.2) (s : Steps L N) (n : Nf N) (s' : Steps L N') (n' : Nf N') : N = N' := by
  obtain ⟨M, t, rfl⟩ := s.unmap (rl_tag L).symm
  obtain ⟨M', t', rfl⟩ := s'.unmap (rl_tag L).symm
  rw [one_nf _ (good_tag (tolls_rows ht)) (Nat.le_refl _) t (nf_un n) t' (nf_un n')]
theorem ff_any {L N N' : List Cow} (ht : ∀ x ∈ L, 0 ≤ x.2.2) (s : FSteps L N) (n : Ff N) (s' : FSteps L N') (n' : Ff N') : N = N' := by
  obtain ⟨M, t, rfl⟩ := s.unmap (rl_tag L).symm
  obtain ⟨M', t', rfl⟩ := s'.unmap (rl_tag L).symm
  rw [one_ff _ (fgood_tag (tolls_rows ht)) (Nat.le_refl _) t (ff_un n) t' (ff_un n')]
theorem nf_is {L : List Cow} (ht : ∀ x ∈ L, 0 ≤ x.2.2) : ∃ N, Steps L N ∧ Nf N := by
  obtain ⟨N, s, n⟩ := some_nf _ (good_tag (tolls_rows ht)) (Nat.le_refl _)
  have s' := s.map (ixN (L.map (·.1)))
  rw [rl_tag] at s'
  exact ⟨_, s', nf_map n⟩
theorem ff_is {L : List Cow} (ht : ∀ x ∈ L, 0 ≤ x.2.2) : ∃ N, FSteps L N ∧ Ff N := by
  obtain ⟨N, s, n⟩ := some_ff _ (fgood_tag (tolls_rows ht)) (Nat.le_refl _)
  have s' := s.map (ixN (L.map (·.1)))
  rw [rl_tag] at s'
  exact ⟨_, s', ff_map n⟩
theorem step_tl {L M : List Cow} (h : Step L M) (ht : ∀ x ∈ L, 0 ≤ x.2.2) : ∀ x ∈ M, 0 ≤ x.2.2 := by
  obtain ⟨pre, post, a, b, rfl, hp, rfl⟩ := h
  intro x hx
  simp only [List.mem_append, List.mem_cons] at hx
  rcases hx with h | h | h | h
  · exact ht x (by simp [h])
  · subst h
    exact ht b (by simp)
  · exact ht x (by simp [h])
  · exact ht x (by simp [h])
theorem fstep_tl {L M : List Cow} (h : FStep L M) (ht : ∀ x ∈ L, 0 ≤ x.2.2) : ∀ x ∈ M, 0 ≤ x.2.2 := by
  obtain ⟨pre, post, a, b, rfl, hp, rfl⟩ := h
  intro x hx
  simp only [List.mem_append, List.mem_cons] at hx
  rcases hx with h | h | h | h
  · exact ht x (by simp [h])
  · exact ht x (by simp [h])
  · subst h
    exact ht a (by simp)
  · exact ht x (by simp [h])
theorem Steps.tl {L M : List Cow} (h : Steps L M) (ht : ∀ x ∈ L, 0 ≤ x.2.2) : ∀ x ∈ M, 0 ≤ x.2.2 := by
  induction h with
  | refl => exact ht
  | head s _ ih => exact ih (step_tl s ht)
theorem FSteps.tl {L M : List Cow} (h : FSteps L M) (ht : ∀ x ∈ L, 0 ≤ x.2.2) : ∀ x ∈ M, 0 ≤ x.2.2 := by
  induction h with
  | refl => exact ht
  | head s _ ih => exact ih (fstep_tl s ht)
/-- deeds of both kinds lead to no other ends -/
theorem ends_fstep {L M E : List Cow} (ht : ∀ x ∈ L, 0 ≤ x.2.2) (s : FStep L M) (h : FSteps L E) (n : Ff E) : FSteps M E := by
  obtain ⟨N, s1, n1⟩ := ff_is (fstep_tl s ht)
  rw [ff_any ht h n (.head s s1) n1]
  exact s1
theorem ends_step {L M E : List Cow} (ht : ∀ x ∈ L, 0 ≤ x.2.2) (s : Step L M) (h : Steps L E) (n : Nf E) : Steps M E := by
  obtain ⟨N, s1, n1⟩ := nf_is (step_tl s ht)
  rw [nf_any ht h n (.head s s1) n1]
  exact s1
theorem MRun.both {L0 L E B : List Cow} {ds : List Deed} (r : MRun L0 L ds) (ht : ∀ x ∈ L0, 0 ≤ x.2.2) (hE : Steps L0 E) (nE : Nf E) (hB : FSteps L0 B) (nB : Ff B) : (∀ x ∈ L, 0 ≤ x.2.2) ∧ Steps L E ∧ FSteps L B := by
  induction r with
  | nil => exact ⟨ht, hE, hB⟩
  | pass r hp ih =>
    rename_i pre post a b ds
    have s : Step (pre ++ a :: b :: post) (pre ++ (b.1, (b.2.1 - a.2.2, b.2.2)) :: a :: post) := ⟨_, _, _, _, rfl, hp, rfl⟩
    exact ⟨step_tl s ih.1, ends_step ih.1 s ih.2.1 nE, .head (step_back s) ih.2.2⟩
  | fall r hp ih =>
    rename_i pre post a b ds
    have s : FStep (pre ++ a :: b :: post) (pre ++ b :: (a.1, (a.2.1 + b.2.2, a.2.2)) :: post) := ⟨_, _, _, _, rfl, hp, rfl⟩
    exact ⟨fstep_tl s ih.1, .head (fstep_back s) ih.2.1, ends_fstep ih.1 s ih.2.2 nB⟩
theorem Steps.firsts {L M B : List Cow} (h : Steps L M) (hB : FSteps L B) : FSteps M B := h.back.trans hB
theorem FSteps.lasts {L M E : List Cow} (h : FSteps L M) (hE : Steps L E) : Steps M E := h.back.trans hE
end HH
set_option maxHeartbeats 4000000
namespace HH
open PySem PySem.Spec PyProof.Rows L2 Evl RZ
/-! ### each pair just once, behind or to come -/
theorem bef_stays {L M : List Cow} (g : Good L) (h : Steps L M) : ∀ {p q : Nat}, p < q → bef (L.map (·.1)) q p = true → bef (M.map (·.1)) q p = true := by
  induction h with
  | refl => exact fun _ h => h
  | head s _ ih =>
    intro p q hpq hb
    refine ih (g.step s).1 hpq ?_
    obtain ⟨pre, post, a, b, rfl, hp, rfl⟩ := s
    have hab := pinv_lt g.iv hp (nd_ne g.nd)
    have e1 : (pre ++ a :: b :: post).map (·.1) = pre.map (·.1) ++ a.1 :: b.1 :: post.map (·.1) := by simp
    have e2 : (pre ++ (b.1, (b.2.1 - a.2.2, b.2.2)) :: a :: post).map (·.1) = pre.map (·.1) ++ b.1 :: a.1 :: post.map (·.1) := by simp
    rw [e1] at hb
    rw [e2]
    exact (bef_swap hab hpq _).mpr (.inl hb)
theorem bef_map {f : Nat → Nat} {j i : Nat} : ∀ {l : List Nat}, (∀ x ∈ l, f x = f j → x = j) → (∀ x ∈ l, f x = f i → x = i) → (bef (l.map f) (f j) (f i) = true ↔ bef l j i = true)
  | [], _, _ => Iff.rfl
  | x :: r, h1, h2 => by
    rw [List.map_cons, bef_cons, bef_cons, bef_map (l := r) (fun x hx => h1 x (List.mem_cons_of_mem _ hx)) (fun x hx => h2 x (List.mem_cons_of_mem _ hx))]
    have e1 : f x = f j ↔ x = j := ⟨h1 x (List.mem_cons_self ..), fun e => by rw [e]⟩
    have e2 : f i ∈ r.map f ↔ i ∈ r := by
      constructor
      · intro h
        obtain ⟨y, hy, e⟩ := List.mem_map.mp h
        rw [← h2 y (List.mem_cons_of_mem _ hy) e]
        exact hy
      · exact fun h => List.mem_map_of_mem h
    rw [e1, e2]
theorem bef_asym {l : List Nat} (nd : l.Nodup) {j i : Nat} (h : bef l j i = true) : bef l i j = false := by
  obtain ⟨p, q, h1, h2, h3⟩ := bef_get h
  rw [bef_iff nd h3 h2, decide_eq_false]
  omega
theorem bef_tot {l : List Nat} {j i : Nat} (hj : j ∈ l) (hi : i ∈ l) (hne : j ≠ i) (h : bef l j i = false) : bef l i j = true := by
  obtain ⟨p, hp⟩ := List.getElem?_of_mem hj
  obtain ⟨q, hq⟩ := List.getElem?_of_mem hi
  rcases Nat.lt_trichotomy p q with h1 | h1 | h1
  · rw [bef_lt hp hq h1] at h
    cases h
  · subst h1
    rw [hp] at hq
    exact absurd (Option.some.inj hq) hne
  · exact bef_lt hq hp h1
theorem bef_range {n j i : Nat} (hj : j < i) (hi : i < n) : bef (List.range n) j i = true := by
  refine bef_lt (p := j) (q := i) ?_ ?_ hj
  · rw [List.getElem?_range (by omega)]
  · rw [List.getElem?_range hi]
theorem ixN_at {l : List Nat} {p : Nat} (h : p < l.length) : l[p]? = some (ixN l p) := by
  unfold ixN
  rw [List.getElem?_eq_getElem h]
  rfl
theorem ixN_inj {l : List Nat} (nd : l.Nodup) {p q : Nat} (hp : p < l.length) (hq : q < l.length) (h : ixN l p = ixN l q) : p = q := by
  have h1 := ixN_at hp
  rw [h] at h1
  exact nd_at nd h1 (ixN_at hq)
/-- what stands between a first row and its last: L1 the first, T the row, L2 the last, Y the last by places of the first -/
structure Thru (n : Nat) (l1 l2 y : List Nat) : Prop where
  p1 : l1.Perm (List.range n)
  p2 : l2.Perm (List.range n)
  py : y.Perm (List.range n)
  e : l2 = y.map (ixN l1)
  no : ∀ {a b : Nat}, a < b → bef l1 b a = true → bef l2 b a = true → False
theorem thru {rs : HH.Row} {L1 L2 Y : List Cow} (ht : ∀ b ∈ rs, 0 ≤ b.2) (h1 : FSteps (tag 0 rs) L1) (h2 : Steps (tag 0 rs) L2) (n2 : Nf L2) (hY : Steps (tag 0 (rowsOf L1)) Y) (nY : Nf Y) : Thru rs.length (L1.map (·.1)) (L2.map (·.1)) (Y.map (·.1)) ∧ L2 = rlL (ixN (L1.map (·.1))) Y := by
  have t0 : ∀ x ∈ tag 0 rs, 0 ≤ x.2.2 := (good_tag ht).tl
  have t1 := h1.tl t0
  have g1 : Good (tag 0 (rowsOf L1)) := good_tag (tolls_rows t1)
  have i1 := h1.ids
  rw [tag_ids] at i1
  have i2 := h2.ids
  rw [tag_ids] at i2
  have len : (rowsOf L1).length = rs.length := by
    have := i1.length_eq
    rw [List.length_map, List.length_range] at this
    rw [cow_len]
    exact this
  have iY := hY.ids
  rw [tag_ids, len] at iY
  obtain ⟨T, sT, eT⟩ := h1.back.unmap (rl_tag L1).symm
  obtain ⟨X, sX, eX⟩ := h2.unmap eT
  have nX : Nf X := by
    rw [eX] at n2
    exact nf_un n2
  have e : X = Y := one_nf _ g1 (Nat.le_refl _) (sT.trans sX) nX hY nY
  subst e
  have hids : L2.map (·.1) = (X.map (·.1)).map (ixN (L1.map (·.1))) := by
    rw [eX, rl_ids]
  refine ⟨⟨i1, i2, iY, hids, ?_⟩, eX⟩
  intro a b hab hb1 hb2
  have nd1 : (L1.map (·.1)).Nodup := i1.nodup_iff.mpr List.nodup_range
  have nd2 : (L2.map (·.1)).Nodup := i2.nodup_iff.mpr List.nodup_range
  obtain ⟨p, q, hpq, hp, hq⟩ := bef_get hb1
  have l1 : (L1.map (·.1)).length = rs.length := by rw [i1.length_eq, List.length_range]
  have hp' := (List.getElem?_eq_some_iff.mp hp).1
  have hq' := (List.getElem?_eq_some_iff.mp hq).1
  have ep : ixN (L1.map (·.1)) p = b := by
    unfold ixN
    rw [hp]
    rfl
  have eq : ixN (L1.map (·.1)) q = a := by
    unfold ixN
    rw [hq]
    rfl
  have iT := sT.ids
  rw [tag_ids, len] at iT
  have memT : ∀ x ∈ T.map (·.1), x < (L1.map (·.1)).length := fun x hx => by
    have := List.mem_range.mp (iT.mem_iff.mp hx)
    omega
  have memX : ∀ x ∈ X.map (·.1), x < (L1.map (·.1)).length := fun x hx => by
    have := List.mem_range.mp (iY.mem_iff.mp hx)
    omega
  have hbT : bef ((T.map (·.1)).map (ixN (L1.map (·.1)))) (ixN (L1.map (·.1)) q) (ixN (L1.map (·.1)) p) = true := by
    rw [← rl_ids, ← eT, tag_ids, ep, eq]
    exact bef_range hab (by
      have := List.mem_range.mp (i1.mem_iff.mp (List.mem_of_getElem? hp))
      exact this)
  have hbT' := (bef_map (fun x hx h => ixN_inj nd1 (memT x hx) hq' h) (fun x hx h => ixN_inj nd1 (memT x hx) hp' h)).mp hbT
  have hbX := bef_stays (g1.steps sT) sX hpq hbT'
  have hb3 := (bef_map (fun x hx h => ixN_inj nd1 (memX x hx) hq' h) (fun x hx h => ixN_inj nd1 (memX x hx) hp' h)).mpr hbX
  rw [← hids, ep, eq] at hb3
  rw [bef_asym nd2 hb3] at hb2
  cases hb2
/-- a pair in order -/
def sort2 (p : Int × Int) : Int × Int := if p.2 < p.1 then (p.2, p.1) else p
theorem sort2_nn (i j : Nat) : sort2 ((i : Int), (j : Int)) = if j < i then ((j : Int), (i : Int)) else ((i : Int), (j : Int)) := by
  unfold sort2
  by_cases h : j < i
  · rw [if_pos h, if_pos (by show (j : Int) < (i : Int); omega)]
  · rw [if_neg h, if_neg (by show ¬ (j : Int) < (i : Int); omega)]
def named (l : List Nat) (p : Int × Int) : Int × Int := ((ixN l p.1.toNat : Int), (ixN l p.2.toNat : Int))
theorem pair_inj {a b c d : Nat} (h : (((a : Int), (b : Int)) : Int × Int) = ((c : Int), (d : Int))) : a = c ∧ b = d := by
  have h1 : (a : Int) = (c : Int) := congrArg Prod.fst h
  have h2 : (b : Int) = (d : Int) := congrArg Prod.snd h
  omega
theorem nodup_on {α β : Type} {f : α → β} {l : List α} (h : ∀ x ∈ l, ∀ z ∈ l, f x = f z → x = z) (nd : l.Nodup) : (l.map f).Nodup := List.pairwise_map.mpr (List.Pairwise.imp_of_mem (fun hx hz hne e => hne (h _ hx _ hz e)) nd)
theorem thru_pairs {n : Nat} {l1 l2 y : List Nat} (t : Thru n l1 l2 y) : ((tab y n n).map fun p => sort2 (named l1 p)).Perm (tab l1 n n ++ tab l2 n n) := by
  have len1 : l1.length = n := by rw [t.p1.length_eq, List.length_range]
  have nd1 : l1.Nodup := t.p1.nodup_iff.mpr List.nodup_range
  have nd2 : l2.Nodup := t.p2.nodup_iff.mpr List.nodup_range
  have m1 : ∀ x, x < n → x ∈ l1 := fun x hx => t.p1.mem_iff.mpr (List.mem_range.mpr hx)
  have m2 : ∀ x, x < n → x ∈ l2 := fun x hx => t.p2.mem_iff.mpr (List.mem_range.mpr hx)
  have lt1 : ∀ p, p < n → ixN l1 p < n := fun p hp => List.mem_range.mp (t.p1.mem_iff.mp (List.mem_of_getElem? (ixN_at (by omega))))
  have mY : ∀ x ∈ y, x < l1.length := fun x hx => by
    have := List.mem_range.mp (t.py.mem_iff.mp hx)
    omega
  have bY : ∀ {p q : Nat}, p < n → q < n → (bef l2 (ixN l1 q) (ixN l1 p) = true ↔ bef y q p = true) := fun {p q} hp hq => by
    rw [t.e]
    exact bef_map (fun x hx h => ixN_inj nd1 (mY x hx) (by omega) h) (fun x hx h => ixN_inj nd1 (mY x hx) (by omega) h)
  have b1 : ∀ {p q : Nat}, p < n → q < n → bef l1 (ixN l1 p) (ixN l1 q) = decide (p < q) := fun {p q} hp hq => bef_iff nd1 (ixN_at (by omega)) (ixN_at (by omega))
  refine (List.perm_ext_iff_of_nodup ?_ ?_).mpr fun c => ?_
  · refine nodup_on ?_ (nd_tab y n n)
    intro x hx z hz h
    obtain ⟨p, q, h1, h2, rfl, h3⟩ := mem_tab.mp hx
    obtain ⟨p', q', g1, g2, rfl, g3⟩ := mem_tab.mp hz
    have h : sort2 ((ixN l1 p : Int), (ixN l1 q : Int)) = sort2 ((ixN l1 p' : Int), (ixN l1 q' : Int)) := h
    rw [sort2_nn, sort2_nn] at h
    have key : (ixN l1 p = ixN l1 p' ∧ ixN l1 q = ixN l1 q') ∨ (ixN l1 p = ixN l1 q' ∧ ixN l1 q = ixN l1 p') := by
      split at h <;> split at h
      · have := pair_inj h
        exact .inl ⟨this.2, this.1⟩
      · have := pair_inj h
        exact .inr ⟨this.2, this.1⟩
      · have := pair_inj h
        exact .inr this
      · exact .inl (pair_inj h)
    rcases key with ⟨k1, k2⟩ | ⟨k1, k2⟩
    · rw [ixN_inj nd1 (by omega) (by omega) k1, ixN_inj nd1 (by omega) (by omega) k2]
    · have z1 := ixN_inj nd1 (p := p) (q := q') (by omega) (by omega) k1
      have z2 := ixN_inj nd1 (p := q) (q := p') (by omega) (by omega) k2
      omega
  · refine List.nodup_append.mpr ⟨nd_tab _ _ _, nd_tab _ _ _, fun x hx z hz e => ?_⟩
    subst e
    obtain ⟨p, q, h1, h2, rfl, h3⟩ := mem_tab.mp hx
    obtain ⟨p', q', g1, g2, e, g3⟩ := mem_tab.mp hz
    obtain ⟨rfl, rfl⟩ := pair_inj e
    exact t.no h1 h3 g3
  · rw [List.mem_append, List.mem_map]
    constructor
    · rintro ⟨x, hx, rfl⟩
      obtain ⟨p, q, h1, h2, rfl, h3⟩ := mem_tab.mp hx
      show sort2 ((ixN l1 p : Int), (ixN l1 q : Int)) ∈ _ ∨ _
      have k2 := (bY (p := p) (q := q) (by omega) h2).mpr h3
      have k1 := b1 (p := p) (q := q) (by omega) h2
      rw [decide_eq_true h1] at k1
      have hne : ixN l1 p ≠ ixN l1 q := fun e => by
        have := ixN_inj nd1 (p := p) (q := q) (by omega) (by omega) e
        omega
      show sort2 ((ixN l1 p : Int), (ixN l1 q : Int)) ∈ _ ∨ sort2 ((ixN l1 p : Int), (ixN l1 q : Int)) ∈ _
      rw [sort2_nn]
      split
      · rename_i hlt
        exact .inl (mem_tab.mpr ⟨_, _, hlt, lt1 p (by omega), rfl, k1⟩)
      · rename_i hlt
        exact .inr (mem_tab.mpr ⟨_, _, by omega, lt1 q h2, rfl, k2⟩)
    · rintro (h | h)
      · obtain ⟨a, b, h1, h2, rfl, h3⟩ := mem_tab.mp h
        obtain ⟨p, q, hpq, hp, hq⟩ := bef_get h3
        have hp' := (List.getElem?_eq_some_iff.mp hp).1
        have hq' := (List.getElem?_eq_some_iff.mp hq).1
        have ep : ixN l1 p = b := by unfold ixN; rw [hp]; rfl
        have eq : ixN l1 q = a := by unfold ixN; rw [hq]; rfl
        have h4 : bef l2 a b = true := by
          refine bef_tot (m2 b h2) (m2 a (by omega)) (by omega) ?_
          cases hz : bef l2 b a with
          | false => rfl
          | true => exact absurd (t.no h1 h3 hz) id
        refine ⟨((p : Int), (q : Int)), mem_tab.mpr ⟨p, q, hpq, by omega, rfl, ?_⟩, ?_⟩
        · refine (bY (p := p) (q := q) (by omega) (by omega)).mp ?_
          rw [ep, eq]
          exact h4
        · show sort2 ((ixN l1 p : Int), (ixN l1 q : Int)) = _
          rw [ep, eq, sort2_nn, if_pos h1]
      · obtain ⟨a, b, h1, h2, rfl, h3⟩ := mem_tab.mp h
        have h4 : bef l1 a b = true := by
          refine bef_tot (m1 b h2) (m1 a (by omega)) (by omega) ?_
          cases hz : bef l1 b a with
          | false => rfl
          | true => exact absurd (t.no h1 hz h3) id
        obtain ⟨p, q, hpq, hp, hq⟩ := bef_get h4
        have hp' := (List.getElem?_eq_some_iff.mp hp).1
        have hq' := (List.getElem?_eq_some_iff.mp hq).1
        have ep : ixN l1 p = a := by unfold ixN; rw [hp]; rfl
        have eq : ixN l1 q = b := by unfold ixN; rw [hq]; rfl
        refine ⟨((p : Int), (q : Int)), mem_tab.mpr ⟨p, q, hpq, by omega, rfl, ?_⟩, ?_⟩
        · refine (bY (p := p) (q := q) (by omega) (by omega)).mp ?_
          rw [ep, eq]
          exact h3
        · show sort2 ((ixN l1 p : Int), (ixN l1 q : Int)) = _
          rw [ep, eq, sort2_nn, if_neg (by omega)]
end HH
set_option maxHeartbeats 4000000
namespace SrtO
open PySem PySem.Spec PyProof.Rows L2
section
variable {prog : Program} {w : World} {A : Around} {E : Value → Shared → Prop} {s : Shared}
/-- a tuple's items, drawn together -/
theorem collect_tupl {l : Addr} {vs : List Value} {Q : List Value → Shared → Prop} (hT : s.heap.IsTuple l vs.toArray) (hfit : vs.length ≤ sizeLine)
    (hQ : Q vs { s with heap := (s.heap.push (seqObj "list" #[] 0)).update s.heap.objs.size (Obj.mapSeq (· ++ vs.toArray)) }) : wpAny (model prog w) A (collect (.ref l)) Q E s := by
  obtain ⟨ob, hob, hcls, m, hdat⟩ := id hT
  unfold collect
  refine wpAny_bind (wpAny_runValue (codeAny_builtin entry_proto_collect' ?_))
  show wpAny _ _ (do again (.builtin "list.__iadd__" ⟨[← newList [], .ref l], []⟩)) _ _ s
  refine wpAny_bind (wpAny_newList (wpAny_pure ⟨Code.quiet_builtin _ (by decide +kernel), codeAny_builtin entry_list_iadd' ?_⟩))
  show wpAny _ _ (Builtin.List.listExtendWith (.ref s.heap.objs.size) (.ref l) (.ref s.heap.objs.size)) _ _ { s with heap := s.heap.push (seqObj "list" #[] 0) }
  unfold Builtin.List.listExtendWith
  have hob' : (s.heap.push (seqObj "list" #[] 0)).get? l = some ob := Heap.get?_push_of_some _ hob
  refine wpAny_bind (wpAny_typeOf (T := "tuple") ⟨ob, hob', hcls⟩ ?_)
  have hsame : (Value.type "tuple" == Value.type "tuple") = true := by rfl
  rw [if_pos (by rw [hsame]; simp)]
  refine wpAny_bind (listItems_at hob' hdat ?_)
  refine wpAny_bind (listItems_at (xs := #[]) (n := 0) (Heap.get?_push_size _ rfl) rfl ?_)
  rw [if_neg (by simp)]
  refine wpAny_bind (listUpdate_at (xs := #[]) (n := 0) (Heap.get?_push_size _ rfl) rfl ?_ (Nat.zero_le _) (by show (#[] ++ vs.toArray).size ≤ sizeLine + 1; simp only [Array.size_append, List.size_toArray, List.length_nil]; omega))
  refine wpAny_pure ?_
  show wpAny (model prog w) A (do
      let o ← load s.heap.objs.size
      match o.data with
      | .seq xs _ => pure xs.toList
      | _ => unsupported "internal:collect") Q E { s with heap := (s.heap.push (seqObj "list" #[] 0)).update s.heap.objs.size (Obj.mapSeq (· ++ vs.toArray)) }
  refine wpAny_bind (wpAny_load (get?_update_seq (Heap.get?_push_size _ rfl) _) ?_)
  show wpAny _ _ (pure ((#[] : Array Value) ++ vs.toArray).toList) Q E _
  rw [show ((#[] : Array Value) ++ vs.toArray).toList = vs by simp]
  exact wpAny_pure hQ
/-- sorted(tuple) -/
theorem sorted_tupl {l : Addr} {vs : List Value} {ltv : Value → Value → Bool} {Q : Value → Shared → Prop} (O : Swo ltv) (hT : s.heap.IsTuple l vs.toArray) (hfit : vs.length ≤ sizeLine)
    (hS : 2 ≤ vs.length → ∀ (h₁ : Heap) (a : Addr), SortableO prog w A.in1.in1 { s with heap := h₁ } a vs ltv)
    (h : ∀ out : List Value, Srtd ltv out → Stb ltv out vs → Q (.ref (s.heap.objs.size + 1)) { s with heap := sortedAll s.heap vs out.toArray }) :
    wpAny (model prog w) A (call (.builtin "sorted") [.ref l]) Q E s := by
  refine Calls.call_function_entry kind_sorted plain_sorted entry_sorted (args_sorted1 _) ?_
  unfold Builtin.«sorted»
  refine wpAny_bind (m := checkCount "sorted" 1 1 _) (wpAny_pure ?_)
  refine wpAny_bind (collect_tupl hT hfit ?_)
  refine wpAny_bind (wpAny_newList ?_ hfit)
  have one : ((s.heap.push (seqObj "list" #[] 0)).update s.heap.objs.size (Obj.mapSeq (· ++ vs.toArray))).objs.size = s.heap.objs.size + 1 := by
    rw [Heap.size_update, size_push']
  have new : (((s.heap.push (seqObj "list" #[] 0)).update s.heap.objs.size (Obj.mapSeq (· ++ vs.toArray))).push (seqObj "list" vs.toArray 0)).get? (s.heap.objs.size + 1) = some (seqObj "list" vs.toArray 0) := by
    rw [← one]; exact Heap.get?_push_size _ rfl
  show wpAny _ _ _ _ _ { s with heap := ((s.heap.push (seqObj "list" #[] 0)).update s.heap.objs.size (Obj.mapSeq (· ++ vs.toArray))).push (seqObj "list" vs.toArray 0) }
  rw [one]
  refine wpAny_bind (wpAny_holding (wpAny_call_entry slot_list_sort ⟨_, new, rfl⟩ entry_list_sort (list_sort_ord O new hfit (fun h2 => hS h2 _ _) fun out hs hb => ⟨_, rfl, ?_⟩) (args_list_sort _)))
  exact wpAny_pure ⟨_, rfl, h out hs hb⟩
end
end SrtO
namespace HH
open PySem PySem.Spec PyProof.Rows L2 Evl RZ
section
variable {X : Cx}
/-- sorted(tuple of ints) -/
def rSortedIT (K : PySem.W.Frag) : List V → Hp → VK → Prop := fun vs H Q => ∃ (a : Addr) (ns : List Int), vs = [V.ref a] ∧ SqT K H a (ns.map V.int) ∧
  ∀ (ns' : List Int) (p : Addr), ns'.Perm ns → ns'.Pairwise (· ≤ ·) → H p = none → Q (.ref p) (upd H p (.lst (ns'.map V.int)))
theorem cr_sortedIT : CallR X (.builtin "sorted") (rSortedIT X.K) := by
  intro pins s σ H vs us Q I r h
  obtain ⟨a, ns, rfl, hs, q⟩ := h
  obtain ⟨its, rv, hl, hz⟩ := I.tuple hs
  rw [Vals.ref1 r]
  have hi := rv.ints
  refine SrtO.sorted_tupl SrtO.swo_int (show s.heap.IsTuple a its.toArray from hl) (by rw [← rv.length]; exact hz) (fun h2 h₁ a' => SrtO.ints_sortable hi h2) fun out h1 h2 => ?_
  obtain ⟨k1, k2, k3⟩ := SrtO.ints_out hi h1 h2
  obtain ⟨ep, he'⟩ := PyProof.Rows.sortedAll_at s.heap its out.toArray
  have hlen : ((out.map SrtO.iv).map V.int).length ≤ sizeLine := by
    rw [List.length_map, k2.length_eq]
    rw [List.length_map] at hz
    exact hz
  exact ⟨.ref _, upd H (s.heap.objs.size + 1) (.lst ((out.map SrtO.iv).map V.int)), I.laid (t' := s.toks) (fun _ _ => PyProof.Rows.sortedAll_old) (Nat.le_succ _) ⟨hlen, out, ep, vals_of_ints k1, he'⟩, rfl, q _ _ k2 k3 (I.hok.fresh (Nat.le_succ _))⟩
/-- the two ints of a pair -/
def pairOf (h : Heap) : Value → Int × Int
  | .ref t => match h.get? t with
    | some o => match o.data with
      | .seq its _ => match its.toList with
        | [.int a _, .int b _] => (a, b)
        | _ => (0, 0)
      | _ => (0, 0)
    | none => (0, 0)
  | _ => (0, 0)
theorem pairOf_is {pins : List (Addr × Obj)} {σ : L2.St} {H : Hp} {s : Shared} {x : V} {u : Value} {b : Int × Int} (I : Inv X pins σ H s) (r : RelV x u) (h : BeastAt X.K H x b) : pairOf s.heap u = b ∧ Srt.IsPair s.heap u b.1 b.2 ∧ ∃ p, u = .ref p ∧ x = .ref p := by
  obtain ⟨p, rfl, hp⟩ := h
  obtain rfl : u = Value.ref p := r
  obtain ⟨its, rv, ⟨o, ho, hc, n, hd⟩, hz⟩ := I.tuple hp
  obtain ⟨u1, u2, rfl, ri, rj⟩ := vals2 rv
  obtain ⟨t1, rfl⟩ := ri
  obtain ⟨t2, rfl⟩ := rj
  refine ⟨?_, ⟨p, o, t1, t2, n, rfl, ho, hc, hd⟩, p, rfl, rfl⟩
  unfold pairOf
  dsimp only
  rw [ho]
  dsimp only
  rw [hd]
/-- sorted(list of pairs) -/
def rSortedPT (K : PySem.W.Frag) : List V → Hp → VK → Prop := fun vs H Q => ∃ (a : Addr) (xs : List V) (ps : HH.Row), vs = [V.ref a] ∧ SqL K H a xs ∧ Beasts K H xs ps ∧
  ∀ (ys : List V) (qs : HH.Row) (p : Addr), Beasts K H ys qs → qs.Perm ps → qs.Pairwise (fun b c => ¬ lexL c b) → H p = none → Q (.ref p) (upd H p (.lst ys))
theorem cr_sortedPT : CallR X (.builtin "sorted") (rSortedPT X.K) := by
  intro pins s σ H vs us Q I r h
  obtain ⟨a, xs, ps, rfl, hs, hb, q⟩ := h
  obtain ⟨its, rv, hl, hz⟩ := I.list hs
  obtain ⟨u, rfl, ru⟩ := vals1 r
  obtain rfl : u = Value.ref a := ru
  have hlen : its.length = ps.length := by rw [← rv.length, hb.1]
  have at' : ∀ (i : Nat) (b : Int × Int), ps[i]? = some b → ∃ u, its[i]? = some u ∧ pairOf s.heap u = b ∧ Srt.IsPair s.heap u b.1 b.2 ∧ ∃ p, u = Value.ref p ∧ BeastAt X.K H (.ref p) b := fun i b hi => by
    obtain ⟨x, hx, hB⟩ := hb.2 i b hi
    obtain ⟨u, hu, ru⟩ := rv.get hx
    obtain ⟨e1, e2, p, e3, e4⟩ := pairOf_is I ru hB
    exact ⟨u, hu, e1, e2, p, e3, by rw [← e4]; exact hB⟩
  have each : ∀ u ∈ its, Srt.IsPair s.heap u (pairOf s.heap u).1 (pairOf s.heap u).2 ∧ ∃ p, u = Value.ref p ∧ BeastAt X.K H (.ref p) (pairOf s.heap u) := fun u hu => by
    obtain ⟨i, hi⟩ := List.getElem?_of_mem hu
    have hi' : i < ps.length := by
      have := (List.getElem?_eq_some_iff.mp hi).1
      omega
    obtain ⟨u', hu', e1, e2, p, e3, e4⟩ := at' i _ (List.getElem?_eq_getElem hi')
    rw [hi] at hu'
    cases hu'
    rw [e1]
    exact ⟨e2, p, e3, e4⟩
  have emap : its.map (pairOf s.heap) = ps := by
    refine List.ext_getElem? fun i => ?_
    rw [List.getElem?_map]
    cases hp : ps[i]? with
    | none =>
      have h1 : its[i]? = none := List.getElem?_eq_none (by
        have := List.getElem?_eq_none_iff.mp hp
        omega)
      rw [h1]
      rfl
    | some b =>
      obtain ⟨u, hu, e1, _⟩ := at' i b hp
      rw [hu, Option.map_some, e1]
  refine SrtO.sorted_pairsO (k := pairOf s.heap) hl.isList (by rw [← rv.length]; exact hz) (fun v hv => (each v hv).1) fun h' d out h1 h2 kp hd hn => ?_
  have hmem : ∀ u ∈ out, u ∈ its := fun u hu => h2.perm.mem_iff.mp hu
  obtain ⟨n, hn⟩ := hn
  have h3 : ∀ u ∈ out, ∃ a, u = Value.ref a := fun u hu => by
    obtain ⟨_, p, e, _⟩ := each u (hmem u hu)
    exact ⟨p, e⟩
  have hol : out.length = its.length := h2.perm.length_eq
  refine ⟨.ref d, upd H d (.lst (out.map backV)), I.laid (t' := s.toks) kp hd ⟨?_, out, n, vals_back h3, hn⟩, rfl, q _ (out.map (pairOf s.heap)) d ⟨by rw [List.length_map, List.length_map], fun i b hi => ?_⟩ ?_ ?_ (I.hok.fresh hd)⟩
  · rw [List.length_map, hol, ← rv.length]
    exact hz
  · rw [List.getElem?_map] at hi
    cases ho : out[i]? with
    | none =>
      rw [ho] at hi
      cases hi
    | some u =>
      rw [ho] at hi
      cases hi
      obtain ⟨_, p, rfl, hB⟩ := each u (hmem u (List.mem_of_getElem? ho))
      refine ⟨.ref p, ?_, hB⟩
      rw [List.getElem?_map, ho]
      rfl
  · rw [← emap]
    exact h2.perm.map _
  · refine List.pairwise_map.mpr (List.Pairwise.imp (fun {u v} hh => ?_) h1)
    exact SrtO.lexB_no.mp hh
end
theorem sort_one {ps qs : HH.Row} (h : qs.Perm ps) (h1 : qs.Pairwise (fun b c => ¬ lexL c b)) (h2 : ps.Pairwise (fun b c => ¬ lexL c b)) : qs = ps := by
  refine h.eq_of_pairwise (fun b c _ _ g1 g2 => ?_) h1 h2
  unfold lexL at g1 g2
  obtain ⟨b1, b2⟩ := b
  obtain ⟨c1, c2⟩ := c
  dsimp only at g1 g2
  have e1 : b1 = c1 := by omega
  have e2 : b2 = c2 := by omega
  rw [e1, e2]
theorem pw_no {ps : HH.Row} (h : ps.Pairwise lexL) : ps.Pairwise (fun b c => ¬ lexL c b) := h.imp fun {b c} g g' => by
  unfold lexL at g g'
  omega
end HH
set_option maxHeartbeats 4000000
namespace HH
open PySem PySem.Spec PyProof.Rows L2 Evl RZ
theorem room_u65 {k : Nat} {A : Around} (r : Room k A) : A.units + 65 < cLine := by
  have := r.un
  omega
/-- whom of outer stands where inner says -/
def spThrough (K : PySem.W.Frag) : Sp := fun vs H Q _ => ∃ (a b : Addr) (l m : List Nat), vs = [.ref a, .ref b] ∧ SqT K H a (natsV l) ∧ SqT K H b (natsV m) ∧ (∀ x ∈ m, x < l.length) ∧ m.length ≤ 1000 ∧
  ∀ (q : Addr) (H' : Hp), H q = none → Ex H H' → H' q = some (.tup (natsV (m.map (ixN l)))) → Q (.ref q) H'
theorem natsV_at {l : List Nat} {k x : Nat} (h : l[k]? = some x) : (natsV l)[k]? = some (V.int (x : Int)) := by
  unfold natsV
  rw [List.getElem?_map, h]
  rfl
theorem natsV_len (l : List Nat) : (natsV l).length = l.length := List.length_map ..
def natsD (l : List Nat) : PyData := .tuple ((l.map fun (x : Nat) => (x : Int)).map PyData.int)
theorem natsV_ints (l : List Nat) : natsV l = (l.map fun (x : Nat) => (x : Int)).map V.int := by
  unfold natsV
  rw [List.map_map]
  rfl
section
variable {K : PySem.W.Frag} {σ : L2.St} {H H' : Hp} {ta tb te : TE} {x y v : V}
theorem dp_nats {a : Addr} {l : List Nat} (h : SqT K H a (natsV l)) : Dp K H (.ref a) (natsD l) := by
  rw [natsV_ints] at h
  exact .tup h (dp_ints _)
theorem nice_nats (l : List Nat) : Nice 1 (natsD l) := nice_tuple (nice_ints _)
theorem rv_neD {k : Nat} {d : PyData} (hx : Dp K H x d) (hy : Dp K H y d) (n : Nice k d) (hk : k < 64) : RV (rNeD K) x y H (.bl false) := fun H1 e Q q => by
  refine ⟨d, d, dp_ex e hx, dp_ex e hy, n.shaped (by omega), n.shaped (by omega), ?_⟩
  rw [SeqAt.eqv_refl _ n.1]
  exact q H1 (Ex.refl H1)
theorem et_neRow {v' : V} {rs : HH.Row} (ha : Ev ta σ H v) (hb : Ev tb σ H v') (hv : RowAt K H v rs) (hv' : RowAt K H v' rs) : EvT (tTest (tOp (rNeD K) ta tb)) σ H false := by
  obtain ⟨a, rfl, h1⟩ := hv.dp
  obtain ⟨b, rfl, h2⟩ := hv'.dp
  exact et_test (ev_op ha hb (rv_neD h1 h2 (nice_row rs) (by decide)))
theorem et_neU {l : List Nat} {b : Addr} (ha : EvU ta σ H (natsV l)) (hb : Ev tb σ H (.ref b)) (h : SqT K H b (natsV l)) : EvT (tTest (tOp (rNeD K) ta tb)) σ H false := fun H1 e Q q =>
  ha H1 e _ fun p H2 hp e2 h2 => hb H2 (e.trans e2) _ fun H3 e3 => rv_neD (dp_nats (st_of h2)) (dp_nats (ex_t (e.trans e2) h)) (nice_nats l) (by decide) H3 e3 _ fun H4 e4 => ⟨false, rfl, q H4 ((e2.trans e3).trans e4)⟩
theorem eu_through {a b : Addr} {l m : List Nat} (ha : Ev ta σ H (.ref a)) (hb : Ev tb σ H (.ref b)) (h1 : SqT K H a (natsV l)) (h2 : SqT K H b (natsV m)) (hm : ∀ x ∈ m, x < l.length) (hl : m.length ≤ 1000) : EvU (tCall (spThrough K) [] E0 (tCons ta (tCons tb tNil))) σ H (natsV (m.map (ixN l))) := fun H1 e Q q =>
  ha H1 e _ fun H2 e2 => hb H2 (e.trans e2) _ fun H3 e3 => ⟨a, b, l, m, rfl, ex_t ((e.trans e2).trans e3) h1, ex_t ((e.trans e2).trans e3) h2, hm, hl, fun p H4 hp e4 h4 => q p H4 (fresh_back (e2.trans e3) hp) ((e2.trans e3).trans e4) h4⟩
/-- lists of pairs as data -/
def pairsD (ps : HH.Row) : PyData := .list (ps.map beastD)
theorem dp_pairs {a : Addr} {us : List V} {ps : HH.Row} (h : SqL K H a us) (hb : Beasts K H us ps) : Dp K H (.ref a) (pairsD ps) := .lst h (beasts_dp hb)
theorem nice_pairs (ps : HH.Row) : Nice 2 (pairsD ps) := nice_list fun d hd => by
  obtain ⟨b, _, rfl⟩ := List.mem_map.mp hd
  exact nice_beast b
end
end HH
set_option maxHeartbeats 4000000
namespace HH
open PySem PySem.Spec PyProof.Rows L2 Evl RZ
theorem relF {L B M : List Cow} (ht : ∀ x ∈ L, 0 ≤ x.2.2) (s : FSteps (tag 0 (rowsOf L)) M) (n : Ff M) (sB : FSteps L B) (nB : Ff B) : rowsOf M = rowsOf B ∧ (M.map (·.1)).map (ixN (L.map (·.1))) = B.map (·.1) := by
  have s' := s.map (ixN (L.map (·.1)))
  rw [rl_tag] at s'
  have e := ff_any ht s' (ff_map n) sB nB
  rw [← e, rl_rows, rl_ids]
  exact ⟨rfl, rfl⟩
theorem relS {L B M : List Cow} (ht : ∀ x ∈ L, 0 ≤ x.2.2) (s : Steps (tag 0 (rowsOf L)) M) (n : Nf M) (sB : Steps L B) (nB : Nf B) : rowsOf M = rowsOf B ∧ (M.map (·.1)).map (ixN (L.map (·.1))) = B.map (·.1) := by
  have s' := s.map (ixN (L.map (·.1)))
  rw [rl_tag] at s'
  have e := nf_any ht s' (nf_map n) sB nB
  rw [← e, rl_rows, rl_ids]
  exact ⟨rfl, rfl⟩
theorem FSteps.len {L M : List Cow} (h : FSteps L M) : M.length = L.length := by
  have := h.ids.length_eq
  rw [List.length_map, List.length_map] at this
  exact this
theorem Steps.len {L M : List Cow} (h : Steps L M) : M.length = L.length := by
  have := h.ids.length_eq
  rw [List.length_map, List.length_map] at this
  exact this
theorem ids_lt {rs : HH.Row} {M : List Cow} {k : Nat} (p : (M.map (·.1)).Perm (List.range rs.length)) (h : rs.length ≤ k) : ∀ x ∈ M.map (·.1), x < k := fun x hx => by
  have := List.mem_range.mp (p.mem_iff.mp hx)
  omega
theorem FSteps.idsT {rs : HH.Row} {M : List Cow} (h : FSteps (tag 0 rs) M) : (M.map (·.1)).Perm (List.range rs.length) := by
  rw [← tag_ids]
  exact h.ids
theorem Steps.idsT {rs : HH.Row} {M : List Cow} (h : Steps (tag 0 rs) M) : (M.map (·.1)).Perm (List.range rs.length) := by
  rw [← tag_ids]
  exact h.ids
section
variable {K : PySem.W.Frag} {σ : L2.St} {H H' : Hp} {ta tb te : TE} {x y v : V} {t : TT} {tu tz : TS} {D : Ends}
/-- a test after which the box is another -/
theorem q_whenX (h : t σ H fun b H1 => b = false ∧ tz D σ H1) (hm : ∀ {σ : L2.St} {H : Hp} {Q R : Bool → Hp → Prop}, (∀ b H, Q b H → R b H) → t σ H Q → t σ H R) : tSeq (tIfS t tu tNext) tz D σ H := by
  refine hm (fun b H1 hb => ?_) h
  obtain ⟨rfl, h2⟩ := hb
  rw [if_neg (by decide)]
  exact h2
theorem lt_ord {L : List Cow} {a : Addr} (h : H a = some (.tup (ordL L))) : SqT K H a (natsV (L.map (·.1))) := by
  rw [← ordL_nats]
  exact st_of h
theorem beast_eqv (b c : Int × Int) : PyData.eqv (beastD b) (beastD c) = decide (b = c) := by
  obtain ⟨b1, b2⟩ := b
  obtain ⟨c1, c2⟩ := c
  simp [beastD, PyData.eqv, PyData.eqvAll]
  rfl
end
end HH
namespace HH
open PySem PySem.Spec PyProof.Rows L2 Evl RZ
section
variable {X : Cx} {K : PySem.W.Frag}
theorem pe_tupleOfK {a : Expr} {ta : TE} {p pos : Pos} (hg : Gl X "tuple") (hm : X.mg "tuple" = none) (ha : PE X a ta) (na : starEach [a] X.env = (false, eval a X.env) :: starEach [] X.env := by rfl) (hK : X.K = K := by rfl) :
    PE X (.Call (.Name "tuple" p) [a] [] pos) (tThen ta (kTup K)) := by
  subst hK
  exact pe_tupleOf hg hm ha na
theorem pi_tupK {tg e : Expr} {te : TE} (he : PE X e te) (hK : X.K = K := by rfl) : PI X tg e (iTup K te) := by
  subst hK
  exact pi_tup he
theorem cr_sortedITK (hK : X.K = K := by rfl) : CallR X (.builtin "sorted") (rSortedIT K) := by
  subst hK
  exact cr_sortedIT
theorem op_inDK (hu : X.A.units + 65 < cLine) (hK : X.K = K := by rfl) : OpR X (compareOp .In) (rInD K) := by
  subst hK
  exact op_inD hu
end
end HH
namespace HH
open PySem PySem.Spec PyProof.Rows L2 Evl RZ
section
variable {K : PySem.W.Frag} {σ : L2.St} {H H' : Hp} {ta tb te : TE} {x y v : V} {Q : VK}
theorem eu_throughE {a b : Addr} {l m n : List Nat} (ha : Ev ta σ H (.ref a)) (hb : Ev tb σ H (.ref b)) (h1 : SqT K H a (natsV l)) (h2 : SqT K H b (natsV m)) (hm : ∀ x ∈ m, x < l.length) (hl : m.length ≤ 1000) (e : m.map (ixN l) = n) : EvU (tCall (spThrough K) [] E0 (tCons ta (tCons tb tNil))) σ H (natsV n) := by
  rw [← e]
  exact eu_through ha hb h1 h2 hm hl
theorem el_run {xs : List V} (h : EvL te σ H xs) (k : ∀ p H2, H p = none → Ex H H2 → H2 p = some (.lst xs) → Q (.ref p) H2) : te σ H Q := h H (Ex.refl H) _ k
theorem rs_int (rs : HH.Row) : (rs.map fun b => V.int (if true then b.1 else b.2)) = (rs.map (·.1)).map V.int := by
  rw [List.map_map]
  rfl
end
end HH
namespace HH
open PySem PySem.Spec PyProof.Rows L2 Evl RZ
section
variable {K : PySem.W.Frag} {σ : L2.St} {H H' : Hp} {ta tb te : TE} {x y v : V} {Q : VK}
/-- sorted(xs) != xs, xs ints that rise -/
theorem et_sorted {t1 t2 : TE} {ns : List Int} (h1 : EvL t1 σ H (ns.map V.int)) (h2 : EvL t2 σ H (ns.map V.int)) (srt : ns.Pairwise (· ≤ ·)) : EvT (tTest (tOp (rNeD K) (tCB (rSortedI K) (tCons t1 tNil)) t2)) σ H false := fun H1 e1 Q q =>
  h1 H1 e1 _ fun s1 H2 hs1 e2 g2 => ⟨s1, ns, rfl, sq_of g2, fun ns' p' perm srt' hp' => by
    have en : ns' = ns := sorted_same perm srt' srt
    subst en
    have e3 := Ex.new (o := .lst (ns'.map V.int)) hp'
    refine h2 _ ((e1.trans e2).trans e3) _ fun s2 H4 hs2 e4 g4 => ?_
    have nn : Nice 1 (.list (ns'.map PyData.int)) := nice_list (nice_ints _)
    refine ⟨.list (ns'.map PyData.int), .list (ns'.map PyData.int), .lst (sq_of (e4 _ _ upd_same)) (dp_ints _), .lst (sq_of g4) (dp_ints _), nn.shaped (by decide), nn.shaped (by decide), _, rfl, ?_⟩
    rw [SeqAt.eqv_refl _ nn.1]
    exact q _ ((e2.trans e3).trans e4)⟩
theorem el_strs {i j : Nat} {vs : List Nat} {rs : HH.Row} (hr : RowAt K H v rs) (hl : rs.length ≤ 1000) (h : Ev te σ H v) (hw : ∀ x y, wipe (((wipe σ vs).set i (some x)).set j (some y)) vs = wipe σ vs) (hc : ∀ x y : V, (((wipe σ vs).set i (some x)).set j (some y))[i]? = some (some x)) :
    EvL (tLc (iTup K te) (gTup K 2 (gCons (gName i) (gCons (gName j) gNil))) tYes (tVar i) vs) σ H ((rs.map (·.1)).map V.int) := by
  rw [← rs_int]
  exact el_unzip true hr hl h hw hc
end
end HH
set_option maxHeartbeats 4000000
namespace HH
open PySem PySem.Spec PyProof.Rows L2 Evl RZ
section
variable {K : PySem.W.Frag} {σ : L2.St} {H H' : Hp} {ta tb te : TE} {x y v : V} {Q : VK}
theorem et_none {qf qt : Addr} {uf ut : List V} {ps qs : HH.Row} {j kt : Nat} {vs : List Nat} (h1 : Ev te σ H (.ref qf)) (hf : H qf = some (.lst uf)) (bf : Beasts K H uf ps) (ht : H qt = some (.lst ut)) (bt : Beasts K H ut qs) (no : ∀ b ∈ ps, b ∉ qs)
    (hw : ∀ x, wipe ((wipe σ vs).set j (some x)) vs = wipe σ vs) (hc : ∀ x : V, ((wipe σ vs).set j (some x))[j]? = some (some x)) (hk : ∀ x : V, ((wipe σ vs).set j (some x))[kt]? = some (some (.ref qt))) :
    EvT (tTest (tOp (rNeD K) (tLc (iList K te) (gName j) (tTest (tOp (rInD K) (tVar j) (tVar kt))) (tVar j) vs) (tLst tNil))) σ H false := fun H1 e1 Q q =>
  h1 H1 e1 _ fun H2 e2 => ⟨qf, rfl, ⟨uf, sq_of ((e1.trans e2) _ _ hf)⟩, fun Dl hDl => by
    have e12 := e1.trans e2
    refine in_it (walk_list (xs := uf)) (fun k H3 => Ex H2 H3 ∧ H3 Dl = some (.lst [])) ⟨Ex.new hDl, upd_same⟩ (fun k H3 _ p => sq_of (p.1 _ _ (e12 _ _ hf))) (fun k x H3 H4 hk' p y => ?_) (fun H3 p => ?_)
    · obtain ⟨rfl, hx⟩ := y
      obtain ⟨p1, p2⟩ := p
      have hkp : k < ps.length := by rw [← bf.1]; exact hk'
      obtain ⟨u, hu, hB⟩ := bf.2 k _ (List.getElem?_eq_getElem hkp)
      rw [hx] at hu
      cases hu
      have hB' := hB.ex (e12.trans p1)
      obtain ⟨a, rfl, ha⟩ := hB'
      refine ⟨hw _, _, hc _, _, hk _, beastD ps[k], qs.map beastD, .tup ha (.cons (.int _) (.cons (.int _) .nil)), dp_pairs (sq_of ((e12.trans p1) _ _ ht)) (bt.ex (e12.trans p1)), (nice_beast _).shaped (by decide), (nice_pairs qs).shaped (by decide), _, rfl, ?_⟩
      have hany : ((qs.map beastD).any fun z => PyData.eqv z (beastD ps[k])) = false := by
        rw [List.any_eq_false]
        intro z hz
        obtain ⟨c, hc', rfl⟩ := List.mem_map.mp hz
        rw [beast_eqv]
        intro h
        have := of_decide_eq_true h
        subst this
        exact no _ (List.getElem_mem hkp) hc'
      rw [hany]
      dsimp only
      rw [if_neg (by decide)]
      exact ⟨p1, p2⟩
    · obtain ⟨p1, p2⟩ := p
      refine ⟨by show 0 ≤ sizeLine; decide, fun p hp => ?_⟩
      have nn : Nice 1 (.list []) := nice_list (k := 0) fun d h => by cases h
      refine ⟨.list [], .list [], .lst (sq_of (Ex.new hp _ _ p2)) .nil, .lst (sq_of upd_same) .nil, nn.shaped (by decide), nn.shaped (by decide), _, rfl, ?_⟩
      rw [SeqAt.eqv_refl _ nn.1]
      exact q _ ((e2.trans p1).trans (Ex.new hp))⟩
theorem er_named {o : Addr} {l : List Nat} {ps : HH.Row} {j1 j2 ko : Nat} {vs1 vs2 : List Nat}
    (h : ∀ Q : VK, (∀ (q : Addr) (us : List V) (H2 : Hp), H q = none → Ex H H2 → H2 q = some (.lst us) → Beasts K H2 us ps → Q (.ref q) H2) → te σ H Q)
    (w1 : ∀ x, wipe ((wipe σ vs1).set j1 (some x)) vs1 = wipe σ vs1) (g1 : ∀ x : V, ((wipe σ vs1).set j1 (some x))[j1]? = some (some x))
    (w2 : ∀ x y, wipe ((wipe ((wipe σ vs1).set j1 (some x)) vs2).set j2 (some y)) vs2 = wipe ((wipe σ vs1).set j1 (some x)) vs2)
    (g2 : ∀ x y : V, ((wipe ((wipe σ vs1).set j1 (some x)) vs2).set j2 (some y))[j2]? = some (some y)) (go : ∀ x y : V, ((wipe ((wipe σ vs1).set j1 (some x)) vs2).set j2 (some y))[ko]? = some (some (.ref o)))
    (ho : SqT K H o (natsV l)) (hp : ∀ b ∈ ps, ∃ p q : Nat, b = ((p : Int), (q : Int)) ∧ p < l.length ∧ q < l.length) (hl : ps.length ≤ 1000)
    (k : ∀ (D : Addr) (us : List V) (H' : Hp), H D = none → Ex H H' → H' D = some (.lst us) → Beasts K H' us (ps.map (named l)) → Q (.ref D) H') :
    tLc (iList K te) (gName j1) tYes (tThen (tLc (iTup K (tVar j1)) (gName j2) tYes (tOp (rIxT K) (tVar ko) (tVar j2)) vs2) (kTup K)) vs1 σ H Q := by
  refine h _ fun qY uY H1 hqY e1 hY bY => ⟨qY, rfl, ⟨uY, sq_of hY⟩, fun Dl hDl => ?_⟩
  refine in_it (walk_list (xs := uY)) (fun i H3 => Ex H1 H3 ∧ ∃ us, H3 Dl = some (.lst us) ∧ Beasts K H3 us ((ps.take i).map (named l))) ⟨Ex.new hDl, [], upd_same, Beasts.nil⟩ (fun i H3 _ p => sq_of (p.1 _ _ hY)) (fun i x H3 H4 hi p y => ?_) (fun H3 p => ?_)
  · obtain ⟨rfl, hx⟩ := y
    obtain ⟨p1, us, p2, p3⟩ := p
    have hip : i < ps.length := by rw [← bY.1]; exact hi
    obtain ⟨u, hu, hB⟩ := bY.2 i _ (List.getElem?_eq_getElem hip)
    rw [hx] at hu
    cases hu
    obtain ⟨pa, qa, hb, hpa, hqa⟩ := hp _ (List.getElem_mem hip)
    obtain ⟨a, rfl, ha⟩ := hB.ex p1
    rw [hb] at ha
    have e2 : Ex H H4 := e1.trans p1
    refine ⟨w1 _, t_yes ?_⟩
    refine ⟨_, g1 _, a, rfl, ⟨_, ha⟩, fun D2 hD2 => ?_⟩
    have hnm : named l ps[i] = ((ixN l pa : Int), (ixN l qa : Int)) := by
      rw [hb]
      rfl
    have hne : Dl ≠ D2 := ne_of_none p2 hD2
    refine in_it (walk_tup (xs := [.int (pa : Int), .int (qa : Int)])) (fun m H5 => Ex H4 H5 ∧ H5 D2 = some (.lst (([.int (ixN l pa : Int), .int (ixN l qa : Int)] : List V).take m))) ⟨Ex.new hD2, upd_same⟩ (fun m H5 _ p => ex_t p.1 ha) (fun m z H5 H6 hm p y => ?_) (fun H5 p => ?_)
    · obtain ⟨rfl, hz⟩ := y
      obtain ⟨s1, s2⟩ := p
      have hoo := ex_t (e2.trans s1) ho
      refine ⟨w2 _ _, t_yes ?_⟩
      match m, hm, hz, s2 with
      | 0, _, hz, s2 =>
        cases hz
        exact ⟨_, go _ _, _, g2 _ _, o, _, _, .int (ixN l pa : Int), rfl, rfl, hoo, atI_nat (natsV_at (ixN_at hpa)), _, s2, by show 0 < sizeLine; decide, Ex.mut s1 hD2, upd_same⟩
      | 1, _, hz, s2 =>
        cases hz
        exact ⟨_, go _ _, _, g2 _ _, o, _, _, .int (ixN l qa : Int), rfl, rfl, hoo, atI_nat (natsV_at (ixN_at hqa)), _, s2, by show 1 < sizeLine; decide, Ex.mut s1 hD2, upd_same⟩
      | m + 2, hm, _, _ => exact absurd hm (by show ¬ m + 2 < 2; omega)
    · obtain ⟨s1, s2⟩ := p
      have s2 : H5 D2 = some (.lst [.int (ixN l pa : Int), .int (ixN l qa : Int)]) := s2
      refine .inl ⟨D2, _, rfl, sq_of s2, fun rt hrt => ?_⟩
      have e6 := Ex.new (o := .tup [V.int (ixN l pa : Int), .int (ixN l qa : Int)]) hrt
      have d6 := e6 _ _ (s1 _ _ p2)
      refine ⟨us, d6, ?_, Ex.mut (p1.trans (s1.trans e6)) hDl, us ++ [.ref rt], upd_same, ?_⟩
      · rw [p3.1, List.length_map, List.length_take]
        exact sz_lt (by omega)
      · rw [List.take_add_one, List.getElem?_eq_getElem hip, List.map_append]
        show Beasts K _ _ (_ ++ [named l ps[i]])
        rw [hnm]
        exact ((p3.ex (s1.trans e6)).app (Beasts.one (b := ((ixN l pa : Int), (ixN l qa : Int))) ⟨rt, rfl, st_of upd_same⟩)).exB (ExB.refl _ _).upd d6
  · obtain ⟨p1, us, p2, p3⟩ := p
    rw [bY.1, List.take_length] at p3
    exact k Dl us H3 (fresh_back e1 hDl) (e1.trans p1) p2 p3
theorem sort_two {a b : Int} {ns : List Int} (h : ns.Perm [a, b]) (g : ns.Pairwise (· ≤ ·)) : ns = [(sort2 (a, b)).1, (sort2 (a, b)).2] := by
  unfold sort2
  dsimp only
  by_cases z : b < a
  · rw [if_pos z]
    refine sorted_same (h.trans (List.Perm.swap ..)) g ?_
    simp
    omega
  · rw [if_neg z]
    refine sorted_same h g ?_
    simp
    omega
theorem et_final {ap qf qt : Addr} {us uf ut : List V} {ps rf rt : HH.Row} {kp kf kt j1 : Nat} {vs1 : List Nat} (hp : σ[kp]? = some (some (.ref ap))) (hf : σ[kf]? = some (some (.ref qf))) (ht : σ[kt]? = some (some (.ref qt)))
    (w1 : ∀ x, wipe ((wipe σ vs1).set j1 (some x)) vs1 = wipe σ vs1) (g1 : ∀ x : V, ((wipe σ vs1).set j1 (some x))[j1]? = some (some x))
    (ha : H ap = some (.lst us)) (ba : Beasts K H us ps) (hl : ps.length ≤ 1000) (haf : H qf = some (.lst uf)) (bf : Beasts K H uf rf) (hat : H qt = some (.lst ut)) (bt : Beasts K H ut rt) (hlf : rf.length ≤ 1000) (hlt : rt.length ≤ 1000) (perm : (ps.map sort2).Perm (rf ++ rt)) :
    EvT (tTest (tOp (rNeD K) (tCB (rSortedPT K) (tCons (tLc (iList K (tVar kp)) (gName j1) tYes (tThen (tCB (rSortedIT K) (tCons (tVar j1) tNil)) (kTup K)) vs1) tNil)) (tCB (rSortedPT K) (tCons (tOp rCat (tVar kf) (tVar kt)) tNil)))) σ H false := fun H1 e1 Q q => by
  refine ⟨.ref ap, hp, ap, rfl, ⟨us, sq_of (e1 _ _ ha)⟩, fun Dl hDl => ?_⟩
  refine in_it (walk_list (xs := us)) (fun i H3 => Ex H1 H3 ∧ ∃ ws, H3 Dl = some (.lst ws) ∧ Beasts K H3 ws ((ps.take i).map sort2)) ⟨Ex.new hDl, [], upd_same, Beasts.nil⟩ (fun i H3 _ p => sq_of (p.1 _ _ (e1 _ _ ha))) (fun i x H3 H4 hi p y => ?_) (fun H3 p => ?_)
  · obtain ⟨rfl, hx⟩ := y
    obtain ⟨p1, ws, p2, p3⟩ := p
    have hip : i < ps.length := by rw [← ba.1]; exact hi
    obtain ⟨u, hu, hB⟩ := ba.2 i _ (List.getElem?_eq_getElem hip)
    rw [hx] at hu
    cases hu
    obtain ⟨a, rfl, hta⟩ := hB.ex (e1.trans p1)
    refine ⟨w1 _, t_yes ?_⟩
    refine ⟨_, g1 _, a, [ps[i].1, ps[i].2], rfl, hta, fun ns' sp pm srt hsp => ?_⟩
    have en : ns' = [(sort2 ps[i]).1, (sort2 ps[i]).2] := sort_two pm srt
    subst en
    have e5 := Ex.new (o := .lst ([(sort2 ps[i]).1, (sort2 ps[i]).2].map V.int)) hsp
    refine .inl ⟨sp, _, rfl, sq_of upd_same, fun rt' hrt => ?_⟩
    have e6 := Ex.new (o := .tup ([(sort2 ps[i]).1, (sort2 ps[i]).2].map V.int)) hrt
    have d6 := e6 _ _ (e5 _ _ p2)
    refine ⟨ws, d6, ?_, Ex.mut (p1.trans (e5.trans e6)) hDl, ws ++ [.ref rt'], upd_same, ?_⟩
    · rw [p3.1, List.length_map, List.length_take]
      exact sz_lt (by omega)
    · rw [List.take_add_one, List.getElem?_eq_getElem hip, List.map_append]
      exact ((p3.ex (e5.trans e6)).app (Beasts.one (b := sort2 ps[i]) ⟨rt', rfl, st_of upd_same⟩)).exB (ExB.refl _ _).upd d6
  · obtain ⟨p1, ws, p2, p3⟩ := p
    rw [ba.1, List.take_length] at p3
    refine ⟨Dl, ws, _, rfl, sq_of p2, p3, fun ys qs sp bys pm srt hsp => ?_⟩
    have e5 := Ex.new (o := .lst ys) hsp
    have e15 := (e1.trans p1).trans e5
    refine ⟨.ref qf, hf, .ref qt, ht, qf, qt, uf, ut, rfl, rfl, e15 _ _ haf, e15 _ _ hat, ?_, fun c hc => ?_⟩
    · rw [bf.1, bt.1]
      exact sz_of (by omega)
    have e6 := Ex.new (o := .lst (uf ++ ut)) hc
    refine ⟨c, uf ++ ut, rf ++ rt, rfl, sq_of upd_same, (bf.app bt).ex (e15.trans e6), fun zs rs' sp2 bzs pm2 srt2 hsp2 => ?_⟩
    have e7 := Ex.new (o := .lst zs) hsp2
    have eq : qs = rs' := by
      refine (pm.trans (perm.trans pm2.symm)).eq_of_pairwise (fun b c _ _ g1 g2 => ?_) srt srt2
      unfold lexL at g1 g2
      obtain ⟨b1, b2⟩ := b
      obtain ⟨c1, c2⟩ := c
      dsimp only at g1 g2
      have e1 : b1 = c1 := by omega
      have e2 : b2 = c2 := by omega
      rw [e1, e2]
    subst eq
    refine ⟨pairsD qs, pairsD qs, dp_pairs (sq_of (e7 _ _ (e6 _ _ upd_same))) (((bys.ex e5).ex e6).ex e7), dp_pairs (sq_of upd_same) (bzs.ex e7), (nice_pairs qs).shaped (by decide), (nice_pairs qs).shaped (by decide), _, rfl, ?_⟩
    rw [SeqAt.eqv_refl _ (nice_pairs qs).1]
    exact q _ (((p1.trans e5).trans e6).trans e7)
end
end HH
namespace HH
open PySem PySem.Spec PyProof.Rows L2 Evl RZ
theorem q_asgR {K : PySem.W.Frag} {σ : L2.St} {H : Hp} {te : TE} {tz : TS} {D : Ends} {i : Nat} {ps : HH.Row} (h : ∀ Q : VK, (∀ (d : Addr) (us : List V) (H' : Hp), H d = none → Ex H H' → H' d = some (.lst us) → Beasts K H' us ps → Q (.ref d) H') → te σ H Q)
    (k : ∀ (d : Addr) (us : List V) (H' : Hp), H d = none → Ex H H' → H' d = some (.lst us) → Beasts K H' us ps → tz D (σ.set i (some (.ref d))) H') : tSeq (tAsg te (gName i)) tz D σ H := h _ fun d us H' a b c e => k d us H' a b c e
end HH
namespace HH
open PySem PySem.Spec PyProof.Rows L2 Evl RZ
theorem n_next {D : Ends} {σ : L2.St} {H : Hp} (h : D.nx σ H) : tNext D σ H := h
end HH
set_option maxHeartbeats 4000000
namespace HH
open PySem PySem.Spec PyProof.Rows L2 Evl RZ
/-- places_of -/
def spPlaces (K : PySem.W.Frag) : Sp := fun vs H Q _ => ∃ (o : Addr) (l : List Nat), vs = [.ref o] ∧ SqT K H o (natsV l) ∧ l.Nodup ∧ l.length ≤ 30 ∧ ∀ (q : Addr) (kvs : List (Key × V)) (H' : Hp), H q = none → Ex H H' → H' q = some (.dK kvs) → PlacesD l l.length kvs → Q (.ref q) H'
/-- the same names, written plainly -/
theorem s_at {ts : TS} {D : Ends} {σ : L2.St} {H : Hp} (σ' : L2.St) (e : σ = σ') (k : ts D σ' H) : ts D σ H := by
  rw [e]
  exact k
end HH
set_option maxHeartbeats 4000000
namespace HH
open PySem PySem.Spec PyProof.Rows L2 Evl RZ
/-! ### who never passes, by sums -/
def barN (rs : HH.Row) (i : Nat) : Nat → Int
  | 0 => sS rs i + tS rs i
  | m + 1 => if sS rs (i + 1 + m) ≤ barN rs i m then barN rs i m + tS rs (i + 1 + m) else barN rs i m
theorem barN_yes {rs : HH.Row} {i m : Nat} (h : sS rs (i + 1 + m) ≤ barN rs i m) : barN rs i (m + 1) = barN rs i m + tS rs (i + 1 + m) := if_pos h
theorem barN_no {rs : HH.Row} {i m : Nat} (h : ¬ sS rs (i + 1 + m) ≤ barN rs i m) : barN rs i (m + 1) = barN rs i m := if_neg h
def tsumC : List Cow → Int
  | [] => 0
  | x :: r => x.2.2 + tsumC r
theorem tsumC_app : ∀ A B : List Cow, tsumC (A ++ B) = tsumC A + tsumC B
  | [], B => by
    show tsumC B = 0 + tsumC B
    omega
  | x :: A, B => by
    show x.2.2 + tsumC (A ++ B) = x.2.2 + tsumC A + tsumC B
    rw [tsumC_app A B]
    omega
def BarI (rs : HH.Row) (m : Nat) : List Cow → Prop
  | [] => True
  | x :: r => x.2.1 + x.2.2 + tsumC r = barN rs x.1 (m - x.1 - 1) ∧ BarI rs m r
/-- all of them are passed from behind -/
def PB (s : Int) : List Cow → Prop
  | [] => True
  | x :: r => x.2.1 + x.2.2 + tsumC r < s ∧ PB s r
theorem ins_end (w : Cow) : ∀ (k : Nat) (A B : List Cow), A.length = k → PB w.2.1 B → ∃ A' B', A ++ B = A' ++ B' ∧ PB w.2.1 B' ∧ Steps (A ++ (w.1, (w.2.1 - tsumC B, w.2.2)) :: B) (A' ++ (w.1, (w.2.1 - tsumC B', w.2.2)) :: B') ∧ ∀ x, A'.getLast? = some x → ¬ (w.2.1 - tsumC B' - x.2.2 > x.2.1)
  | 0, A, B, h, hp => by
    have e : A = [] := List.length_eq_zero_iff.mp h
    subst e
    exact ⟨[], B, rfl, hp, .refl _, fun x hx => by cases hx⟩
  | k + 1, A, B, h, hp => by
    have hne : A ≠ [] := fun e => by
      rw [e] at h
      cases h
    have eA := List.dropLast_concat_getLast hne
    generalize A.getLast hne = a at eA
    by_cases z : w.2.1 - tsumC B - a.2.2 > a.2.1
    · have hl : A.dropLast.length = k := by rw [List.length_dropLast, h]; rfl
      obtain ⟨A', B', e1, p1, s1, l1⟩ := ins_end w k A.dropLast (a :: B) hl ⟨by omega, hp⟩
      refine ⟨A', B', ?_, p1, .head ?_ s1, l1⟩
      · rw [← e1]
        conv => lhs; rw [← eA]
        simp
      · refine ⟨A.dropLast, B, a, (w.1, (w.2.1 - tsumC B, w.2.2)), ?_, z, ?_⟩
        · conv => lhs; rw [← eA]
          simp
        · have e2 : w.2.1 - tsumC (a :: B) = w.2.1 - tsumC B - a.2.2 := by
            show w.2.1 - (a.2.2 + tsumC B) = _
            omega
          rw [e2]
    · refine ⟨A, B, rfl, hp, .refl _, fun x hx => ?_⟩
      have e3 : A.getLast? = some a := by
        rw [← eA]
        simp
      rw [e3] at hx
      cases hx
      exact z
theorem bar_idx {x m : Nat} (h : x < m) : m + 1 - x - 1 = (m - x - 1) + 1 ∧ x + 1 + (m - x - 1) = m := by omega
theorem barI_B {rs : HH.Row} {m : Nat} {s : Int} (hs : s = sS rs m) : ∀ {B : List Cow}, PB s B → BarI rs m B → (∀ x ∈ B, x.1 < m) → BarI rs (m + 1) B ∧ ∀ x ∈ B, barN rs x.1 (m - x.1 - 1) < s
  | [], _, _, _ => ⟨True.intro, fun x hx => by cases hx⟩
  | x :: r, h, b, l => by
    obtain ⟨i1, i2⟩ := bar_idx (l x (List.mem_cons_self ..))
    obtain ⟨g1, g2⟩ := barI_B hs h.2 b.2 fun y hy => l y (List.mem_cons_of_mem _ hy)
    have h1 := h.1
    have hb := b.1
    refine ⟨⟨?_, g1⟩, fun y hy => ?_⟩
    · rw [i1, barN_no (by rw [i2, ← hs, ← hb]; omega)]
      exact hb
    · rcases List.mem_cons.mp hy with rfl | hy
      · rw [← hb]
        exact h1
      · exact g2 y hy
theorem barI_A {rs : HH.Row} {m : Nat} {w : Cow} {B : List Cow} (hw : w.1 = m) (hs : w.2.1 = sS rs m) (ht : w.2.2 = tS rs m) (hB : BarI rs (m + 1) B) : ∀ {A : List Cow}, NfR (A ++ B) → BarI rs m (A ++ B) → (∀ x ∈ A, x.1 < m) → (∀ x, A.getLast? = some x → ¬ (w.2.1 - tsumC B - x.2.2 > x.2.1)) →
    BarI rs (m + 1) (A ++ (w.1, (w.2.1 - tsumC B, w.2.2)) :: B) ∧ (∀ x r, A = x :: r → w.2.1 ≤ x.2.1 + x.2.2 + tsumC (r ++ B)) ∧ ∀ x ∈ A, w.2.1 ≤ barN rs x.1 (m - x.1 - 1)
  | [], _, _, _, _ => by
    refine ⟨⟨?_, hB⟩, fun x r e => (by cases e), fun x hx => by cases hx⟩
    show w.2.1 - tsumC B + w.2.2 + tsumC B = barN rs w.1 (m + 1 - w.1 - 1)
    rw [hw, show m + 1 - m - 1 = 0 by omega]
    show _ = sS rs m + tS rs m
    omega
  | [x], n, b, l, la => by
    obtain ⟨i1, i2⟩ := bar_idx (l x (List.mem_cons_self ..))
    have z := la x rfl
    have hb : x.2.1 + x.2.2 + tsumC ([] ++ B) = barN rs x.1 (m - x.1 - 1) := b.1
    have hc : w.2.1 ≤ x.2.1 + x.2.2 + tsumC ([] ++ B) := by
      show w.2.1 ≤ x.2.1 + x.2.2 + tsumC B
      omega
    refine ⟨⟨?_, ?_⟩, fun y r e => ?_, fun y hy => ?_⟩
    · show x.2.1 + x.2.2 + (w.2.2 + tsumC B) = barN rs x.1 (m + 1 - x.1 - 1)
      rw [i1, barN_yes (by rw [i2, ← hs, ← hb]; exact hc), i2, ← hb, ← ht]
      show _ = x.2.1 + x.2.2 + tsumC B + w.2.2
      omega
    · show BarI rs (m + 1) ((w.1, (w.2.1 - tsumC B, w.2.2)) :: B)
      refine ⟨?_, hB⟩
      show w.2.1 - tsumC B + w.2.2 + tsumC B = barN rs w.1 (m + 1 - w.1 - 1)
      rw [hw, show m + 1 - m - 1 = 0 by omega]
      show _ = sS rs m + tS rs m
      omega
    · cases e
      exact hc
    · rcases List.mem_cons.mp hy with rfl | hy
      · rw [← hb]
        exact hc
      · cases hy
  | x :: y :: A, n, b, l, la => by
    obtain ⟨i1, i2⟩ := bar_idx (l x (List.mem_cons_self ..))
    obtain ⟨g1, g2, g3⟩ := barI_A hw hs ht hB (A := y :: A) n.2 b.2 (fun z hz => l z (List.mem_cons_of_mem _ hz)) (fun z hz => la z (by rw [List.getLast?_cons_cons]; exact hz))
    have hb : x.2.1 + x.2.2 + tsumC (y :: A ++ B) = barN rs x.1 (m - x.1 - 1) := b.1
    have nn := n.1
    have hy := g2 y A rfl
    have hc : w.2.1 ≤ x.2.1 + x.2.2 + tsumC (y :: A ++ B) := by
      show w.2.1 ≤ x.2.1 + x.2.2 + (y.2.2 + tsumC (A ++ B))
      omega
    refine ⟨⟨?_, g1⟩, fun z r e => ?_, fun z hz => ?_⟩
    · show x.2.1 + x.2.2 + tsumC (y :: A ++ (w.1, (w.2.1 - tsumC B, w.2.2)) :: B) = barN rs x.1 (m + 1 - x.1 - 1)
      rw [i1, barN_yes (by rw [i2, ← hs, ← hb]; exact hc), i2, ← hb, ← ht, tsumC_app, tsumC_app]
      show x.2.1 + x.2.2 + (tsumC (y :: A) + (w.2.2 + tsumC B)) = _
      omega
    · cases e
      exact hc
    · rcases List.mem_cons.mp hz with rfl | hz
      · rw [← hb]
        exact hc
      · exact g3 z hz
theorem bef_ins {m j i : Nat} {Y : List Nat} (hj : j ≠ m) (hi : i ≠ m) : ∀ X : List Nat, (bef (X ++ m :: Y) j i = true ↔ bef (X ++ Y) j i = true)
  | [] => by
    show bef (m :: Y) j i = true ↔ bef Y j i = true
    rw [bef_cons]
    constructor
    · rintro (⟨h, _⟩ | h)
      · exact absurd h.symm hj
      · exact h
    · exact .inr
  | x :: X => by
    show bef (x :: (X ++ m :: Y)) j i = true ↔ bef (x :: (X ++ Y)) j i = true
    rw [bef_cons, bef_cons, bef_ins hj hi X]
    have e : i ∈ X ++ m :: Y ↔ i ∈ X ++ Y := by
      simp [hi]
    rw [e]
theorem bef_new {m i : Nat} {Y : List Nat} (hY : m ∉ Y) : ∀ X : List Nat, m ∉ X → (bef (X ++ m :: Y) m i = true ↔ i ∈ Y)
  | [], _ => by
    show bef (m :: Y) m i = true ↔ i ∈ Y
    rw [bef_cons]
    constructor
    · rintro (⟨_, h⟩ | h)
      · exact h
      · exact absurd (bef_mem h).1 hY
    · exact fun h => .inl ⟨rfl, h⟩
  | x :: X, h => by
    show bef (x :: (X ++ m :: Y)) m i = true ↔ i ∈ Y
    rw [bef_cons, bef_new hY X (fun z => h (List.mem_cons_of_mem _ z))]
    constructor
    · rintro (⟨e, _⟩ | h1)
      · exact absurd (List.mem_cons.mpr (.inl e.symm)) h
      · exact h1
    · exact .inr
theorem tag_app : ∀ (k : Nat) (a b : HH.Row), tag k (a ++ b) = tag k a ++ tag (k + a.length) b
  | k, [], b => rfl
  | k, x :: a, b => by
    show (k, x) :: tag (k + 1) (a ++ b) = (k, x) :: (tag (k + 1) a ++ tag (k + (a.length + 1)) b)
    rw [tag_app (k + 1) a b, show k + 1 + a.length = k + (a.length + 1) by omega]
/-- the end of the first m, one put in behind the other -/
structure EndP (rs : HH.Row) (m : Nat) (N : List Cow) : Prop where
  st : Steps (tag 0 (rs.take m)) N
  nf : NfR N
  ba : BarI rs m N
  ids : (N.map (·.1)).Perm (List.range m)
  by' : ∀ i j : Nat, i < j → j < m → (bef (N.map (·.1)) j i = true ↔ barN rs i (j - i - 1) < sS rs j)
theorem endP {rs : HH.Row} (ht : ∀ b ∈ rs, 0 ≤ b.2) : ∀ m, m ≤ rs.length → ∃ N, EndP rs m N
  | 0, _ => ⟨[], .refl _, True.intro, True.intro, .refl _, fun i j _ h => absurd h (Nat.not_lt_zero _)⟩
  | m + 1, h => by
    obtain ⟨N, e⟩ := endP ht m (by omega)
    have hm : m < rs.length := by omega
    have hg := row_get hm
    have hmem : ∀ x ∈ N, x.1 < m := fun x hx => List.mem_range.mp (e.ids.mem_iff.mp (List.mem_map_of_mem (f := (·.1)) hx))
    obtain ⟨A, B, e1, pb, st, la⟩ := ins_end (m, (sS rs m, tS rs m)) N.length N [] rfl True.intro
    rw [List.append_nil] at e1
    subst e1
    have t0 : 0 ≤ tS rs m := by
      have := ht (sS rs m, tS rs m) (List.mem_of_getElem? hg)
      exact this
    have hA : ∀ x ∈ A, x.1 < m := fun x hx => hmem x (List.mem_append_left _ hx)
    have hB : ∀ x ∈ B, x.1 < m := fun x hx => hmem x (List.mem_append_right _ hx)
    have baB : BarI rs m B := by
      have := e.ba
      clear e st la pb hmem hA
      induction A with
      | nil => exact this
      | cons x A ih => exact ih this.2
    obtain ⟨b1, b2⟩ := barI_B (s := sS rs m) rfl pb baB hB
    obtain ⟨a1, _, a3⟩ := barI_A (w := (m, (sS rs m, tS rs m))) rfl rfl rfl b1 e.nf e.ba hA la
    refine ⟨A ++ (m, (sS rs m - tsumC B, tS rs m)) :: B, ?_, ?_, a1, ?_, ?_⟩
    · have e2 : rs.take (m + 1) = rs.take m ++ [(sS rs m, tS rs m)] := by
        rw [List.take_add_one, hg]
        rfl
      have e3 : tag 0 (rs.take (m + 1)) = tag 0 (rs.take m) ++ [(m, (sS rs m, tS rs m))] := by
        rw [e2, tag_app, List.length_take, Nat.min_eq_left (by omega), Nat.zero_add]
        rfl
      rw [e3]
      have s1 := e.st.under [] [(m, (sS rs m, tS rs m))]
      refine Steps.trans (by simpa using s1) ?_
      have e4 : sS rs m - tsumC [] = sS rs m := Int.sub_zero _
      have st' := st
      dsimp only at st'
      rw [e4] at st'
      simpa using st'
    · refine nfr_in e.nf la fun b r eb => ?_
      subst eb
      have := pb.1
      show ¬ (b.2.1 - tS rs m > sS rs m - (b.2.2 + tsumC r))
      dsimp only at this
      omega
    · rw [List.map_append, List.map_cons, List.range_succ]
      have ids := e.ids
      rw [List.map_append] at ids
      refine List.perm_middle.trans ?_
      refine (List.Perm.cons m ids).trans ?_
      exact List.perm_append_comm (l₁ := [m]) (l₂ := List.range m)
    · intro i j hij hj
      have eids : (A ++ (m, (sS rs m - tsumC B, tS rs m)) :: B).map (·.1) = A.map (·.1) ++ m :: B.map (·.1) := by
        rw [List.map_append, List.map_cons]
      rw [eids]
      have eids0 : (A ++ B).map (·.1) = A.map (·.1) ++ B.map (·.1) := List.map_append
      have noA : m ∉ A.map (·.1) := fun z => by
        obtain ⟨x, hx, ex⟩ := List.mem_map.mp z
        have := hA x hx
        omega
      have noB : m ∉ B.map (·.1) := fun z => by
        obtain ⟨x, hx, ex⟩ := List.mem_map.mp z
        have := hB x hx
        omega
      by_cases hjm : j = m
      · subst hjm
        rw [bef_new noB _ noA]
        constructor
        · intro z
          obtain ⟨x, hx, rfl⟩ := List.mem_map.mp z
          exact b2 x hx
        · intro z
          have hi : i ∈ (A ++ B).map (·.1) := e.ids.mem_iff.mpr (List.mem_range.mpr hij)
          rw [eids0] at hi
          rcases List.mem_append.mp hi with hi | hi
          · obtain ⟨x, hx, rfl⟩ := List.mem_map.mp hi
            have := a3 x hx
            dsimp only at this
            omega
          · exact hi
      · rw [bef_ins hjm (by omega), ← eids0]
        exact e.by' i j hij (by omega)
/-- the document's sum: who passes whom till the last -/
theorem never_iff {rs : HH.Row} {L : List Cow} (ht : ∀ b ∈ rs, 0 ≤ b.2) (h : Steps (tag 0 rs) L) (nf : Nf L) {i j : Nat} (hij : i < j) (hj : j < rs.length) : bef (L.map (·.1)) j i = true ↔ barN rs i (j - i - 1) < sS rs j := by
  obtain ⟨N, e⟩ := endP ht rs.length (Nat.le_refl _)
  have st := e.st
  rw [List.take_length] at st
  rw [nf_any (good_tag ht).tl h nf st (nfr_nf e.nf)]
  exact e.by' i j hij hj
/-! the list of those -/
def nevP (rs : HH.Row) (i m : Nat) : Bool := decide (sS rs (i + 1 + m) ≤ barN rs i m)
def nevL (rs : HH.Row) (i n : Nat) : List Nat := ((List.range n).filter (nevP rs i)).map (i + 1 + ·)
theorem nevL_yes {rs : HH.Row} {i n : Nat} (h : nevP rs i n = true) : nevL rs i (n + 1) = nevL rs i n ++ [i + 1 + n] := by
  unfold nevL
  rw [List.range_succ, List.filter_append, List.map_append, List.filter_cons_of_pos h]
  rfl
theorem nevL_no {rs : HH.Row} {i n : Nat} (h : nevP rs i n = false) : nevL rs i (n + 1) = nevL rs i n := by
  unfold nevL
  rw [List.range_succ, List.filter_append, List.map_append, List.filter_cons_of_neg (by rw [h]; decide)]
  exact List.append_nil _
theorem nevL_len (rs : HH.Row) (i n : Nat) : (nevL rs i n).length ≤ n := by
  unfold nevL
  rw [List.length_map]
  have := List.length_filter_le (nevP rs i) (List.range n)
  rw [List.length_range] at this
  exact this
theorem nevL_mem {rs : HH.Row} {i n k : Nat} (h : k ∈ nevL rs i n) : i < k ∧ k < i + 1 + n := by
  unfold nevL at h
  obtain ⟨m, hm, rfl⟩ := List.mem_map.mp h
  have := List.mem_range.mp (List.mem_filter.mp hm).1
  omega
theorem bar_sum (rs : HH.Row) (i : Nat) : ∀ n, barN rs i n = sS rs i + tS rs i + ((nevL rs i n).map (tS rs)).sum
  | 0 => by
    show sS rs i + tS rs i = sS rs i + tS rs i + (([] : List Int).sum)
    simp
  | n + 1 => by
    have ih := bar_sum rs i n
    cases h : nevP rs i n with
    | true =>
      rw [nevL_yes h, barN_yes (of_decide_eq_true h), ih, List.map_append, List.sum_append]
      simp
      omega
    | false =>
      rw [nevL_no h, barN_no (of_decide_eq_false h), ih]
theorem sS_take {rs : HH.Row} {n k : Nat} (h : k < n) : sS (rs.take n) k = sS rs k ∧ tS (rs.take n) k = tS rs k := by
  unfold sS tS
  rw [List.getElem?_take, if_pos h]
  exact ⟨rfl, rfl⟩
theorem barN_take {rs : HH.Row} {n i : Nat} : ∀ m, i + m < n → barN (rs.take n) i m = barN rs i m
  | 0, h => by
    show sS (rs.take n) i + tS (rs.take n) i = sS rs i + tS rs i
    obtain ⟨e1, e2⟩ := sS_take (rs := rs) (show i < n by omega)
    rw [e1, e2]
  | m + 1, h => by
    show (if sS (rs.take n) (i + 1 + m) ≤ barN (rs.take n) i m then barN (rs.take n) i m + tS (rs.take n) (i + 1 + m) else barN (rs.take n) i m) = (if sS rs (i + 1 + m) ≤ barN rs i m then barN rs i m + tS rs (i + 1 + m) else barN rs i m)
    obtain ⟨e1, e2⟩ := sS_take (rs := rs) (show i + 1 + m < n by omega)
    rw [e1, e2, barN_take m (by omega)]
theorem nevL_take {rs : HH.Row} {n i : Nat} : ∀ m, i + m < n → nevL (rs.take n) i m = nevL rs i m
  | 0, _ => rfl
  | m + 1, h => by
    have ih := nevL_take (rs := rs) (n := n) (i := i) m (by omega)
    have e : nevP (rs.take n) i m = nevP rs i m := by
      unfold nevP
      rw [(sS_take (rs := rs) (show i + 1 + m < n by omega)).1, barN_take m (by omega)]
    cases h : nevP rs i m with
    | true => rw [nevL_yes (e.trans h), nevL_yes h, ih]
    | false => rw [nevL_no (e.trans h), nevL_no h, ih]
/-! promises -/
def spNeverPass (K : PySem.W.Frag) : Sp := fun vs H Q _ => ∃ (v : V) (rs : HH.Row) (i : Nat), vs = [v, .int (i : Int)] ∧ RowAt K H v rs ∧ rs.length ≤ 1000 ∧ i < rs.length ∧ RetL (natsV (nevL rs i (rs.length - i - 1))) H Q
def spLeast (K : PySem.W.Frag) : Sp := fun vs H Q _ => ∃ (v : V) (rs : HH.Row) (i j : Nat), vs = [v, .int (i : Int), .int (j : Int)] ∧ RowAt K H v rs ∧ rs.length ≤ 1000 ∧ i < j ∧ j < rs.length ∧ RetV (.int (barN rs i (j - i - 1) + 1)) H Q
def spEver (K : PySem.W.Frag) : Sp := fun vs H Q _ => ∃ (v : V) (rs : HH.Row) (i j : Nat), vs = [v, .int (i : Int), .int (j : Int)] ∧ RowAt K H v rs ∧ rs.length ≤ 1000 ∧ i < j ∧ j < rs.length ∧ RetV (.bl (decide (barN rs i (j - i - 1) < sS rs j))) H Q
end HH
set_option maxHeartbeats 4000000
namespace HH
open PySem PySem.Spec PyProof.Rows L2 Evl RZ
section
variable {K : PySem.W.Frag} {σ : L2.St} {H H' : Hp} {ta tb te : TE} {x y v : V}
theorem given_ix (g : Nat → V) (l : List Nat) : given l.length (fun _ => true) (fun k => g (ixN l k)) = l.map g := by
  unfold given
  rw [List.filter_eq_self.mpr (fun _ _ => rfl)]
  refine List.ext_getElem? fun k => ?_
  rw [List.getElem?_map, List.getElem?_map]
  by_cases h : k < l.length
  · rw [List.getElem?_range h, ixN_at h]
    rfl
  · rw [List.getElem?_eq_none (by rw [List.length_range]; omega), List.getElem?_eq_none (by omega)]
    rfl
theorem rc_sum {p : Addr} {ns : List Int} (h : H p = some (.lst (ns.map V.int))) : RC (rSum K) [.ref p] H (.int ns.sum) := fun H1 e1 Q q => ⟨p, ns, rfl, sq_of (e1 _ _ h), q H1 (Ex.refl H1)⟩
theorem sv_least {rs : HH.Row} {i j : Nat} (h : RowAt K H v rs) (hl : rs.length ≤ 1000) (hij : i < j) (hj : j < rs.length) : SpV (spLeast K) [v, .int (i : Int), .int (j : Int)] H (.int (barN rs i (j - i - 1) + 1)) := fun H1 e Q q E => ⟨v, rs, i, j, rfl, h.ex e, hl, hij, hj, q⟩
theorem sv_ever {rs : HH.Row} {i j : Nat} (h : RowAt K H v rs) (hl : rs.length ≤ 1000) (hij : i < j) (hj : j < rs.length) : SpV (spEver K) [v, .int (i : Int), .int (j : Int)] H (.bl (decide (barN rs i (j - i - 1) < sS rs j))) := fun H1 e Q q E => ⟨v, rs, i, j, rfl, h.ex e, hl, hij, hj, q⟩
/-- three arguments by names, the last first -/
theorem ev_callR3 {sp : Sp} {E : XK} {z x1 x2 x3 : V} {t1 t2 t3 : TE} (h1 : Ev t1 σ H x1) (h2 : Ev t2 σ H x2) (h3 : Ev t3 σ H x3) (hs : SpV sp [x3, x2, x1] H z) : Ev (tCallN 0 3 sp (fun _ zs => zs.reverse) E tNil (tCons t1 (tCons t2 (tCons t3 tNil)))) σ H z := fun H1 e Q q =>
  h1 H1 e _ fun H2 e2 => h2 H2 (e.trans e2) _ fun H3 e3 => h3 H3 ((e.trans e2).trans e3) _ fun H4 e4 => ⟨rfl, rfl, hs H4 (((e.trans e2).trans e3).trans e4) Q (fun H5 e5 => q H5 (((e2.trans e3).trans e4).trans e5)) E⟩
end
theorem vals_rev : ∀ {zs : List V} {ws : List Value}, Vals zs ws → Vals zs.reverse ws.reverse
  | _, _, .nil => .nil
  | _, _, .cons a b => by
    rw [List.reverse_cons, List.reverse_cons]
    exact (vals_rev b).append (.cons a .nil)
/-! strengths stay within bounds on a way -/
def LowN (n : Nat) (b : Int × Int) : Prop := b.1.natAbs ≤ 10 ^ 12 * (n + 1) ∧ 0 ≤ b.2 ∧ b.2 < 10 ^ 12
theorem Tame.lowN {b : Int × Int} (h : Tame b) : LowN 0 b := by
  unfold Tame at h
  unfold LowN
  have e : (10 : Int) ^ 12 = 1000000000000 := by decide
  have e2 : (10 : Nat) ^ 12 = 1000000000000 := by decide
  rw [e] at h
  rw [e, e2]
  omega
theorem MRun.low {L0 L : List Cow} {ds : List Deed} (r : MRun L0 L ds) (h : ∀ x ∈ L0, LowN 0 x.2) : ∀ x ∈ L, LowN ds.length x.2 := by
  have e : (10 : Int) ^ 12 = 1000000000000 := by decide
  have e2 : (10 : Nat) ^ 12 = 1000000000000 := by decide
  induction r with
  | nil => exact h
  | pass r hp ih =>
    rename_i pre post a b ds
    intro x hx
    rw [List.length_append]
    show LowN (ds.length + 1) x.2
    have up : ∀ y, LowN ds.length y → LowN (ds.length + 1) y := fun y hy => by
      unfold LowN at hy ⊢
      rw [e2] at hy ⊢
      omega
    simp only [List.mem_append, List.mem_cons] at hx
    rcases hx with hx | hx | hx | hx
    · exact up _ (ih x (by simp [hx]))
    · subst hx
      have ha := ih a (by simp)
      have hb := ih b (by simp)
      unfold LowN at ha hb ⊢
      rw [e, e2] at ha hb ⊢
      dsimp only
      omega
    · exact up _ (ih x (by simp [hx]))
    · exact up _ (ih x (by simp [hx]))
  | fall r hp ih =>
    rename_i pre post a b ds
    intro x hx
    rw [List.length_append]
    show LowN (ds.length + 1) x.2
    have up : ∀ y, LowN ds.length y → LowN (ds.length + 1) y := fun y hy => by
      unfold LowN at hy ⊢
      rw [e2] at hy ⊢
      omega
    simp only [List.mem_append, List.mem_cons] at hx
    rcases hx with hx | hx | hx | hx
    · exact up _ (ih x (by simp [hx]))
    · exact up _ (ih x (by simp [hx]))
    · subst hx
      have ha := ih a (by simp)
      have hb := ih b (by simp)
      unfold LowN at ha hb ⊢
      rw [e, e2] at ha hb ⊢
      dsimp only
      omega
    · exact up _ (ih x (by simp [hx]))
theorem LowN.low {n : Nat} {b : Int × Int} (h : LowN n b) (hn : n ≤ 1000) : Low b := by
  unfold LowN at h
  unfold Low
  have e : (10 : Int) ^ 12 = 1000000000000 := by decide
  have e2 : (10 : Nat) ^ 12 = 1000000000000 := by decide
  have e3 : (10 : Nat) ^ 18 = 1000000000000000000 := by decide
  rw [e, e2] at h
  rw [e3]
  omega
theorem rows_low {L : List Cow} {n : Nat} (h : ∀ x ∈ L, LowN n x.2) (hn : n ≤ 1000) : (∀ b ∈ rowsOf L, Low b) ∧ ∀ b ∈ rowsOf L, 0 ≤ b.2 := by
  refine ⟨fun b hb => ?_, fun b hb => ?_⟩
  · obtain ⟨x, hx, rfl⟩ := List.mem_map.mp hb
    exact (h x hx).low hn
  · obtain ⟨x, hx, rfl⟩ := List.mem_map.mp hb
    exact (h x hx).2.1
theorem tag_low {rs : HH.Row} (h : ∀ b ∈ rs, Tame b) : ∀ x ∈ tag 0 rs, LowN 0 x.2 := fun x hx => by
  refine (h x.2 ?_).lowN
  rw [← tag_snd 0 rs]
  exact List.mem_map_of_mem (f := (·.2)) hx
/-- a pair among pairs -/
theorem any_pairs {ps : HH.Row} {b : Int × Int} : ((ps.map beastD).any fun z => PyData.eqv z (beastD b)) = decide (b ∈ ps) := by
  rw [Bool.eq_iff_iff, List.any_eq_true, decide_eq_true_iff]
  constructor
  · rintro ⟨z, hz, h⟩
    obtain ⟨c, hc, rfl⟩ := List.mem_map.mp hz
    rw [beast_eqv] at h
    rw [← of_decide_eq_true h]
    exact hc
  · intro h
    exact ⟨beastD b, List.mem_map_of_mem h, by rw [beast_eqv]; exact decide_eq_true rfl⟩
end HH
set_option maxHeartbeats 4000000
namespace HH
open PySem PySem.Spec PyProof.Rows L2 Evl RZ
/-! one strength otherwise -/
def withS (rs : HH.Row) (p : Nat) (s : Int) : HH.Row := rs.take p ++ [(s, tS rs p)] ++ rs.drop (p + 1)
theorem withS_len {rs : HH.Row} {p : Nat} {s : Int} (h : p < rs.length) : (withS rs p s).length = rs.length := by
  unfold withS
  rw [List.length_append, List.length_append, List.length_take, List.length_drop]
  show min p rs.length + 1 + (rs.length - (p + 1)) = rs.length
  omega
theorem withS_lt {rs : HH.Row} {p k : Nat} {s : Int} (h : p < rs.length) (hk : k < p) : sS (withS rs p s) k = sS rs k ∧ tS (withS rs p s) k = tS rs k := by
  unfold sS tS withS
  rw [List.append_assoc, List.getElem?_append_left (by rw [List.length_take]; omega), List.getElem?_take, if_pos hk]
  exact ⟨rfl, rfl⟩
theorem withS_at {rs : HH.Row} {p : Nat} {s : Int} (h : p < rs.length) : sS (withS rs p s) p = s := by
  unfold sS withS
  have e : (rs.take p).length = p := by rw [List.length_take]; omega
  rw [List.append_assoc, List.getElem?_append_right (by omega), e, Nat.sub_self]
  rfl
theorem withS_tl {rs : HH.Row} {p : Nat} {s : Int} (h : p < rs.length) (ht : ∀ b ∈ rs, 0 ≤ b.2) : ∀ b ∈ withS rs p s, 0 ≤ b.2 := fun b hb => by
  unfold withS at hb
  simp only [List.mem_append, List.mem_singleton] at hb
  rcases hb with (hb | hb) | hb
  · exact ht b (List.mem_of_mem_take hb)
  · subst hb
    exact ht (sS rs p, tS rs p) (List.mem_of_getElem? (row_get h))
  · exact ht b (List.mem_of_mem_drop hb)
theorem barN_alike {rs ss : HH.Row} {i : Nat} : ∀ m, (∀ k, k ≤ i + m → sS rs k = sS ss k ∧ tS rs k = tS ss k) → barN rs i m = barN ss i m
  | 0, h => by
    obtain ⟨e1, e2⟩ := h i (by omega)
    show sS rs i + tS rs i = sS ss i + tS ss i
    rw [e1, e2]
  | m + 1, h => by
    obtain ⟨e1, e2⟩ := h (i + 1 + m) (by omega)
    have ih := barN_alike (rs := rs) (ss := ss) (i := i) m fun k hk => h k (by omega)
    show (if sS rs (i + 1 + m) ≤ barN rs i m then barN rs i m + tS rs (i + 1 + m) else barN rs i m) = (if sS ss (i + 1 + m) ≤ barN ss i m then barN ss i m + tS ss (i + 1 + m) else barN ss i m)
    rw [e1, e2, ih]
theorem barN_withS {rs : HH.Row} {i j : Nat} {s : Int} (hij : i < j) (hj : j < rs.length) : barN (withS rs j s) i (j - i - 1) = barN rs i (j - i - 1) := barN_alike _ fun k hk => withS_lt hj (by omega)
def spWithS (K : PySem.W.Frag) : Sp := fun vs H Q _ => ∃ (v : V) (rs : HH.Row) (p : Nat) (s : Int), vs = [v, .int (p : Int), .int s] ∧ RowAt K H v rs ∧ rs.length ≤ 1000 ∧ p < rs.length ∧ ∀ v' H', Ex H H' → RowAt K H' v' (withS rs p s) → Q v' H'
/-- a pair of a run, by the sum -/
theorem due_iff {rs : HH.Row} {L : List Cow} {ps : List (Int × Int)} (ht : ∀ b ∈ rs, 0 ≤ b.2) (r : PRun (tag 0 rs) L ps) (nil : HH.passL (rowsOf L) = []) {a c : Nat} (hac : a < c) (hc : c < rs.length) : decide (((a : Int), (c : Int)) ∈ ps) = decide (barN rs a (c - a - 1) < sS rs c) := by
  obtain ⟨td, _, _⟩ := r.told ht
  rw [decide_eq_decide, ← never_iff ht r.steps (nf_of nil) hac hc, td.mem]
  constructor
  · rintro ⟨i', j', _, e, h⟩
    have e1 : (a : Int) = (i' : Int) := congrArg Prod.fst e
    have e2 : (c : Int) = (j' : Int) := congrArg Prod.snd e
    have e1' : a = i' := by omega
    have e2' : c = j' := by omega
    rw [e1', e2']
    exact h
  · intro h
    exact ⟨a, c, hac, rfl, h⟩
section
variable {K : PySem.W.Frag} {σ : L2.St} {H H' : Hp} {ta tb te : TE} {x y v : V}
/-- three arguments by names -/
theorem ev_callN3 {sp : Sp} {E : XK} {z x1 x2 x3 : V} {t1 t2 t3 : TE} {gV : List V → List V → List V} (h1 : Ev t1 σ H x1) (h2 : Ev t2 σ H x2) (h3 : Ev t3 σ H x3) (hs : SpV sp (gV [] [x1, x2, x3]) H z) : Ev (tCallN 0 3 sp gV E tNil (tCons t1 (tCons t2 (tCons t3 tNil)))) σ H z := fun H1 e Q q =>
  h1 H1 e _ fun H2 e2 => h2 H2 (e.trans e2) _ fun H3 e3 => h3 H3 ((e.trans e2).trans e3) _ fun H4 e4 => ⟨rfl, rfl, hs H4 (((e.trans e2).trans e3).trans e4) Q (fun H5 e5 => q H5 (((e2.trans e3).trans e4).trans e5)) E⟩
theorem el_rep3 {xs : List V} (h : EvL te σ H xs) (hz : xs.length ≤ 1000) : EvL (tOp rRep te (tC (.int 3))) σ H (xs ++ (xs ++ xs)) := fun H1 e Q q =>
  h H1 e _ fun p H2 hp e2 h2 => ⟨p, 3, xs, rfl, rfl, h2, by decide, by decide, sz_of (by show xs.length * 3 ≤ 100000; omega), fun c hc => by
    have e3 : (List.replicate (3 : Int).toNat xs).flatten = xs ++ (xs ++ xs) := by
      show xs ++ (xs ++ (xs ++ [])) = xs ++ (xs ++ xs)
      rw [List.append_nil]
    rw [e3]
    exact q c _ (fresh_back e2 hc) (e2.trans (Ex.new hc)) upd_same⟩
/-- a list that stands, then a new one -/
theorem el_catV {l : Addr} {xs ys : List V} (ha : Ev ta σ H (.ref l)) (hl : H l = some (.lst xs)) (hb : EvL tb σ H ys) (hz : xs.length + ys.length ≤ 100000) : EvL (tOp rCat ta tb) σ H (xs ++ ys) := fun H1 e Q q =>
  ha H1 e _ fun H2 e2 => hb H2 (e.trans e2) _ fun p H3 hp e3 h3 => ⟨l, p, xs, ys, rfl, rfl, ((e.trans e2).trans e3) _ _ hl, h3, sz_of hz, fun c hc => q c _ (fresh_back (e2.trans e3) hc) ((e2.trans e3).trans (Ex.new hc)) upd_same⟩
end
/-- the first last -/
def rot {α : Type} (l : List α) : List α := l.drop 1 ++ l.take 1
theorem vals_rot : ∀ {zs : List V} {ws : List Value}, Vals zs ws → Vals (rot zs) (rot ws)
  | _, _, .nil => .nil
  | _, _, .cons a b => Vals.append b (.cons a .nil)
end HH
set_option maxHeartbeats 4000000
namespace HH
open PySem PySem.Spec PyProof.Rows L2 Evl RZ
section
variable {X : Cx}
theorem flat_ints (ns : List Int) : (ns.map V.int).all flatV = true := List.all_eq_true.mpr fun v hv => by
  obtain ⟨n, _, rfl⟩ := List.mem_map.mp hv
  rfl
/-- the first place of an int in a tuple of ints -/
def rTIdx (K : PySem.W.Frag) : V → List V → Hp → VK → Prop := fun x as H Q => ∃ (a : Addr) (ns : List Int) (n : Int) (k : Nat), x = .ref a ∧ as = [.int n] ∧ SqT K H a (ns.map V.int) ∧ ns[k]? = some n ∧ (∀ m, m < k → ns[m]? ≠ some n) ∧ Q (.int (k : Int)) H
theorem mt_tup_indexI : MtR X "tuple.index" (rTIdx X.K) := by
  intro pins st σ H x as v args Q inv relx rela hq
  obtain ⟨a, ns, n, k, rfl, rfl, tup, here, first', q⟩ := hq
  cases relx
  obtain ⟨arg, rfl, tok, rfl⟩ := vals1 rela
  obtain ⟨vals, rv, place, _⟩ := inv.tuple tup
  obtain ⟨⟨oc, od, odt, osl⟩, got, isT, sq, isS⟩ := place
  dsimp only at isT isS
  subst isT isS
  have size : vals.toArray.size = ns.length := by
    have := rv.length
    rw [List.length_map] at this
    rw [List.size_toArray]
    omega
  have kin : k < vals.toArray.size := by
    have := (List.getElem?_eq_some_iff.mp here).1
    omega
  have item : ∀ (m : Nat) (lt : m < vals.toArray.size), ∃ (y : Int) (ty : Tok), ns[m]? = some y ∧ vals.toArray[m] = Value.int y ty := fun m lt => by
    have lt' : m < ns.length := by omega
    obtain ⟨w, hw, ty, ew⟩ := rv.get (i := m) (x := V.int ns[m]) (by rw [List.getElem?_map, List.getElem?_eq_getElem lt']; rfl)
    refine ⟨ns[m], ty, List.getElem?_eq_getElem lt', ?_⟩
    obtain ⟨_, e⟩ := List.getElem?_eq_some_iff.mp hw
    subst ew
    rw [List.getElem_toArray]
    exact e
  have same : ∀ (y : Int) (ty : Tok), eqU (.int n) (Value.int y ty) = decide (y = n) := fun y ty => by
    show (y == n) = decide (y = n)
    exact Bool.beq_eq_decide_eq y n
  refine call_meets PySem.F.slot_tuple_index ⟨_, got, rfl⟩ PySem.F.entry_tuple_index (PySem.F.args_tuple_index_2 _ _) (TI.tuple_indexAt a vals.toArray sq od osl (.int n tok) (eqU (.int n)) k kin ?_ ?_) ⟨got, fun y hy => mem_eqAt (x := V.int n) ⟨tok, rfl⟩ rfl rv (flat_ints ns) y (by simpa using hy), ⟨V.int (k : Nat), H, inv.tok _, ⟨_, rfl⟩, q⟩⟩
  · obtain ⟨y, ty, h1, h2⟩ := item k kin
    rw [h2, same, decide_eq_true]
    exact Option.some.inj (h1.symm.trans here)
  · intro m lt hmk
    obtain ⟨y, ty, h1, h2⟩ := item m lt
    rw [h2, same, decide_eq_false]
    intro e
    subst e
    exact first' m hmk h1
end
/-! ### right behind whom one comes to stand -/
def stopAt (l : List Nat) (j : Nat) : V := if j = 0 then .non else .int (ixN l (j - 1) : Int)
theorem stop_flat (l : List Nat) (j : Nat) : Flat (stopAt l j) := by
  unfold stopAt
  split
  · exact True.intro
  · exact True.intro
def spStopped (K : PySem.W.Frag) : Sp := fun vs H Q _ => ∃ (v : V) (rs : HH.Row) (i : Nat), vs = [v, .int (i : Int)] ∧ RowAt K H v rs ∧ rs.length ≤ 1000 ∧ i < rs.length ∧ (∀ b ∈ rs, 0 ≤ b.2) ∧
  ∀ (L : List Cow) (j : Nat) (H' : Hp), Ex H H' → Steps (tag 0 (rs.take (i + 1))) L → Nf L → (L.map (·.1))[j]? = some i → Q (stopAt (L.map (·.1)) j) H'
def spStop (K : PySem.W.Frag) : Sp := fun vs H Q _ => ∃ (p : Addr) (v : V) (rs : HH.Row) (i n : Nat), vs = [.ref p, v, .int (i : Int)] ∧ RowAt K H v rs ∧ rs.length ≤ 30 ∧ i < rs.length ∧ (∀ b ∈ rs, 0 ≤ b.2) ∧ Bx H p n ∧ n + 1000 < Lim ∧
  ∀ (L : List Cow) (j : Nat) (H' : Hp), ExB p H H' → Bx H' p (n + 1000) → Steps (tag 0 (rs.take (i + 1))) L → Nf L → (L.map (·.1))[j]? = some i → Q (stopAt (L.map (·.1)) j) H'
theorem stop_one {rs : HH.Row} {i j j' : Nat} {L L' : List Cow} (ht : ∀ b ∈ rs, 0 ≤ b.2) (s : Steps (tag 0 rs) L) (n : Nf L) (h : (L.map (·.1))[j]? = some i) (s' : Steps (tag 0 rs) L') (n' : Nf L') (h' : (L'.map (·.1))[j']? = some i) : stopAt (L.map (·.1)) j = stopAt (L'.map (·.1)) j' := by
  have e := nf_any (good_tag ht).tl s n s' n'
  subst e
  have nd : (L.map (·.1)).Nodup := by
    have ids := s.ids
    rw [tag_ids] at ids
    exact ids.nodup_iff.mpr List.nodup_range
  rw [nd_at nd h h']
/-- w has passed all of B -/
structure InsR (w : Cow) (N A B : List Cow) : Prop where
  e : N = A ++ B
  st : Steps (N ++ [w]) (A ++ (w.1, (w.2.1 - tsumC B, w.2.2)) :: B)
  pb : PB w.2.1 B
theorem InsR.start (w : Cow) (N : List Cow) : InsR w N N [] := by
  refine ⟨(List.append_nil N).symm, ?_, True.intro⟩
  have e : (w.1, (w.2.1 - tsumC [], w.2.2)) = w := by
    show (w.1, (w.2.1 - 0, w.2.2)) = w
    rw [Int.sub_zero]
  rw [e]
  exact .refl _
theorem InsR.next {w a : Cow} {N A B : List Cow} (h : InsR w N (A ++ [a]) B) (hp : w.2.1 - tsumC B - a.2.2 > a.2.1) : InsR w N A (a :: B) := by
  refine ⟨by rw [h.e, List.append_assoc]; rfl, h.st.snoc ⟨A, B, a, (w.1, (w.2.1 - tsumC B, w.2.2)), by rw [List.append_assoc]; rfl, hp, ?_⟩, ⟨by omega, h.pb⟩⟩
  have e2 : w.2.1 - tsumC (a :: B) = w.2.1 - tsumC B - a.2.2 := by
    show w.2.1 - (a.2.2 + tsumC B) = _
    omega
  rw [e2]
theorem InsR.stop {w : Cow} {N A B : List Cow} (h : InsR w N A B) (n : NfR N) (t : 0 ≤ w.2.2) (la : ∀ x, A.getLast? = some x → ¬ (w.2.1 - tsumC B - x.2.2 > x.2.1)) : NfR (A ++ (w.1, (w.2.1 - tsumC B, w.2.2)) :: B) := by
  have hn := n
  rw [h.e] at hn
  refine nfr_in hn la fun b r eb => ?_
  have hb := h.pb
  subst eb
  have := hb.1
  show ¬ (b.2.1 - w.2.2 > w.2.1 - (b.2.2 + tsumC r))
  omega
theorem nfr_of {L : List Cow} (h : Nf L) : NfR L := by
  induction L with
  | nil => exact True.intro
  | cons a r ih =>
    cases r with
    | nil => exact True.intro
    | cons b r =>
      refine ⟨fun z => h _ ⟨[], r, a, b, rfl, z, rfl⟩, ih fun M s => ?_⟩
      have := s.under [a] []
      refine h (a :: M) ?_
      simpa using this
theorem tag_take_succ {rs : HH.Row} {m : Nat} (h : m < rs.length) : tag 0 (rs.take (m + 1)) = tag 0 (rs.take m) ++ [(m, (sS rs m, tS rs m))] := by
  have e2 : rs.take (m + 1) = rs.take m ++ [(sS rs m, tS rs m)] := by
    rw [List.take_add_one, row_get h]
    rfl
  rw [e2, tag_app, List.length_take, Nat.min_eq_left (by omega), Nat.zero_add]
  rfl
/-- two arguments by names, the last first -/
theorem ev_callN2 {σ : L2.St} {H : Hp} {sp : Sp} {E : XK} {z x1 x2 : V} {t1 t2 : TE} {gV : List V → List V → List V} (h1 : Ev t1 σ H x1) (h2 : Ev t2 σ H x2) (hs : SpV sp (gV [] [x1, x2]) H z) : Ev (tCallN 0 2 sp gV E tNil (tCons t1 (tCons t2 tNil))) σ H z := fun H1 e Q q =>
  h1 H1 e _ fun H2 e2 => h2 H2 (e.trans e2) _ fun H4 e4 => ⟨rfl, rfl, hs H4 ((e.trans e2).trans e4) Q (fun H5 e5 => q H5 ((e2.trans e4).trans e5)) E⟩
end HH
set_option maxHeartbeats 4000000
namespace HH
open PySem PySem.Spec PyProof.Rows L2 Evl RZ
/-! ### zip(list, tuple) -/
def ItzM (K : PySem.W.Frag) (a b : Addr) : It :=
  ⟨fun i H => ∃ (xs ys : List V) (x y : V), SqL K H a xs ∧ SqT K H b ys ∧ xs[i]? = some x ∧ ys[i]? = some y,
   fun i H v H' => ∃ T x y, v = .ref T ∧ H T = none ∧ H' = upd H T (.tup [x, y]) ∧ (∀ xs, SqL K H a xs → xs[i]? = some x) ∧ (∀ ys, SqT K H b ys → ys[i]? = some y),
   fun i H => ∃ xs ys : List V, SqL K H a xs ∧ SqT K H b ys ∧ xs.length = ys.length ∧ xs.length = i⟩
def MixSt (z TI TO i1 i2 a b : Addr) (i : Nat) (h : Heap) : Prop := IsZip h z TI TO .none ∧ IsTupOf2 h TI (.ref i1) (.ref i2) ∧ (∃ x y, IsTupOf2 h TO x y) ∧ h.IsListIter i1 a i ∧ h.IsTupleIter i2 b i
theorem five {c z TI TO i1 i2 : Addr} (h : c ∈ [z, TI, TO, i1, i2]) : c = z ∨ c = TI ∨ c = TO ∨ c = i1 ∨ c = i2 := by simpa using h
theorem MixSt.objs {z TI TO i1 i2 a b : Addr} {i : Nat} {h : Heap} (m : MixSt z TI TO i1 i2 a b i h) : ∀ c ∈ [z, TI, TO, i1, i2], ∃ ob, h.get? c = some ob ∧ ∀ v, ob.data ≠ .cell v := fun c hc => by
  obtain ⟨m1, m2, ⟨_, _, m3⟩, ⟨p1, g1, _, d1⟩, ⟨p2, g2, _, d2⟩⟩ := m
  rcases five hc with rfl | rfl | rfl | rfl | rfl
  · exact ⟨_, m1, fun v q => by cases q⟩
  · exact ⟨_, m2, fun v q => by cases q⟩
  · exact ⟨_, m3, fun v q => by cases q⟩
  · exact ⟨p1, g1, fun v q => by rw [d1] at q; cases q⟩
  · exact ⟨p2, g2, fun v q => by rw [d2] at q; cases q⟩
theorem turn_zipM {P : Program} {w : World} {K : PySem.W.Frag} {elts : List Expr} {kk : Nat} {tpos : Pos} {a b z TI TO i1 i2 : Addr} (S : ZipSep2 z TI TO i1 i2 [i1, a] [i2, b]) (na : a ≠ i1) (nb : b ≠ i2) :
    Turn P w K (.Tuple elts kk tpos) (ItzM K a b) [z, TI, TO, i1, i2] z (MixSt z TI TO i1 i2 a b) where
  mem := List.mem_cons_self ..
  obj := fun i h st c hc => st.objs c hc
  keep := fun i h h' st k => by
    obtain ⟨m1, m2, ⟨x, y, m3⟩, m4, m5⟩ := st
    exact ⟨k z (by simp) _ m1, k TI (by simp) _ m2, ⟨x, y, k TO (by simp) _ m3⟩, m4.at fun o q => k i1 (by simp) o q, m5.at fun o q => k i2 (by simp) o q⟩
  item := by
    intro X eP eW eK hc i pins st σ H E inv free mix goes
    subst eP eW eK
    obtain ⟨m1, m2, ⟨x0, y0, m3⟩, m4, m5⟩ := id mix
    obtain ⟨xs, ys, x, y, hxs, hys, hx, hy⟩ := goes
    obtain ⟨vx, rx, px, _⟩ := inv.list hxs
    obtain ⟨vy, ry, py, _⟩ := inv.tuple hys
    obtain ⟨u, hu, ru⟩ := rx.get hx
    obtain ⟨t, htt, rt⟩ := ry.get hy
    have old : ∀ c ∈ [z, TI, TO, i1, i2], c < st.heap.objs.size := fun c hcm => by
      obtain ⟨ob, got, _⟩ := mix.objs c hcm
      exact Heap.lt_size got
    have py' : st.heap.IsTuple b vy.toArray := py
    refine wpAny_pyNext_zipD2_item S (Draws.list (A := X.A.in1) (inv.ok.hd hc) i1 a na vx.toArray) (Draws.tuple (A := X.A.in1) (inv.ok.hd hc) i2 b nb vy.toArray) m1 m2 m3 ⟨m4, px.isList⟩ ⟨m5, py'⟩ (by have := (List.getElem?_eq_some_iff.mp hu).1; simpa using this) (by have := (List.getElem?_eq_some_iff.mp htt).1; simpa using this) fun y1 y2 h' tk hy1 hy2 z' TO' s1' s2' hT hsz hk => ?_
    have e1 : y1 = u := by
      have hh : vx.toArray[i]? = some u := by simpa using hu
      exact Option.some.inj (hy1.symm.trans hh)
    have e2 : y2 = t := by
      have hh : vy.toArray[i]? = some t := by simpa using htt
      exact Option.some.inj (hy2.symm.trans hh)
    subst e1 e2
    refine ⟨_, rfl, wpAny_letOwnedTupleGo_zip (s := { st with heap := h', toks := tk }) z' fun g z2 but => ?_⟩
    have zlt : z < st.heap.objs.size := old z (by simp)
    have made : g.get? st.heap.objs.size = some { cls := .type "tuple", data := .seq #[y1, y2] } := (but.2 _ (Nat.ne_of_gt zlt)).trans hT
    have okT : ObjOk X.prog X.w (upd H st.heap.objs.size (.tup [x, y])) g st.heap.objs.size (.tup [x, y]) := ⟨by show 2 ≤ sizeLine; decide, [y1, y2], .cons ru (.cons rt .nil), ⟨_, made, rfl, _, rfl⟩⟩
    have inv2 : Inv X pins σ (upd H st.heap.objs.size (.tup [x, y])) { st with heap := g, toks := tk } :=
      inv.turnedNew (ch := [z, TI, TO, i1, i2]) (fun c o out q => (but.2 c (fun q' => out (by simp [q']))).trans (hk c o (fun q' => out (by simp [q'])) (fun q' => out (by simp [q'])) (fun q' => out (by simp [q'])) (fun q' => out (by simp [q'])) q)) free (Nat.le_refl _) okT
    have zi1 : i1 ≠ z := fun e => S.zf1 (by rw [← e]; exact S.mem1)
    have zi2 : i2 ≠ z := fun e => S.zf2 (by rw [← e]; exact S.mem2)
    refine ⟨.ref st.heap.objs.size, _, inv2, rfl, ⟨_, x, y, rfl, inv.hok.fresh (Nat.le_refl _), rfl, fun l hl => by rw [inv.list_inj hl hxs]; exact hx, fun l hl => by rw [inv.tuple_inj hl hys]; exact hy⟩, ⟨z2, (but.2 _ S.TIz).trans (hk _ _ S.TIz S.TITO S.TIi1 S.TIi2 m2), ⟨y1, y2, (but.2 _ S.TOz).trans TO'⟩, s1'.1.at fun o q => (but.2 _ zi1).trans q, s2'.1.at fun o q => (but.2 _ zi2).trans q⟩, fun c hcm => ?_⟩
    rw [upd_ne (Nat.ne_of_lt (old c hcm))]
    exact (free c hcm).1
  done := by
    intro X eP eW eK hc i pins st σ H E inv free mix ends
    subst eP eW eK
    obtain ⟨m1, m2, ⟨x0, y0, m3⟩, m4, m5⟩ := mix
    obtain ⟨xs, ys, hxs, hys, hl, hi⟩ := ends
    obtain ⟨vx, rx, px, _⟩ := inv.list hxs
    obtain ⟨vy, ry, py, _⟩ := inv.tuple hys
    have py' : st.heap.IsTuple b vy.toArray := py
    have n1 : vx.toArray.size = i := by
      have := rx.length
      rw [List.size_toArray]
      omega
    have n2 : vy.toArray.size = i := by
      have := ry.length
      rw [List.size_toArray]
      omega
    exact wpAny_pyNext_zipD2_end S (Draws.list (A := X.A.in1) (inv.ok.hd hc) i1 a na vx.toArray) (Draws.tuple (A := X.A.in1) (inv.ok.hd hc) i2 b nb vy.toArray) m1 m2 m3 ⟨m4, px.isList⟩ ⟨m5, py'⟩ (Nat.le_of_eq n1.symm) (Nat.le_of_eq n2.symm) (.inl n1.symm) fun h' tk hk => ⟨rfl, inv.turnedL (ch := [z, TI, TO, i1, i2]) (fun c o out q =>
      hk c o (fun q' => out (by simp [q'])) (fun q' => out (by simp [q'])) (fun q' => out (by simp [q'])) (fun q' => out (by simp [q'])) q) free⟩
  self := fun A i s Q E st h => wpAny_pyIter_zip st.1 h
def iZipM (K : PySem.W.Frag) (ta : TA) : TI := fun σ H R => ta σ H fun vs H1 => ∃ a b xs ys, vs = [.ref a, .ref b] ∧ SqL K H1 a xs ∧ SqT K H1 b ys ∧ R (ItzM K a b) H1
theorem pi_zipM {X : Cx} {e e2 : Expr} {ta : TA} {p pos tpos : Pos} {elts : List Expr} {kk : Nat} (hg : Gl X "zip") (hm : X.mg "zip" = none) (ha : PA X [e, e2] ta)
    (hs : starEach [e, e2] X.env = (false, eval e X.env) :: starEach [e2] X.env := by rfl) (hpl : (backTo pos (starEach [e2] X.env)).any (·.1) = false := by rfl) : PI X (.Tuple elts kk tpos) (.Call (.Name "zip" p) [e, e2] [] pos) (iZipM X.K ta) := by
  refine ⟨fun pins st σ H R inv h => ?_⟩
  refine Call_ (ld_blt inv hg hm PyProof.Rows.boot_zip (PyProof.Rows.callWith_type1 (thn (ha.run pos pins st σ H _ inv h) fun us s1 ⟨vs, H1, I1, rel, q1⟩ => ?_) hs hpl))
  obtain ⟨a, b, xs, ys, rfl, hxs, hys, q⟩ := q1
  cases rel with
  | cons r1 rest =>
    cases rest with
    | cons r2 rest =>
      cases rest
      cases r1
      cases r2
      obtain ⟨vx, rx, px, _⟩ := I1.list hxs
      obtain ⟨vy, ry, py, _⟩ := I1.tuple hys
      have py' : s1.heap.IsTuple b vy.toArray := py
      have la : a < s1.heap.objs.size := px.lt
      have lb : b < s1.heap.objs.size := by
        obtain ⟨o2, ho2, _⟩ := py'
        exact Heap.lt_size ho2
      refine zip_begins2 (begins_list a vx.toArray) (begins_tuple b vy.toArray) px.isList py' fun h' z1 t1 t2 g1 g2 hsz hk => wpAny_pyIter_zip z1 ?_
      have I2 : Inv X pins σ H1 { s1 with heap := h' } := I1.kept (t' := s1.toks) hk
      refine ⟨s1.heap.objs.size + 4, [s1.heap.objs.size + 4, s1.heap.objs.size + 2, s1.heap.objs.size + 3, s1.heap.objs.size, s1.heap.objs.size + 1], _, _, H1, rfl, I2, turn_zipM (zip_sep2 (fp1 := [a]) (fp2 := [b]) (fun c hc => ?_) (fun c hc => ?_)) (Nat.ne_of_lt la) (Nat.ne_of_lt (Nat.lt_succ_of_lt lb)), ⟨z1, t1, ⟨_, _, t2⟩, ⟨_, g1, rfl, rfl⟩, ⟨_, g2, rfl, rfl⟩⟩, fun c hc => ?_, q⟩
      · rw [List.mem_singleton.mp hc]
        exact la
      · rw [List.mem_singleton.mp hc]
        exact lb
      · have up : s1.heap.objs.size ≤ c := by
          rcases five hc with rfl | rfl | rfl | rfl | rfl
          · omega
          · omega
          · omega
          · exact Nat.le_refl _
          · omega
        exact I1.fpOk up (I1.hok.fresh up)
theorem walk_zipM {K : PySem.W.Frag} {a b : Addr} {xs ys : List V} (hl : xs.length = ys.length) : Walk (ItzM K a b) xs.length (fun H => SqL K H a xs ∧ SqT K H b ys) (YPair (fun i => xs[i]?) (fun i => ys[i]?)) := by
  refine ⟨fun i _ hi g => ⟨xs, ys, xs[i], ys[i], g.1, g.2, List.getElem?_eq_getElem hi, List.getElem?_eq_getElem (by omega)⟩, fun _ g => ⟨xs, ys, g.1, g.2, hl, rfl⟩, fun i H v H' _ g y => ?_⟩
  obtain ⟨T, x, z, h1, h2, h3, h4, h5⟩ := y
  exact ⟨T, x, z, h1, h2, h3, h4 xs g.1, h5 ys g.2⟩
end HH
set_option maxHeartbeats 4000000
namespace HH
open PySem PySem.Spec PyProof.Rows L2 Evl RZ
/-! ### weighed, turned -/
def tp (rs : HH.Row) (k : Nat) : Int := tsum (rs.take k)
theorem tp_succ {rs : HH.Row} {k : Nat} (h : k < rs.length) : tp rs (k + 1) = tp rs k + tS rs k := by
  unfold tp
  rw [List.take_add_one, row_get h, tsum_app]
  show tsum (rs.take k) + (tS rs k + 0) = _
  omega
theorem sum_tolls : ∀ rs : HH.Row, (rs.map (·.2)).sum = tsum rs
  | [] => rfl
  | b :: r => by
    rw [List.map_cons, List.sum_cons, sum_tolls r]
    rfl
def wt (rs : HH.Row) (k : Nat) : Int := sS rs k - tp rs k
def wtN (rs : HH.Row) (n : Nat) : List Int := (List.range n).map (wt rs)
def turnP (rs : HH.Row) (n : Nat) : HH.Row := (List.range n).map fun k => (-(wt rs k), tS rs k)
def turnR (rs : HH.Row) : HH.Row := turnP rs rs.length
theorem wtN_succ (rs : HH.Row) (n : Nat) : wtN rs (n + 1) = wtN rs n ++ [wt rs n] := by
  unfold wtN
  rw [List.range_succ, List.map_append]
  rfl
theorem wtN_len (rs : HH.Row) (n : Nat) : (wtN rs n).length = n := by
  unfold wtN
  rw [List.length_map, List.length_range]
theorem wtN_at {rs : HH.Row} {n k : Nat} (h : k < n) : (wtN rs n)[k]? = some (wt rs k) := by
  unfold wtN
  rw [List.getElem?_map, List.getElem?_range h]
  rfl
theorem turnP_succ (rs : HH.Row) (n : Nat) : turnP rs (n + 1) = turnP rs n ++ [(-(wt rs n), tS rs n)] := by
  unfold turnP
  rw [List.range_succ, List.map_append]
  rfl
theorem turnP_len (rs : HH.Row) (n : Nat) : (turnP rs n).length = n := by
  unfold turnP
  rw [List.length_map, List.length_range]
theorem turnR_len (rs : HH.Row) : (turnR rs).length = rs.length := turnP_len rs _
theorem turnR_get {rs : HH.Row} {k : Nat} (h : k < rs.length) : (turnR rs)[k]? = some (-(wt rs k), tS rs k) := by
  unfold turnR turnP
  rw [List.getElem?_map, List.getElem?_range h]
  rfl
theorem turnR_s {rs : HH.Row} {k : Nat} (h : k < rs.length) : sS (turnR rs) k = -(wt rs k) ∧ tS (turnR rs) k = tS rs k := by
  unfold sS tS
  rw [turnR_get h]
  exact ⟨rfl, rfl⟩
theorem turnR_tp (rs : HH.Row) : ∀ k, k ≤ rs.length → tp (turnR rs) k = tp rs k
  | 0, _ => rfl
  | k + 1, h => by
    rw [tp_succ (by rw [turnR_len]; omega), tp_succ (by omega), turnR_tp rs k (by omega), (turnR_s (by omega)).2]
theorem turn_turn (rs : HH.Row) : turnR (turnR rs) = rs := by
  refine List.ext_getElem? fun k => ?_
  by_cases h : k < rs.length
  · have h' : k < (turnR rs).length := by rw [turnR_len]; exact h
    rw [turnR_get h', row_get h]
    congr 1
    obtain ⟨e1, e2⟩ := turnR_s h
    refine Prod.ext ?_ e2
    show -(sS (turnR rs) k - tp (turnR rs) k) = sS rs k
    rw [e1, turnR_tp rs k (by omega)]
    unfold wt
    omega
  · rw [List.getElem?_eq_none (by rw [turnR_len, turnR_len]; omega), List.getElem?_eq_none (by omega)]
theorem lets_wt {rs : HH.Row} {k : Nat} (h : k + 1 < rs.length) : letsN rs (k + 1) = decide (wt rs (k + 1) > wt rs k) := by
  unfold letsN
  rw [decide_eq_true (show 0 < k + 1 by omega), Bool.true_and, Nat.add_sub_cancel, decide_eq_decide]
  unfold wt
  rw [tp_succ (by omega)]
  omega
theorem given_tail (n : Nat) (f : Nat → Bool) (v : Nat → V) (h : f 0 = false) : given (n + 1) f v = given n (fun k => f (k + 1)) (fun k => v (k + 1)) := by
  unfold given
  rw [List.range_succ_eq_map, List.filter_cons_of_neg (by rw [h]; decide), List.filter_map, List.map_map]
  rfl
def spWeighed (K : PySem.W.Frag) : Sp := fun vs H Q _ => ∃ (v : V) (rs : HH.Row), vs = [v] ∧ RowAt K H v rs ∧ rs.length ≤ 1000 ∧ RetL ((wtN rs rs.length).map V.int) H Q
def spTurn (K : PySem.W.Frag) : Sp := fun vs H Q _ => ∃ (v : V) (rs : HH.Row), vs = [v] ∧ RowAt K H v rs ∧ rs.length ≤ 1000 ∧ ∀ v' H', Ex H H' → RowAt K H' v' (turnR rs) → Q v' H'
section
variable {K : PySem.W.Frag} {σ : L2.St} {H H' : Hp} {ta tb te : TE} {x y v : V} {t : TT}
theorem el_unzipR {i j c : Nat} {vs : List Nat} {rs : HH.Row} (fst : Bool) (h : EvR K te σ H rs) (hl : rs.length ≤ 1000) (hw : ∀ x y, wipe (((wipe σ vs).set i (some x)).set j (some y)) vs = wipe σ vs) (hc : ∀ x y : V, (((wipe σ vs).set i (some x)).set j (some y))[c]? = some (some (if fst then x else y))) :
    EvL (tLc (iTup K te) (gTup K 2 (gCons (gName i) (gCons (gName j) gNil))) tYes (tVar c) vs) σ H (rs.map fun b => V.int (if fst then b.1 else b.2)) := fun H0 e Q q =>
  h H0 e _ fun v H1 e1 hv => (el_unzip (K := K) (te := tC v) fst hv hl ev_c hw hc) H1 (Ex.refl H1) _ fun p H2 hp e2 h2 => q p H2 (fresh_back e1 hp) (e1.trans e2) h2
theorem ev_sumL {ns : List Int} (h : EvL te σ H (ns.map V.int)) : Ev (tCB (rSum K) (tCons te tNil)) σ H (.int ns.sum) := fun H1 e Q q => h H1 e _ fun p H2 hp e2 h2 => ⟨p, ns, rfl, sq_of h2, q H2 e2⟩
theorem ev_tolls {i j : Nat} {vs : List Nat} {rs : HH.Row} (h : EvR K te σ H rs) (hl : rs.length ≤ 1000) (hw : ∀ x y, wipe (((wipe σ vs).set i (some x)).set j (some y)) vs = wipe σ vs) (hc : ∀ x y : V, (((wipe σ vs).set i (some x)).set j (some y))[j]? = some (some y)) :
    Ev (tCB (rSum K) (tCons (tLc (iTup K te) (gTup K 2 (gCons (gName i) (gCons (gName j) gNil))) tYes (tVar j) vs) tNil)) σ H (.int (tsum rs)) := by
  rw [← sum_tolls]
  refine ev_sumL ?_
  have := el_unzipR (c := j) false h hl hw hc
  rw [List.map_map]
  exact this
/-- xs != ys, both new lists of the same ints -/
theorem et_neLL {t1 t2 : TE} {ns : List Int} (h1 : EvL t1 σ H (ns.map V.int)) (h2 : EvL t2 σ H (ns.map V.int)) : EvT (tTest (tOp (rNeD K) t1 t2)) σ H false := fun H1 e1 Q q =>
  h1 H1 e1 _ fun s1 H2 hs1 e2 g2 => h2 H2 (e1.trans e2) _ fun s2 H4 hs2 e4 g4 => by
    have nn : Nice 1 (.list (ns.map PyData.int)) := nice_list (nice_ints _)
    refine ⟨.list (ns.map PyData.int), .list (ns.map PyData.int), .lst (sq_of (e4 _ _ g2)) (dp_ints _), .lst (sq_of g4) (dp_ints _), nn.shaped (by decide), nn.shaped (by decide), _, rfl, ?_⟩
    rw [SeqAt.eqv_refl _ nn.1]
    exact q _ (e2.trans e4)
theorem el_lcR2 {ta : TA} {j : Nat} {vs : List Nat} {lo n : Int} {m : Nat} (f : Nat → Bool) (v : Nat → V) (h : EvA ta σ H [.int lo, .int n]) (hn : 0 ≤ lo ∧ lo ≤ 1000 ∧ 0 ≤ n ∧ n ≤ 1000) (hm : (n - lo).toNat = m) (hw : ∀ x, wipe ((wipe σ vs).set j (some x)) vs = wipe σ vs)
    (ht : ∀ (i : Nat) H1, Ex H H1 → i < m → EvT t ((wipe σ vs).set j (some (.int (lo + (i : Int))))) H1 (f i)) (he : ∀ (i : Nat) H1, Ex H H1 → i < m → f i = true → Ev te ((wipe σ vs).set j (some (.int (lo + (i : Int))))) H1 (v i)) :
    EvL (tLc (iRng2 ta) (gName j) t te vs) σ H (given m f v) := fun H0 e0 Q q => by
  refine h H0 e0 _ fun H1 e1 => ⟨lo, n, rfl, ⟨by omega, by omega, by omega, by omega⟩, fun Dl hD => ?_⟩
  rw [hm]
  refine in_it walk_range (fun i H2 => Ex H1 H2 ∧ H2 Dl = some (.lst (given i f v))) ⟨Ex.new hD, upd_same⟩ (fun _ _ _ _ => True.intro) (fun i x H2 H3 hi p y => ?_) (fun H2 p => q Dl H2 (fresh_back e1 hD) (e1.trans p.1) p.2)
  obtain ⟨rfl, hx⟩ := y
  have hx : x = V.int (lo + (i : Int)) := hx
  subst hx
  refine ⟨hw _, ?_⟩
  have e2 : Ex H H3 := (e0.trans e1).trans p.1
  refine t_ev (ht i H3 e2 hi) fun H4 e4 => ?_
  cases hf : f i with
  | true =>
    show te _ H4 _
    refine he i H3 e2 hi hf H4 e4 _ fun H5 e5 => ⟨_, e5 _ _ (e4 _ _ p.2), ?_, Ex.mut ((p.1.trans e4).trans e5) hD, ?_⟩
    · have := given_len i f v
      exact sz_lt (by omega)
    · rw [upd_same, given_yes hf]
  | false =>
    show Ex H1 H4 ∧ H4 Dl = some (.lst (given (i + 1) f v))
    rw [given_no hf]
    exact ⟨p.1.trans e4, e4 _ _ p.2⟩
theorem alike_flatL {a b : Addr} {xs : List V} (h : SqL K H a xs) (g : SqL K H b xs) (hf : ∀ x ∈ xs, Flat x) (hz : xs.length ≤ 40000) : Alike K H 2 (.ref a) (.ref b) := .inr ⟨a, b, xs, xs, rfl, rfl, .inl ⟨h, g⟩, rfl, hz, fun i u w hu hw => by
  rw [hu] at hw
  cases hw
  exact .inl ⟨rfl, hf u (List.mem_of_getElem? hu)⟩⟩
theorem alike_two {d : Nat} {a b : Addr} {x1 x2 y1 y2 : V} (h : SqL K H a [x1, x2]) (g : SqL K H b [y1, y2]) (h1 : Alike K H d x1 y1) (h2 : Alike K H d x2 y2) : Alike K H (d + 1) (.ref a) (.ref b) := .inr ⟨a, b, _, _, rfl, rfl, .inl ⟨h, g⟩, rfl, by show 2 ≤ 40000; decide, fun i u w hu hw => by
  match i, hu, hw with
  | 0, hu, hw =>
    cases hu
    cases hw
    exact h1
  | 1, hu, hw =>
    cases hu
    cases hw
    exact h2
  | i + 2, hu, _ => cases hu⟩
theorem flat_intL (ns : List Int) : ∀ x ∈ ns.map V.int, Flat x := fun x hx => by
  obtain ⟨n, _, rfl⟩ := List.mem_map.mp hx
  exact True.intro
end
section
variable {X : Cx}
theorem sl_tupAK {K : PySem.W.Frag} (h : X.K = K := by rfl) : SlR X (rSlA K) := by
  subst h
  exact sl_tupA
theorem cr_sumK {K : PySem.W.Frag} (hc : X.calm = true) (h : X.K = K := by rfl) : CallR X (.builtin "sum") (rSum K) := by
  subst h
  exact cr_sum hc
end
end HH
set_option maxHeartbeats 4000000
namespace HH
open PySem PySem.Spec PyProof.Rows L2 Evl RZ
/-! ### lists of new lists -/
structure ListsF (H0 H : Hp) (us : List V) (ll : List (List Nat)) : Prop where
  len : us.length = ll.length
  at' : ∀ (i : Nat) (l : List Nat), ll[i]? = some l → ∃ p, us[i]? = some (.ref p) ∧ H0 p = none ∧ H p = some (.lst (natsV l))
theorem ListsF.nil {H0 H : Hp} : ListsF H0 H [] [] := ⟨rfl, fun i l h => by cases h⟩
theorem ListsF.ex {H0 H H' : Hp} {us : List V} {ll : List (List Nat)} (h : ListsF H0 H us ll) (e : Ex H H') : ListsF H0 H' us ll := ⟨h.len, fun i l hl => by
  obtain ⟨p, h1, h2, h3⟩ := h.at' i l hl
  exact ⟨p, h1, h2, e _ _ h3⟩⟩
theorem ListsF.low {H00 H0 H : Hp} {us : List V} {ll : List (List Nat)} (h : ListsF H0 H us ll) (e : Ex H00 H0) : ListsF H00 H us ll := ⟨h.len, fun i l hl => by
  obtain ⟨p, h1, h2, h3⟩ := h.at' i l hl
  exact ⟨p, h1, fresh_back e h2, h3⟩⟩
theorem ListsF.mut {H0 H : Hp} {us : List V} {ll : List (List Nat)} {D : Addr} {o o' : HO} (h : ListsF H0 H us ll) (hD : H0 D = some o) : ListsF H0 (upd H D o') us ll := ⟨h.len, fun i l hl => by
  obtain ⟨p, h1, h2, h3⟩ := h.at' i l hl
  refine ⟨p, h1, h2, ?_⟩
  rw [upd_ne (Ne.symm (ne_of_none hD h2))]
  exact h3⟩
theorem ListsF.app {H0 H : Hp} {us : List V} {ll : List (List Nat)} {p : Addr} {l : List Nat} (h : ListsF H0 H us ll) (hp : H0 p = none) (hl : H p = some (.lst (natsV l))) : ListsF H0 H (us ++ [.ref p]) (ll ++ [l]) := by
  refine ⟨by rw [List.length_append, List.length_append, h.len]; rfl, fun i m hm => ?_⟩
  by_cases hi : i < ll.length
  · rw [List.getElem?_append_left hi] at hm
    rw [List.getElem?_append_left (by rw [h.len]; exact hi)]
    exact h.at' i m hm
  · rw [List.getElem?_append_right (by omega)] at hm
    rw [List.getElem?_append_right (by rw [h.len]; omega), h.len]
    match e : i - ll.length, hm with
    | 0, hm =>
      cases hm
      exact ⟨p, rfl, hp, hl⟩
    | k + 1, hm => cases hm
def nevT (rs : HH.Row) : List (List Nat) := (List.range rs.length).map fun i => nevL rs i (rs.length - i - 1)
theorem nevT_len (rs : HH.Row) : (nevT rs).length = rs.length := by
  unfold nevT
  rw [List.length_map, List.length_range]
theorem nevT_at {rs : HH.Row} {i : Nat} (h : i < rs.length) : (nevT rs)[i]? = some (nevL rs i (rs.length - i - 1)) := by
  unfold nevT
  rw [List.getElem?_map, List.getElem?_range h]
  rfl
theorem nevT_take {rs : HH.Row} {i : Nat} (h : i < rs.length) : (nevT rs).take (i + 1) = (nevT rs).take i ++ [nevL rs i (rs.length - i - 1)] := by
  rw [List.take_add_one, nevT_at h]
  rfl
theorem nats_flat (l : List Nat) : ∀ x ∈ natsV l, Flat x := fun x hx => by
  obtain ⟨n, _, rfl⟩ := List.mem_map.mp hx
  exact True.intro
theorem alike_lists {K : PySem.W.Frag} {H0 H00 H : Hp} {a b : Addr} {us ws : List V} {ll : List (List Nat)} (ha : SqL K H a us) (hb : SqL K H b ws) (f : ListsF H0 H us ll) (g : ListsF H00 H ws ll) (hz : ll.length ≤ 1000) (hy : ∀ l ∈ ll, l.length ≤ 1000) : Alike K H 3 (.ref a) (.ref b) := by
  refine .inr ⟨a, b, us, ws, rfl, rfl, .inl ⟨ha, hb⟩, by rw [f.len, g.len], by rw [f.len]; omega, fun i x y hx hy' => ?_⟩
  have hi : i < ll.length := by
    rw [← f.len]
    exact (List.getElem?_eq_some_iff.mp hx).1
  obtain ⟨p, p1, _, p3⟩ := f.at' i _ (List.getElem?_eq_getElem hi)
  obtain ⟨q, q1, _, q3⟩ := g.at' i _ (List.getElem?_eq_getElem hi)
  rw [hx] at p1
  rw [hy'] at q1
  cases p1
  cases q1
  exact alike_flatL (sq_of p3) (sq_of q3) (nats_flat _) (by rw [natsV_len]; have := hy _ (List.getElem_mem hi); omega)
theorem nevT_small {rs : HH.Row} (h : rs.length ≤ 1000) : ∀ l ∈ nevT rs, l.length ≤ 1000 := fun l hl => by
  obtain ⟨i, _, rfl⟩ := List.mem_map.mp hl
  have := nevL_len rs i (rs.length - i - 1)
  omega
/-! promises -/
def spIsNum : Sp := fun vs H Q _ => ∃ i : Int, vs = [.int i] ∧ RetV (.bl true) H Q
def spNever (K : PySem.W.Frag) : Sp := fun vs H Q _ => ∃ (v : V) (rs : HH.Row), vs = [v] ∧ RowAt K H v rs ∧ rs.length ≤ 1000 ∧ ∀ (q : Addr) (us : List V) (H' : Hp), H q = none → Ex H H' → H' q = some (.lst us) → ListsF H H' us (nevT rs) → Q (.ref q) H'
def spThat (K : PySem.W.Frag) : Sp := fun vs H Q _ => ∃ (a b : Addr) (l : List Nat), vs = [.ref a, .ref b] ∧ SqL K H a (natsV l) ∧ SqL K H b (natsV l) ∧ l.length ≤ 1000 ∧ RetV (.bl true) H Q
def spShows (K : PySem.W.Frag) : Sp := fun vs H Q _ => ∃ (v : V) (rs : HH.Row) (t : Addr) (us : List V) (H0 : Hp), vs = [v, .ref t] ∧ RowAt K H v rs ∧ rs.length ≤ 1000 ∧ SqL K H t us ∧ ListsF H0 H us (nevT rs) ∧ RetV (.bl true) H Q
section
variable {X : Cx}
theorem op_notInDK {K : PySem.W.Frag} (hu : X.A.units + 65 < cLine) (hK : X.K = K := by rfl) : OpR X (compareOp .NotIn) (rNotInD K) := by
  subst hK
  exact op_notInD hu
end
section
variable {K : PySem.W.Frag} {σ : L2.St} {H : Hp} {v : V}
theorem given_nevL {rs : HH.Row} {i n : Nat} {f : Nat → Bool} (h : ∀ k, k < n → f k = nevP rs i k) : given n f (fun k => .int ((i : Int) + 1 + (k : Int))) = natsV (nevL rs i n) := by
  unfold given nevL natsV
  rw [List.map_map]
  have e : (List.range n).filter f = (List.range n).filter (nevP rs i) := List.filter_congr fun k hk => h k (List.mem_range.mp hk)
  rw [e]
  refine List.map_congr_left fun k _ => ?_
  show V.int ((i : Int) + 1 + (k : Int)) = V.int ((i + 1 + k : Nat) : Int)
  congr 1
theorem sv_shows {rs : HH.Row} {t : Addr} {us : List V} {H0 : Hp} (h : RowAt K H v rs) (hl : rs.length ≤ 1000) (ht : SqL K H t us) (f : ListsF H0 H us (nevT rs)) : SpV (spShows K) [v, .ref t] H (.bl true) := fun H1 e Q q E => ⟨v, rs, t, us, H0, rfl, h.ex e, hl, ex_l e ht, f.ex e, q⟩
end
end HH
set_option maxHeartbeats 4000000
namespace HH
open PySem PySem.Spec PyProof.Rows L2 Evl RZ
/-! ### a tuple made of a list, known to have no dict -/
def PlainT (o : Obj) : Prop := o.cls = .type "tuple" ∧ o.dict = none
def kTupF (K : PySem.W.Frag) (x : V) (H : Hp) (Q : VK) : Prop := ∃ (l : Addr) (xs : List V), x = .ref l ∧ SqL K H l xs ∧ ∀ (t : Addr) (o : Obj), PlainT o → H t = none → Q (.ref t) (upd H t (.frz o (.tup xs)))
section
variable {X : Cx}
theorem pe_tupleOfF {c : Expr} {tc : TE} {p pos : Pos} (hg : Gl X "tuple") (hm : X.mg "tuple" = none) (hc : PE X c tc) (hs : starEach [c] X.env = (false, eval c X.env) :: starEach [] X.env := by rfl) :
    PE X (.Call (.Name "tuple" p) [c] [] pos) (tThen tc (kTupF X.K)) := by
  refine ⟨fun pins st σ H Q inv h => Call_ (ld_blt inv hg hm boot_tuple (PyProof.Rows.callWith_type1 (one_arg hc inv h (fun v s1 x H1 inv1 rel ask => ?_) hs) hs))⟩
  obtain ⟨l, xs, rfl, sq, q⟩ := ask
  cases rel
  obtain ⟨vals, rv, place, few⟩ := inv1.list sq
  refine call_tuple_list place.isList (fun g keep => ?_) (by rw [List.size_toArray]; have := rv.length; omega)
  have inv2 : Inv X pins σ H1 { s1 with heap := g } := inv1.kept (t' := s1.toks) keep
  have okF : ObjOk X.prog X.w (upd H1 g.objs.size (.frz { cls := .type "tuple", data := .seq vals.toArray } (.tup xs))) (g.push { cls := .type "tuple", data := .seq vals.toArray }) g.objs.size (.frz { cls := .type "tuple", data := .seq vals.toArray } (.tup xs)) :=
    ⟨Heap.get?_push_size _ rfl, few, vals, rv, IsTup.new _ _⟩
  exact ⟨.ref g.objs.size, _, inv2.laid (t' := s1.toks) (fun b o e => Heap.get?_push_of_some _ e) (Nat.le_refl _) okF, rfl, q _ _ ⟨rfl, rfl⟩ (inv2.hok.fresh (Nat.le_refl _))⟩
/-- t.name(..), t such a tuple -/
def tBMF (r : V → List V → Hp → VK → Prop) (to : TE) (ta : TA) : TE := fun σ H Q => to σ H fun x H1 => (∃ (t : Addr) (o : Obj) (u : HO), x = .ref t ∧ H1 t = some (.frz o u) ∧ PlainT o) ∧ ta σ H1 fun vs H2 => r x vs H2 Q
theorem pe_bmF {rc e : Expr} {es : List Expr} {to : TE} {t : TA} {name : Str} {ap cp : Pos} {id : String} {r : V → List V → Hp → VK → Prop} (sl : Slot "tuple" name id) (hty : typeOf (.builtin id) = pure (.type "method_descriptor")) (hm : MtR X id r) (ho : PE X rc to) (ha : PA X (e :: es) t)
    (hbs : attributeBase rc name X.env (eval rc X.env) = eval rc X.env := by rfl)
    (fw : ((backTo cp (starEach (e :: es) X.env)).all (fun x => !x.1) && (backToKw cp (keywordEach [] X.env)).all (fun x => x.1.isSome) && decide ((e :: es).length + ([] : List Keyword).length + (if ([] : List Keyword).isEmpty then 0 else 1) < 30)) = true := by rfl)
    (onl : (ap.endLine == cp.line) = true := by rfl) (hs : starEach (e :: es) X.env = (false, eval e X.env) :: starEach es X.env := by rfl) (npl : (backTo cp (starEach es X.env)).any (·.1) = false := by rfl) : PE X (.Call (.Attribute rc name ap) (e :: es) [] cp) (tBMF r to t) := by
  refine ⟨fun pins st σ H Q inv h => wpAny_Call_method_late hbs fw onl rfl (thn (ho.run pins st σ H _ inv h) fun v s1 ⟨x, H1, inv1, rel, kind, ask⟩ => ?_)⟩
  obtain ⟨a, ob, u, rfl, known, isT, noD⟩ := kind
  cases rel
  have got : s1.heap.get? a = some ob := (inv1.hok a _ known).1
  have args := ha.run cp pins s1 σ H1 _ inv1 ask
  refine ⟨"tuple", id, PySem.F.plainAttrs_tuple, sl, hty, ⟨ob, got, isT⟩, fun b eb => ?_, ?_⟩
  · cases eb
    exact ⟨ob, got, noD⟩
  · rw [hs] at args ⊢
    refine Calls.callWith_builtin (by show (false || (backTo cp (starEach es X.env)).any (·.1)) = false; rw [npl]; rfl) (Calls.evalArgs_plain (thn args fun us s2 ⟨vs, H2, inv2, rels, q2⟩ => hm pins s2 σ H2 (.ref a) vs (.ref a) us Q inv2 rfl rels q2))
end
/-- row and order, the order such a tuple -/
structure LastAtF (K : PySem.W.Frag) (H : Hp) (q : Addr) (L : List Cow) : Prop where
  ex : ∃ (v : V) (ot : Addr) (o : Obj), H q = some (.tup [v, .ref ot]) ∧ RowAt K H v (rowsOf L) ∧ H ot = some (.frz o (.tup (ordL L))) ∧ PlainT o
def spRowOrderF (K : PySem.W.Frag) : Sp := fun vs H Q _ => ∃ (l sa ta : Addr) (N : List Cow) (S T : List Int), vs = [.ref l, .ref sa, .ref ta] ∧ H l = some (.lst (idsV N)) ∧ H sa = some (.lst (S.map V.int)) ∧ H ta = some (.lst (T.map V.int)) ∧ Kept S T N ∧ N.length ≤ 1000 ∧ ∀ q H', Ex H H' → LastAtF K H' q N → Q (.ref q) H'
def spLastF (K : PySem.W.Frag) : Sp := fun vs H Q _ => ∃ (v : V) (rs : HH.Row), vs = [v] ∧ RowAt K H v rs ∧ rs.length ≤ 1000 ∧ (∀ b ∈ rs, 0 ≤ b.2) ∧ ∀ q H' (L : List Cow), Ex H H' → LastAtF K H' q L → Steps (tag 0 rs) L → NfR L → Q (.ref q) H'
end HH
set_option maxHeartbeats 4000000
namespace HH
open PySem PySem.Spec PyProof.Rows L2 Evl RZ
/-! ### pieces of a row -/
theorem mem_tabN {rs : HH.Row} {L : List Cow} (ht : ∀ b ∈ rs, 0 ≤ b.2) (st : Steps (tag 0 rs) L) (nf : Nf L) {p : Int × Int} : p ∈ tab (L.map (·.1)) rs.length rs.length ↔ ∃ i j : Nat, i < j ∧ j < rs.length ∧ p = ((i : Int), (j : Int)) ∧ barN rs i (j - i - 1) < sS rs j := by
  rw [mem_tab]
  constructor
  · rintro ⟨i, j, h1, h2, h3, h4⟩
    exact ⟨i, j, h1, h2, h3, (never_iff ht st nf h1 h2).mp h4⟩
  · rintro ⟨i, j, h1, h2, h3, h4⟩
    exact ⟨i, j, h1, h2, h3, (never_iff ht st nf h1 h2).mpr h4⟩
def pieceR (rs : HH.Row) (b e : Nat) : HH.Row := (rs.drop b).take (e - b)
theorem pieceR_len {rs : HH.Row} {b e : Nat} (h : e ≤ rs.length) : (pieceR rs b e).length = e - b := by
  unfold pieceR
  rw [List.length_take, List.length_drop]
  omega
theorem sS_piece {rs : HH.Row} {b e k : Nat} (h : k < e - b) : sS (pieceR rs b e) k = sS rs (b + k) ∧ tS (pieceR rs b e) k = tS rs (b + k) := by
  unfold sS tS pieceR
  rw [List.getElem?_take, if_pos h, List.getElem?_drop]
  exact ⟨rfl, rfl⟩
theorem barN_shift {rs ss : HH.Row} {b i : Nat} : ∀ m, (∀ k, k ≤ i + m → sS ss k = sS rs (b + k) ∧ tS ss k = tS rs (b + k)) → barN ss i m = barN rs (b + i) m
  | 0, h => by
    obtain ⟨e1, e2⟩ := h i (by omega)
    show sS ss i + tS ss i = sS rs (b + i) + tS rs (b + i)
    rw [e1, e2]
  | m + 1, h => by
    obtain ⟨e1, e2⟩ := h (i + 1 + m) (by omega)
    have ih := barN_shift (rs := rs) (ss := ss) (b := b) (i := i) m fun k hk => h k (by omega)
    show (if sS ss (i + 1 + m) ≤ barN ss i m then barN ss i m + tS ss (i + 1 + m) else barN ss i m) = (if sS rs (b + i + 1 + m) ≤ barN rs (b + i) m then barN rs (b + i) m + tS rs (b + i + 1 + m) else barN rs (b + i) m)
    rw [e1, e2, ih, show b + (i + 1 + m) = b + i + 1 + m by omega]
theorem barN_piece {rs : HH.Row} {b e i m : Nat} (h : i + m < e - b) : barN (pieceR rs b e) i m = barN rs (b + i) m := barN_shift m fun k hk => sS_piece (by omega)
theorem piece_tl {rs : HH.Row} {b e : Nat} (h : ∀ x ∈ rs, 0 ≤ x.2) : ∀ x ∈ pieceR rs b e, 0 ≤ x.2 := fun x hx => h x (List.mem_of_mem_drop (List.mem_of_mem_take hx))
/-- rising lists of the same things -/
theorem pw_eq {α : Type} {r : α → α → Prop} (irr : ∀ a, ¬ r a a) (asy : ∀ a b, r a b → ¬ r b a) {l m : List α} (hl : l.Pairwise r) (hm : m.Pairwise r) (h : ∀ x, x ∈ l ↔ x ∈ m) : l = m := by
  have nl : l.Nodup := hl.imp fun {a b} z (e : a = b) => irr b (by rw [e] at z; exact z)
  have nm : m.Nodup := hm.imp fun {a b} z (e : a = b) => irr b (by rw [e] at z; exact z)
  exact ((List.perm_ext_iff_of_nodup nl nm).mpr h).eq_of_pairwise (fun a b _ _ g1 g2 => absurd g2 (asy a b g1)) hl hm
theorem lex_asy (p q : Int × Int) (h : lexL p q) : ¬ lexL q p := fun g => by
  unfold lexL at h g
  omega
def amongF (ps : HH.Row) (b e : Int) : HH.Row := (ps.filter fun p => decide (b ≤ p.1) && decide (p.2 < e)).map fun p => (p.1 - b, p.2 - b)
theorem pw_among {ps : HH.Row} {b e : Int} (h : ps.Pairwise lexL) : (amongF ps b e).Pairwise lexL := by
  unfold amongF
  rw [List.pairwise_map]
  refine (List.Pairwise.filter _ h).imp fun {p q} z => ?_
  unfold lexL at z ⊢
  dsimp only
  omega
theorem mem_among {ps : HH.Row} {b e : Int} {x : Int × Int} : x ∈ amongF ps b e ↔ ∃ p ∈ ps, b ≤ p.1 ∧ p.2 < e ∧ x = (p.1 - b, p.2 - b) := by
  unfold amongF
  rw [List.mem_map]
  constructor
  · rintro ⟨p, hp, rfl⟩
    obtain ⟨h1, h2⟩ := List.mem_filter.mp hp
    obtain ⟨h3, h4⟩ := Bool.and_eq_true_iff.mp h2
    exact ⟨p, h1, of_decide_eq_true h3, of_decide_eq_true h4, rfl⟩
  · rintro ⟨p, h1, h2, h3, rfl⟩
    exact ⟨p, List.mem_filter.mpr ⟨h1, Bool.and_eq_true_iff.mpr ⟨decide_eq_true h2, decide_eq_true h3⟩⟩, rfl⟩
theorem among_tab {rs : HH.Row} {b e : Nat} {L Ls : List Cow} (ht : ∀ x ∈ rs, 0 ≤ x.2) (hb : b ≤ e) (he : e ≤ rs.length) (st : Steps (tag 0 rs) L) (nf : Nf L) (st' : Steps (tag 0 (pieceR rs b e)) Ls) (nf' : Nf Ls) :
    amongF (tab (L.map (·.1)) rs.length rs.length) (b : Int) (e : Int) = tab (Ls.map (·.1)) (e - b) (e - b) := by
  have hl := pieceR_len (rs := rs) (b := b) (e := e) he
  refine pw_eq lex_irr lex_asy (pw_among (pw_tab _ _ _)) (pw_tab _ _ _) fun x => ?_
  rw [mem_among]
  have m2 := mem_tabN (p := x) (piece_tl (b := b) (e := e) ht) st' nf'
  rw [hl] at m2
  rw [m2]
  constructor
  · rintro ⟨p, hp, h1, h2, rfl⟩
    obtain ⟨i, j, h3, h4, rfl, h5⟩ := (mem_tabN ht st nf).mp hp
    dsimp only at h1 h2 ⊢
    refine ⟨i - b, j - b, by omega, by omega, Prod.ext (by show (i : Int) - b = ((i - b : Nat) : Int); omega) (by show (j : Int) - b = ((j - b : Nat) : Int); omega), ?_⟩
    rw [barN_piece (by omega), (sS_piece (by omega)).1, show b + (i - b) = i by omega, show b + (j - b) = j by omega, show j - b - (i - b) - 1 = j - i - 1 by omega]
    exact h5
  · rintro ⟨i, j, h1, h2, rfl, h3⟩
    rw [barN_piece (by omega), (sS_piece (by omega)).1] at h3
    refine ⟨(((b + i : Nat) : Int), ((b + j : Nat) : Int)), (mem_tabN ht st nf).mpr ⟨b + i, b + j, by omega, by omega, rfl, by rw [show b + j - (b + i) - 1 = j - i - 1 by omega]; exact h3⟩, by show (b : Int) ≤ ((b + i : Nat) : Int); omega, by show ((b + j : Nat) : Int) < (e : Int); omega, Prod.ext (by show (i : Int) = ((b + i : Nat) : Int) - b; omega) (by show (j : Int) = ((b + j : Nat) : Int) - b; omega)⟩
/-! tables of pieces -/
theorem mem_nevL {rs : HH.Row} {i n k : Nat} : k ∈ nevL rs i n ↔ ∃ m, m < n ∧ k = i + 1 + m ∧ sS rs k ≤ barN rs i m := by
  unfold nevL
  rw [List.mem_map]
  constructor
  · rintro ⟨m, hm, rfl⟩
    obtain ⟨h1, h2⟩ := List.mem_filter.mp hm
    exact ⟨m, List.mem_range.mp h1, rfl, of_decide_eq_true h2⟩
  · rintro ⟨m, h1, rfl, h2⟩
    exact ⟨m, List.mem_filter.mpr ⟨List.mem_range.mpr h1, decide_eq_true h2⟩, rfl⟩
theorem pw_nevL (rs : HH.Row) (i n : Nat) : (nevL rs i n).Pairwise (· < ·) := by
  unfold nevL
  rw [List.pairwise_map]
  refine (List.Pairwise.filter _ List.pairwise_lt_range).imp fun {a b} h => ?_
  omega
theorem nev_piece {rs : HH.Row} {b e i : Nat} (hi : i < e - b) (he : e ≤ rs.length) : ((nevL rs (b + i) (rs.length - (b + i) - 1)).filter fun k => decide (k < e)).map (· - b) = nevL (pieceR rs b e) i (e - b - i - 1) := by
  refine pw_eq (r := (· < ·)) Nat.lt_irrefl (fun a b h => Nat.lt_asymm h) ?_ (pw_nevL _ _ _) fun x => ?_
  · rw [List.pairwise_map]
    refine List.Pairwise.imp_of_mem (fun {p q} hp hq h => ?_) ((pw_nevL rs (b + i) (rs.length - (b + i) - 1)).filter _)
    have := nevL_mem (List.mem_filter.mp hp).1
    have := nevL_mem (List.mem_filter.mp hq).1
    omega
  · rw [List.mem_map, mem_nevL]
    constructor
    · rintro ⟨k, hk, rfl⟩
      obtain ⟨h1, h2⟩ := List.mem_filter.mp hk
      obtain ⟨m, h3, rfl, h4⟩ := mem_nevL.mp h1
      have h2 := of_decide_eq_true h2
      refine ⟨m, by omega, by omega, ?_⟩
      rw [(sS_piece (by omega)).1, barN_piece (by omega), show b + (b + i + 1 + m - b) = b + i + 1 + m by omega]
      exact h4
    · rintro ⟨m, h1, rfl, h2⟩
      rw [(sS_piece (by omega)).1, barN_piece (by omega)] at h2
      refine ⟨b + i + 1 + m, List.mem_filter.mpr ⟨mem_nevL.mpr ⟨m, by omega, rfl, ?_⟩, decide_eq_true (by omega)⟩, by omega⟩
      rw [show b + i + 1 + m = b + (i + 1 + m) by omega]
      exact h2
/-! ### how many steps -/
inductive StepsN : Nat → List Cow → List Cow → Prop
  | refl (L : List Cow) : StepsN 0 L L
  | head {k : Nat} {L M N : List Cow} : Step L M → StepsN k M N → StepsN (k + 1) L N
theorem StepsN.trans {a b : Nat} {L M N : List Cow} (h : StepsN a L M) (g : StepsN b M N) : StepsN (a + b) L N := by
  induction h with
  | refl => rw [Nat.zero_add]; exact g
  | head s _ ih =>
    rename_i k L M N _
    rw [show k + 1 + b = k + b + 1 by omega]
    exact .head s (ih g)
theorem StepsN.steps {a : Nat} {L M : List Cow} (h : StepsN a L M) : Steps L M := by
  induction h with
  | refl => exact .refl _
  | head s _ ih => exact .head s ih
theorem Steps.count {L M : List Cow} (h : Steps L M) : ∃ k, StepsN k L M := by
  induction h with
  | refl => exact ⟨0, .refl _⟩
  | head s _ ih =>
    obtain ⟨k, g⟩ := ih
    exact ⟨k + 1, .head s g⟩
theorem StepsN.under {a : Nat} {L M : List Cow} (pre post : List Cow) (h : StepsN a L M) : StepsN a (pre ++ L ++ post) (pre ++ M ++ post) := by
  induction h with
  | refl => exact .refl _
  | head s _ ih => exact .head (s.under pre post) ih
theorem StepsN.map {a : Nat} {L M : List Cow} (f : Nat → Nat) (h : StepsN a L M) : StepsN a (rlL f L) (rlL f M) := by
  induction h with
  | refl => exact .refl _
  | head s _ ih => exact .head (s.map f) ih
theorem StepsN.run {a : Nat} {L0 L M : List Cow} (h : StepsN a L M) : ∀ {ps : List (Int × Int)}, PRun L0 L ps → ∃ qs, PRun L0 M qs ∧ qs.length = ps.length + a := by
  induction h with
  | refl => exact fun r => ⟨_, r, rfl⟩
  | head s _ ih =>
    intro ps r
    obtain ⟨pre, post, x, y, rfl, hp, rfl⟩ := s
    obtain ⟨qs, g1, g2⟩ := ih (r.step hp)
    refine ⟨qs, g1, ?_⟩
    rw [g2, List.length_append]
    show ps.length + 1 + _ = _
    omega
theorem StepsN.tab {a : Nat} {rs : HH.Row} {L : List Cow} (ht : ∀ b ∈ rs, 0 ≤ b.2) (h : StepsN a (tag 0 rs) L) : (tab (L.map (·.1)) rs.length rs.length).length = a := by
  obtain ⟨qs, r, e⟩ := h.run (PRun.nil)
  obtain ⟨td, _, _⟩ := r.told ht
  have ids := h.steps.ids
  rw [tag_ids] at ids
  rw [← (told_tab td fun x hx => List.mem_range.mp (ids.mem_iff.mp hx)).length_eq, e]
  show 0 + a = a
  omega
theorem tag_rl (k b : Nat) : ∀ rs : HH.Row, tag (b + k) rs = rlL (b + ·) (tag k rs) := by
  intro rs
  refine List.ext_getElem? fun i => ?_
  unfold rlL
  rw [List.getElem?_map, tag_at, tag_at]
  cases rs[i]? with
  | none => rfl
  | some x =>
    show some (b + k + i, x) = some (b + (k + i), x)
    rw [Nat.add_assoc]
theorem row_cut {rs : HH.Row} {b e : Nat} (hb : b ≤ e) (he : e ≤ rs.length) : rs = rs.take b ++ pieceR rs b e ++ rs.drop e := by
  unfold pieceR
  rw [List.append_assoc]
  have e1 : (rs.drop b).take (e - b) ++ rs.drop e = rs.drop b := by
    have : rs.drop e = (rs.drop b).drop (e - b) := by rw [List.drop_drop]; congr 1; omega
    rw [this, List.take_append_drop]
  rw [e1, List.take_append_drop]
/-- a piece led to its end first -/
theorem piece_first {rs : HH.Row} {b e : Nat} {Lp Y E : List Cow} (ht : ∀ x ∈ rs, 0 ≤ x.2) (hb : b ≤ e) (he : e ≤ rs.length) (sp : Steps (tag 0 (pieceR rs b e)) Lp) (np : Nf Lp) (sY : Steps (tag 0 (rs.take b ++ rowsOf Lp ++ rs.drop e)) Y) (nY : Nf Y) (sE : Steps (tag 0 rs) E) (nE : Nf E) :
    rowsOf Y = rowsOf E ∧ (tab (Y.map (·.1)) rs.length rs.length).length + (tab (Lp.map (·.1)) (e - b) (e - b)).length = (tab (E.map (·.1)) rs.length rs.length).length := by
  obtain ⟨kp, hp⟩ := sp.count
  obtain ⟨ky, hy⟩ := sY.count
  have hl := pieceR_len (rs := rs) (b := b) (e := e) he
  have lp : Lp.length = e - b := by rw [sp.len, tag_len, hl]
  have eT : tag 0 rs = tag 0 (rs.take b) ++ rlL (b + ·) (tag 0 (pieceR rs b e)) ++ tag e (rs.drop e) := by
    conv => lhs; rw [row_cut hb he]
    rw [tag_app, tag_app, Nat.zero_add, Nat.zero_add, List.length_take, Nat.min_eq_left (by omega), List.length_append, List.length_take, Nat.min_eq_left (by omega), hl, ← tag_rl 0 b, Nat.add_zero, show b + (e - b) = e by omega]
  have s1 := (hp.map (b + ·)).under (tag 0 (rs.take b)) (tag e (rs.drop e))
  rw [← eT] at s1
  generalize hM : tag 0 (rs.take b) ++ rlL (b + ·) Lp ++ tag e (rs.drop e) = M at s1
  have rM : rowsOf M = rs.take b ++ rowsOf Lp ++ rs.drop e := by
    rw [← hM]
    have t1 : rowsOf (tag 0 (rs.take b)) = rs.take b := tag_snd 0 _
    have t2 : rowsOf (tag e (rs.drop e)) = rs.drop e := tag_snd e _
    have t3 := rl_rows (b + ·) Lp
    unfold rowsOf at t1 t2 t3 ⊢
    rw [List.map_append, List.map_append, t1, t2, t3]
  have tl0 := (good_tag ht).tl
  have tM := s1.steps.tl tl0
  rw [← rM] at sY hy
  have s2 := hy.map (HH.ixN (M.map (·.1)))
  rw [rl_tag] at s2
  have s3 := s1.trans s2
  have eE : E = rlL (HH.ixN (M.map (·.1))) Y := nf_any tl0 sE nE s3.steps (nf_map nY)
  refine ⟨by rw [eE, rl_rows], ?_⟩
  rw [← eE] at s3
  have lenM : (rowsOf M).length = rs.length := by rw [cow_len, s1.steps.len, tag_len]
  have c1 := s3.tab ht
  have c2 := hy.tab (tolls_rows tM)
  rw [lenM] at c2
  have c3 := hp.tab (piece_tl (b := b) (e := e) ht)
  rw [hl] at c3
  omega
end HH
set_option maxHeartbeats 4000000
namespace HH
open PySem PySem.Spec PyProof.Rows L2 Evl RZ
section
variable {X : Cx}
theorem pi_listK {K : PySem.W.Frag} {tg e : Expr} {te : TE} (he : PE X e te) (hK : X.K = K := by rfl) : PI X tg e (iList K te) := by
  subst hK
  exact pi_list he
end
def spAmong (K : PySem.W.Frag) : Sp := fun vs H Q _ => ∃ (a : Addr) (us : List V) (ps : HH.Row) (b e : Int), vs = [.ref a, .int b, .int e] ∧ SqL K H a us ∧ Beasts K H us ps ∧ ps.length ≤ 1000 ∧ ∀ (q : Addr) (ws : List V) (H' : Hp), H q = none → Ex H H' → H' q = some (.lst ws) → Beasts K H' ws (amongF ps b e) → Q (.ref q) H'
/-- a new list of pairs -/
def EvP (K : PySem.W.Frag) (te : TE) (σ : L2.St) (H : Hp) (ps : HH.Row) : Prop := ∀ H1, Ex H H1 → ∀ Q : VK, (∀ (q : Addr) (us : List V) (H2 : Hp), H1 q = none → Ex H1 H2 → H2 q = some (.lst us) → Beasts K H2 us ps → Q (.ref q) H2) → te σ H1 Q
section
variable {K : PySem.W.Frag} {σ : L2.St} {H H' : Hp} {ta tb tc te : TE} {x y v : V} {Q : VK}
theorem fresh_backB {p q : Addr} {xs : List V} (x : ExB p H H') (hp : H' p = some (.lst xs)) (hq : H' q = none) : H q = none := by
  by_cases z : H q = none
  · exact z
  · exfalso
    obtain ⟨o, ho⟩ := Option.ne_none_iff_exists'.mp z
    by_cases e : q = p
    · subst e
      rw [hp] at hq
      cases hq
    · rw [x _ _ e ho] at hq
      cases hq
theorem among_len (ps : HH.Row) (b e : Int) : (amongF ps b e).length ≤ ps.length := by
  unfold amongF
  rw [List.length_map]
  exact List.length_filter_le _ _
theorem ep_among {ps : HH.Row} {b e : Int} {E : XK} (h : EvP K ta σ H ps) (hb : ∀ H1, Ex H H1 → Ev tb σ H1 (.int b)) (hc : ∀ H1, Ex H H1 → Ev tc σ H1 (.int e)) (hl : ps.length ≤ 1000) : EvP K (tCall (spAmong K) [] E (tCons ta (tCons tb (tCons tc tNil)))) σ H (amongF ps b e) := fun H1 e1 Q q =>
  h H1 e1 _ fun a us H2 ha e2 g2 b2 => hb H2 (e1.trans e2) H2 (Ex.refl H2) _ fun H3 e3 => hc H3 ((e1.trans e2).trans e3) H3 (Ex.refl H3) _ fun H4 e4 => ⟨a, us, ps, b, e, rfl, sq_of ((e3.trans e4) _ _ g2), b2.ex (e3.trans e4), hl, fun c ws H5 hc5 e5 g5 b5 => q c ws H5 (fresh_back ((e2.trans e3).trans e4) hc5) (((e2.trans e3).trans e4).trans e5) g5 b5⟩
theorem ep_pass {rs : HH.Row} {L : List Cow} {E : XK} (h : Ev ta σ H v) (hv : RowAt K H v rs) (hl : rs.length ≤ 30) (ht : ∀ b ∈ rs, 0 ≤ b.2) (st : Steps (tag 0 rs) L) (nf : Nf L) : EvP K (tCall (spPairs K toLast) [] E (tCons ta tNil)) σ H (tab (L.map (·.1)) rs.length rs.length) := fun H1 e1 Q q =>
  h H1 e1 _ fun H2 e2 => ⟨v, rs, rfl, hv.ex (e1.trans e2), hl, ht, fun c us M H3 m hc e3 g3 b3 => by
    rw [nf_any (good_tag ht).tl m.1 (nfr_nf m.2) st nf] at b3
    exact q c us H3 (fresh_back e2 hc) (e2.trans e3) g3 b3⟩
theorem et_neP {ps : HH.Row} {a : Addr} {us : List V} (h : EvP K ta σ H ps) (hb : Ev tb σ H (.ref a)) (ha : H a = some (.lst us)) (bs : Beasts K H us ps) : EvT (tTest (tOp (rNeD K) ta tb)) σ H false := fun H1 e1 Q q =>
  h H1 e1 _ fun c ws H2 hc e2 g2 b2 => hb H2 (e1.trans e2) _ fun H3 e3 => by
    have eZ := (e1.trans e2).trans e3
    refine ⟨pairsD ps, pairsD ps, dp_pairs (sq_of (e3 _ _ g2)) (b2.ex e3), dp_pairs (sq_of (eZ _ _ ha)) (bs.ex eZ), (nice_pairs ps).shaped (by decide), (nice_pairs ps).shaped (by decide), _, rfl, ?_⟩
    rw [SeqAt.eqv_refl _ (nice_pairs ps).1]
    exact q _ (e2.trans e3)
theorem ev_lenP {ps : HH.Row} (h : EvP K ta σ H ps) : Ev (tCB (rLenS K) (tCons ta tNil)) σ H (.int (ps.length : Int)) := fun H1 e1 Q q =>
  h H1 e1 _ fun c ws H2 hc e2 g2 b2 => ⟨c, ws, rfl, .inl (sq_of g2), by
    rw [b2.1]
    exact q H2 e2⟩
theorem alike_pairs {a b : Addr} {us ws : List V} {ps : HH.Row} (ha : SqL K H a us) (hb : SqL K H b ws) (f : Beasts K H us ps) (g : Beasts K H ws ps) (hz : ps.length ≤ 40000) : Alike K H 3 (.ref a) (.ref b) := by
  refine .inr ⟨a, b, us, ws, rfl, rfl, .inl ⟨ha, hb⟩, by rw [f.1, g.1], by rw [f.1]; exact hz, fun i x y hx hy => ?_⟩
  have hi : i < ps.length := by
    rw [← f.1]
    exact (List.getElem?_eq_some_iff.mp hx).1
  obtain ⟨x', ex, bx⟩ := f.2 i _ (List.getElem?_eq_getElem hi)
  obtain ⟨y', ey, by'⟩ := g.2 i _ (List.getElem?_eq_getElem hi)
  rw [hx] at ex
  rw [hy] at ey
  cases ex
  cases ey
  exact alike_beast bx by'
theorem cat_rows {v u : V} {rs ss : HH.Row} (h1 : RowAt K H v rs) (h2 : RowAt K H u ss) (hl : rs.length + ss.length ≤ 100000) (q : ∀ w H2, Ex H H2 → RowAt K H2 w (rs ++ ss) → Q w H2) : rCatA K v u H Q :=
  (er_cat (σ := []) (ta := tC v) (tb := tC u) (er_val ev_c h1) (er_val ev_c h2) hl) H (Ex.refl H) Q q
theorem cut_mid {α : Type} (xs : List V) (b e : Nat) (h : b ≤ e) (he : e ≤ xs.length) : cutV xs (some (b : Int)) (some (e : Int)) = (xs.drop b).take (e - b) := by
  unfold cutV
  rw [HT.sIx_nat, HT.sIx_nat, Nat.min_eq_left he, Nat.min_eq_left (show b ≤ xs.length by omega)]
theorem er_mid {rs : HH.Row} {ti tj : TE} {b e : Nat} (h : EvR K te σ H rs) (hi : Ev ti σ H (.int (b : Int))) (hj : Ev tj σ H (.int (e : Int))) (hbe : b ≤ e) (he : e ≤ rs.length) : EvR K (tSl (rSlA K) te (tPart ti) (tPart tj)) σ H (pieceR rs b e) := fun H1 e1 Q q =>
  h H1 e1 _ fun v H2 e2 hv => hi H2 (e1.trans e2) _ fun H3 e3 => ⟨(b : Int), rfl, hj H3 ((e1.trans e2).trans e3) _ fun H4 e4 => by
    obtain ⟨a, vs, rfl, h1, h2⟩ := hv.ex (e3.trans e4)
    have eZ := (e2.trans e3).trans e4
    have ec := cut_mid (α := Nat) vs b e hbe (by rw [h2.1]; exact he)
    have hp : Beasts K H4 ((vs.drop b).take (e - b)) (pieceR rs b e) := (h2.drop b).take (e - b)
    refine ⟨(e : Int), rfl, a, vs, rfl, h1, fun z => ?_, fun _ p hp' => ?_⟩
    · have e0 := cut_all z
      rw [ec] at e0
      refine q _ H4 eZ ⟨a, vs, rfl, h1, ?_⟩
      rw [e0] at hp
      exact hp
    · refine q _ _ (eZ.trans (Ex.new hp')) ⟨p, _, rfl, st_of upd_same, ?_⟩
      rw [ec]
      exact hp.ex (Ex.new hp')⟩
theorem piece_mid (ra pr rb : HH.Row) : pieceR (ra ++ pr ++ rb) ra.length (ra.length + pr.length) = pr := by
  unfold pieceR
  rw [List.append_assoc, List.drop_left, Nat.add_sub_cancel_left, List.take_left]
/-- sorted(ended(box, row)[2]) -/
theorem q_sortEnd {p : Addr} {rs : HH.Row} {n ib iv : Nat} (hp : σ[ib]? = some (some (.ref p))) (hx : σ[iv]? = some (some v)) (hv : RowAt K H v rs) (hl : rs.length ≤ 30) (ht : ∀ b ∈ rs, 0 ≤ b.2) (hb : Bx H p n) (hn : n + 1000 < Lim)
    (k : ∀ (L : List Cow) (sp : Addr) (ys : List V) (H' : Hp), ExB p H H' → Bx H' p (n + 1000) → Steps (tag 0 rs) L → Nf L → H sp = none → H' sp = some (.lst ys) → Beasts K H' ys (tab (L.map (·.1)) rs.length rs.length) → Q (.ref sp) H') :
    tCB (rSortedPT K) (tCons (tOp (rIxT K) (tCall (spEnded K) [] E0 (tCons (tVar ib) (tCons (tVar iv) tNil))) (tC (.int 2))) tNil) σ H Q := by
  refine ⟨.ref p, hp, v, hx, p, v, rs, n, rfl, hv, hl, ht, hb, hn, fun q4 v4 ot4 lp4 pvs4 L ps4 H4 E4 run4 f4 nil4 => ?_⟩
  refine ⟨q4, _, 2, .ref lp4, rfl, rfl, st_of E4.q, rfl, lp4, pvs4, ps4, rfl, sq_of E4.lst, E4.prs, fun ys qs sp bys pm srt hsp => ?_⟩
  have td := told_tab (run4.told ht).1 (ids_lt (rs := rs) run4.steps.idsT (Nat.le_refl _))
  have eqs := sort_one (pm.trans td) srt (pw_no (pw_tab _ _ _))
  subst eqs
  have e5 := Ex.new (o := .lst ys) hsp
  obtain ⟨xs, hxs⟩ := E4.bx.lst
  exact k L sp ys _ (E4.ex.trans (.of e5)) (E4.bx.ex e5) run4.steps (nf_of nil4) (fresh_backB E4.ex hxs hsp) upd_same (bys.ex e5)
theorem g_at {i : Nat} {x : V} {k : L2.St → Hp → Prop} (σ' : L2.St) (e : σ.set i (some x) = σ') (h : k σ' H) : gName i x σ H k := by
  show k (σ.set i (some x)) H
  rw [e]
  exact h
theorem given_filter (l : List Nat) (p : Nat → Bool) (g : Nat → V) : given l.length (fun m => p (HH.ixN l m)) (fun m => g (HH.ixN l m)) = (l.filter p).map g := by
  have e : (List.range l.length).map (HH.ixN l) = l := by
    refine List.ext_getElem? fun k => ?_
    rw [List.getElem?_map]
    by_cases h : k < l.length
    · rw [List.getElem?_range h, ixN_at h]
      rfl
    · rw [List.getElem?_eq_none (by rw [List.length_range]; omega), List.getElem?_eq_none (by omega)]
      rfl
  unfold given
  conv => rhs; rw [← e]
  rw [List.filter_map, List.map_map]
  rfl
def listsD (ll : List (List Nat)) : PyData := .list (ll.map fun l => .list ((l.map fun (x : Nat) => (x : Int)).map PyData.int))
theorem dp_all {H0 : Hp} : ∀ {us : List V} {ll : List (List Nat)}, ListsF H0 H us ll → DpAll K H us (ll.map fun l => .list ((l.map fun (x : Nat) => (x : Int)).map PyData.int))
  | [], [], _ => .nil
  | [], _ :: _, h => by cases h.len
  | _ :: _, [], h => by cases h.len
  | u :: us, l :: ll, h => by
    obtain ⟨p, h1, _, h3⟩ := h.at' 0 l rfl
    cases h1
    rw [natsV_ints] at h3
    exact .cons (.lst (sq_of h3) (dp_ints _)) (dp_all (H0 := H0) ⟨Nat.succ.inj h.len, fun i m hm => h.at' (i + 1) m hm⟩)
theorem nice_lists (ll : List (List Nat)) : Nice 2 (listsD ll) := nice_list fun d hd => by
  obtain ⟨l, _, rfl⟩ := List.mem_map.mp hd
  exact nice_list (nice_ints _)
theorem et_neLists {rs : HH.Row} {a : Addr} {us : List V} {H0 : Hp} {E : XK} (h : Ev ta σ H v) (hv : RowAt K H v rs) (hl : rs.length ≤ 1000) (hb : Ev tb σ H (.ref a)) (ha : H a = some (.lst us)) (f : ListsF H0 H us (nevT rs)) : EvT (tTest (tOp (rNeD K) (tCall (spNever K) [] E (tCons ta tNil)) tb)) σ H false := fun H1 e1 Q q =>
  h H1 e1 _ fun H2 e2 => ⟨v, rs, rfl, hv.ex (e1.trans e2), hl, fun c ws H3 hc e3 g3 f3 => hb H3 ((e1.trans e2).trans e3) _ fun H4 e4 => by
    have eZ := ((e1.trans e2).trans e3).trans e4
    refine ⟨listsD (nevT rs), listsD (nevT rs), .lst (sq_of (e4 _ _ g3)) (dp_all (f3.ex e4)), .lst (sq_of (eZ _ _ ha)) (dp_all (f.ex eZ)), (nice_lists _).shaped (by decide), (nice_lists _).shaped (by decide), _, rfl, ?_⟩
    rw [SeqAt.eqv_refl _ (nice_lists _).1]
    exact q _ ((e2.trans e3).trans e4)⟩
theorem er_last0 {rs : HH.Row} {L : List Cow} {E : XK} (h : Ev ta σ H v) (hv : RowAt K H v rs) (hl : rs.length ≤ 1000) (ht : ∀ b ∈ rs, 0 ≤ b.2) (st : Steps (tag 0 rs) L) (nf : Nf L) : EvR K (tOp (rIxT K) (tCall (spLast K) [] E (tCons ta tNil)) (tC (.int 0))) σ H (rowsOf L) := fun H1 e1 Q q =>
  h H1 e1 _ fun H2 e2 => ⟨v, rs, rfl, hv.ex (e1.trans e2), hl, ht, fun c H3 M e3 la sM nM => by
    obtain ⟨u, ot, a1, a2, a3⟩ := la.ex
    rw [nf_any (good_tag ht).tl sM (nfr_nf nM) st nf] at a2
    exact ⟨c, _, 0, u, rfl, rfl, st_of a1, rfl, q u H3 (e2.trans e3) a2⟩⟩
theorem et_neR2 {rs : HH.Row} (h : EvR K ta σ H rs) (g : EvR K tb σ H rs) : EvT (tTest (tOp (rNeD K) ta tb)) σ H false := fun H1 e1 Q q =>
  h H1 e1 _ fun v H2 e2 hv => g H2 (e1.trans e2) _ fun u H3 e3 hu => by
    obtain ⟨a, rfl, h1⟩ := (hv.ex e3).dp
    obtain ⟨b, rfl, h2⟩ := hu.dp
    refine ⟨rowD rs, rowD rs, h1, h2, (nice_row rs).shaped (by decide), (nice_row rs).shaped (by decide), _, rfl, ?_⟩
    rw [SeqAt.eqv_refl _ (nice_row rs).1]
    exact q _ (e2.trans e3)
end
end HH
set_option maxHeartbeats 4000000
namespace HH
open PySem PySem.Spec PyProof.Rows L2 Evl RZ
def spJoined (K : PySem.W.Frag) : Sp := fun vs H Q _ => ∃ (v u : V) (rs ss : HH.Row), vs = [v, u] ∧ RowAt K H v rs ∧ RowAt K H u ss ∧ rs.length + ss.length ≤ 1000 ∧ ∀ z H', Ex H H' → RowAt K H' z (rs ++ ss) → Q z H'
def acrossF (ps : HH.Row) (m : Int) : HH.Row := (ps.filter fun p => decide (p.1 < m) && decide (p.2 ≥ m)).map fun p => (p.1, p.2 - m)
def spAcross (K : PySem.W.Frag) : Sp := fun vs H Q _ => ∃ (v u : V) (rs ss : HH.Row), vs = [v, u] ∧ RowAt K H v rs ∧ RowAt K H u ss ∧ rs.length + ss.length ≤ 30 ∧ (∀ b ∈ rs ++ ss, 0 ≤ b.2) ∧
  ∀ (q : Addr) (us : List V) (L : List Cow) (H' : Hp), Steps (tag 0 (rs ++ ss)) L → Nf L → H q = none → Ex H H' → H' q = some (.lst us) → Beasts K H' us (acrossF (tab (L.map (·.1)) (rs ++ ss).length (rs ++ ss).length) (rs.length : Int)) → Q (.ref q) H'
def spPiece (K : PySem.W.Frag) : Sp := fun vs H Q _ => ∃ (v : V) (rs : HH.Row) (b e : Nat), vs = [v, .int (b : Int), .int (e : Int)] ∧ RowAt K H v rs ∧ b ≤ e ∧ e ≤ rs.length ∧ ∀ z H', Ex H H' → RowAt K H' z (pieceR rs b e) → Q z H'
abbrev RowsA (K : PySem.W.Frag) (H : Hp) : List V → List HH.Row → Prop := All2 (RowAt K H)
theorem RowsA.ex' {K : PySem.W.Frag} {H H' : Hp} {us : List V} {rr : List HH.Row} (h : RowsA K H us rr) (e : Ex H H') : RowsA K H' us rr := All2.mono (fun _ _ r => r.ex e) h
theorem RowsA.exB' {K : PySem.W.Frag} {H H' : Hp} {us : List V} {rr : List HH.Row} {q : Addr} {ys : List V} (h : RowsA K H us rr) (e : ExB q H H') (hq : H q = some (.lst ys)) : RowsA K H' us rr := All2.mono (fun _ _ r => r.exL e hq) h
def spLastOf (K : PySem.W.Frag) : Sp := fun vs H Q _ => ∃ (a : Addr) (us : List V) (rr : List HH.Row), vs = [.ref a] ∧ (SqL K H a us ∨ SqT K H a us) ∧ RowsA K H us rr ∧ rr.length ≤ 100 ∧ rr.flatten.length ≤ 1000 ∧ (∀ b ∈ rr.flatten, 0 ≤ b.2) ∧
  ∀ z H' (L : List Cow), Ex H H' → RowAt K H' z (rowsOf L) → Steps (tag 0 rr.flatten) L → Nf L → Q z H'
theorem flat_take {α : Type} {rr : List (List α)} {i : Nat} {r : List α} (h : rr[i]? = some r) : (rr.take (i + 1)).flatten = (rr.take i).flatten ++ r := by
  rw [List.take_add_one, h, List.flatten_append]
  simp
theorem flat_len {α : Type} (rr : List (List α)) (i : Nat) : (rr.take i).flatten.length ≤ rr.flatten.length := by
  have e : rr.flatten = (rr.take i).flatten ++ (rr.drop i).flatten := by rw [← List.flatten_append, List.take_append_drop]
  rw [e, List.length_append]
  omega
theorem flat_len2 {α : Type} {rr : List (List α)} {i : Nat} {r : List α} (h : rr[i]? = some r) : (rr.take i).flatten.length + r.length ≤ rr.flatten.length := by
  have := flat_len rr (i + 1)
  rw [flat_take h, List.length_append] at this
  exact this
theorem across_len (ps : HH.Row) (m : Int) : (acrossF ps m).length ≤ ps.length := by
  unfold acrossF
  rw [List.length_map]
  exact List.length_filter_le ..
theorem across_succ {ps : HH.Row} {m : Int} {k : Nat} (h : k < ps.length) : acrossF (ps.take (k + 1)) m = acrossF (ps.take k) m ++ (if (decide (ps[k].1 < m) && decide (ps[k].2 ≥ m)) = true then [(ps[k].1, ps[k].2 - m)] else []) := by
  have et : ps.take (k + 1) = ps.take k ++ [ps[k]] := by
    rw [List.take_add_one, List.getElem?_eq_getElem h]
    rfl
  unfold acrossF
  rw [et, List.filter_append, List.map_append]
  by_cases hc : (decide (ps[k].1 < m) && decide (ps[k].2 ≥ m)) = true
  · rw [if_pos hc, List.filter_cons_of_pos (p := fun p : Int × Int => decide (p.1 < m) && decide (p.2 ≥ m)) hc]
    rfl
  · rw [if_neg hc, List.filter_cons_of_neg (p := fun p : Int × Int => decide (p.1 < m) && decide (p.2 ≥ m)) hc]
    rfl
theorem call_len_seqK {X : Cx} {K : PySem.W.Frag} (h : X.K = K := by rfl) : CallR X (.builtin "len") (rLenS K) := by
  subst h
  exact call_len_seq
/-! rows as data -/
def rowsD (rr : List HH.Row) : PyData := .list (rr.map rowD)
theorem rows_dp {K : PySem.W.Frag} {H : Hp} : ∀ {us : List V} {rr : List HH.Row}, RowsA K H us rr → DpAll K H us (rr.map rowD)
  | _, _, .nil => .nil
  | _, _, .cons a b => by
    obtain ⟨p, rfl, h2⟩ := a.dp
    exact .cons h2 (rows_dp b)
theorem dp_rows {K : PySem.W.Frag} {H : Hp} {a : Addr} {us : List V} {rr : List HH.Row} (h : SqL K H a us) (hb : RowsA K H us rr) : Dp K H (.ref a) (rowsD rr) := .lst h (rows_dp hb)
/-! a right that is asked again -/
def spRightN (c : Nat) : Sp := fun vs H Q _ => ∃ (p : Addr) (n : Nat), vs = [.ref p] ∧ Bx H p n ∧ n + c < Lim ∧ ∀ H', ExB p H H' → Bx H' p (n + c) → Q (.bl true) H'
theorem all_right {K : PySem.W.Frag} {σ : L2.St} {H : Hp} {p : Addr} {ib j m c n : Nat} {vs : List Nat} {E : XK} {Q : VK} (hp : ∀ x, ((wipe σ vs).set j (some x))[ib]? = some (some (.ref p))) (hw : ∀ x, wipe ((wipe σ vs).set j (some x)) vs = wipe σ vs) (hm : m ≤ 100) (hb : Bx H p n) (hn : n + m * c < Lim)
    (k : ∀ H', ExB p H H' → Bx H' p (n + m * c) → Q (.bl true) H') :
    tCB (rAll K) (tCons (tLc (iRng1 (tCons (tC (.int (m : Int))) tNil)) (gName j) tYes (tCall (spRightN c) [] E (tCons (tVar ib) tNil)) vs) tNil) σ H Q := by
  refine ⟨(m : Int), rfl, by omega, by omega, fun D hD => ?_⟩
  have hDp : p ≠ D := hb.ne hD
  refine lc_range (lo := 0) (n := ((m : Int)).toNat) (fun i H' => ExB p H H' ∧ Bx H' p (n + i * c) ∧ H' D = some (.lst ((List.replicate i true).map V.bl))) ⟨(ExB.refl _ _).new hD, (hb.ex (Ex.new hD)).le (by omega), upd_same⟩ (fun i H' hi q => ?_) (fun H' q => ?_)
  · obtain ⟨q1, q2, q3⟩ := q
    have hi' : i < m := by omega
    have hmul : i * c + c ≤ m * c := by
      have := Nat.mul_le_mul_right c (show i + 1 ≤ m by omega)
      rw [Nat.add_mul] at this
      omega
    refine ⟨hw _, ?_⟩
    refine t_yes ⟨.ref p, hp _, p, n + i * c, rfl, q2, by omega, fun H2 x2 b2 => ?_⟩
    have g2 := x2 _ _ (Ne.symm hDp) q3
    refine ⟨_, g2, sz_lt (by rw [List.length_map, List.length_replicate]; omega), (q1.trans x2).mut hD, ?_, ?_⟩
    · refine ((b2.mut hDp)).le ?_
      rw [Nat.add_mul]
      omega
    · rw [upd_same, List.replicate_succ', List.map_append]
      rfl
  · obtain ⟨q1, q2, q3⟩ := q
    refine ⟨D, List.replicate m true, rfl, sq_of q3, ?_⟩
    have e3 : (List.replicate m true).all id = true := by
      rw [List.all_eq_true]
      intro x hx
      rw [(List.mem_replicate.mp hx).2]
      rfl
    rw [e3]
    exact k H' q1 q2
theorem show_rowB {rs : HH.Row} (h : ∀ b ∈ rs, Low b) : (rowD rs).showable = true ∧ (rowD rs).shown.length ≤ 60 * rs.length + 10 := by
  obtain ⟨a, b, c⟩ := show_all h
  refine ⟨by simp only [rowD, PyData.showable]; exact a, ?_⟩
  have e : (rowD rs).shown = tupleText (PyData.shownAll (rs.map beastD)) := by simp only [rowD, PyData.shown]
  rw [e]
  have := tupleText_len_le (PyData.shownAll (rs.map beastD))
  omega
theorem show_allR : ∀ {rr : List HH.Row}, (∀ r ∈ rr, r.length ≤ 100 ∧ ∀ b ∈ r, Low b) → PyData.showableAll (rr.map rowD) = true ∧ ((PyData.shownAll (rr.map rowD)).map (·.length)).sum ≤ 6010 * rr.length ∧ (PyData.shownAll (rr.map rowD)).length = rr.length
  | [], _ => ⟨by simp [PyData.showableAll], by simp [PyData.shownAll], by simp [PyData.shownAll]⟩
  | b :: r, h => by
    obtain ⟨h1, h2⟩ := h b (List.mem_cons_self ..)
    obtain ⟨a1, a2⟩ := show_rowB h2
    obtain ⟨b1, b2, b3⟩ := show_allR (rr := r) fun c hc => h c (List.mem_cons_of_mem _ hc)
    refine ⟨by simp only [List.map_cons, PyData.showableAll, a1, b1]; rfl, ?_, ?_⟩
    · simp only [List.map_cons, PyData.shownAll, List.sum_cons, List.length_cons]
      omega
    · simp only [List.map_cons, PyData.shownAll, List.length_cons]
      omega
theorem show_rows {rr : List HH.Row} (h : ∀ r ∈ rr, r.length ≤ 100 ∧ ∀ b ∈ r, Low b) (hl : rr.length ≤ 10) : (rowsD rr).showable = true ∧ (rowsD rr).shown.length ≤ sizeLine := by
  obtain ⟨a, b, c⟩ := show_allR h
  refine ⟨by simp only [rowsD, PyData.showable]; exact a, ?_⟩
  have e : (rowsD rr).shown = listText (PyData.shownAll (rr.map rowD)) := by simp only [rowsD, PyData.shown]
  rw [e]
  have := listText_len_le (PyData.shownAll (rr.map rowD))
  exact sz_of (by omega)
section
variable {K : PySem.W.Frag} {σ : L2.St} {H : Hp} {ta tb tc tx : TE} {Q : VK}
theorem et_chain {a m b : Int} (ha : Ev ta σ H (.int a)) (hb : Ev tb σ H (.int m)) (hc : Ev tc σ H (.int b)) : EvT (tTest (tChain (rI0 fun i j => .bl (decide (i < j))) (rI0 fun i j => .bl (decide (i ≤ j))) ta tb tc)) σ H (decide (a < m) && decide (m ≤ b)) := fun H1 e1 Q q => by
  refine ha H1 e1 _ fun H2 e2 => hb H2 (e1.trans e2) _ fun H3 e3 => ⟨a, m, rfl, rfl, _, rfl, ?_⟩
  have e23 := e2.trans e3
  cases h : decide (a < m) with
  | true =>
    rw [if_pos rfl]
    refine hc H3 (e1.trans e23) _ fun H4 e4 => ⟨m, b, rfl, rfl, _, rfl, ?_⟩
    rw [h, Bool.true_and] at q
    exact q H4 (e23.trans e4)
  | false =>
    rw [if_neg (by decide)]
    rw [h, Bool.false_and] at q
    exact ⟨_, rfl, q H3 e23⟩
theorem q_sortEndR {p : Addr} {rs : HH.Row} {n ib : Nat} (hp : σ[ib]? = some (some (.ref p))) (hx : EvR K tx σ H rs) (hl : rs.length ≤ 30) (ht : ∀ b ∈ rs, 0 ≤ b.2) (hb : Bx H p n) (hn : n + 1000 < Lim)
    (k : ∀ (L : List Cow) (sp : Addr) (ys : List V) (H' : Hp), ExB p H H' → Bx H' p (n + 1000) → Steps (tag 0 rs) L → Nf L → H sp = none → H' sp = some (.lst ys) → Beasts K H' ys (tab (L.map (·.1)) rs.length rs.length) → Q (.ref sp) H') :
    tCB (rSortedPT K) (tCons (tOp (rIxT K) (tCall (spEnded K) [] E0 (tCons (tVar ib) (tCons tx tNil))) (tC (.int 2))) tNil) σ H Q := by
  refine ⟨.ref p, hp, hx H (Ex.refl H) _ fun v H1 e1 hv => ⟨p, v, rs, n, rfl, hv, hl, ht, hb.ex e1, hn, fun q4 v4 ot4 lp4 pvs4 L ps4 H4 E4 run4 f4 nil4 => ?_⟩⟩
  refine ⟨q4, _, 2, .ref lp4, rfl, rfl, st_of E4.q, rfl, lp4, pvs4, ps4, rfl, sq_of E4.lst, E4.prs, fun ys qs sp bys pm srt hsp => ?_⟩
  have td := told_tab (run4.told ht).1 (ids_lt (rs := rs) run4.steps.idsT (Nat.le_refl _))
  have eqs := sort_one (pm.trans td) srt (pw_no (pw_tab _ _ _))
  subst eqs
  have e5 := Ex.new (o := .lst ys) hsp
  obtain ⟨xs, hxs⟩ := E4.bx.lst
  exact k L sp ys _ ((ExB.of e1).trans (E4.ex.trans (.of e5))) (E4.bx.ex e5) run4.steps (nf_of nil4) (fresh_back e1 (fresh_backB E4.ex hxs hsp)) upd_same (bys.ex e5)
theorem alike_three {d : Nat} {a b : Addr} {x1 x2 x3 y1 y2 y3 : V} (h : SqL K H a [x1, x2, x3]) (g : SqL K H b [y1, y2, y3]) (h1 : Alike K H d x1 y1) (h2 : Alike K H d x2 y2) (h3 : Alike K H d x3 y3) : Alike K H (d + 1) (.ref a) (.ref b) := by
  refine .inr ⟨a, b, _, _, rfl, rfl, .inl ⟨h, g⟩, rfl, by show 3 ≤ 40000; decide, fun i u v hu hv => ?_⟩
  match i, hu, hv with
  | 0, hu, hv => cases hu; cases hv; exact h1
  | 1, hu, hv => cases hu; cases hv; exact h2
  | 2, hu, hv => cases hu; cases hv; exact h3
  | i + 3, hu, _ => cases hu
/-- [(one, other - len(row)) for one, other in pairs if one < len(row) <= other] -/
theorem ep_due {v : V} {rs ps : HH.Row} {a : Addr} {us : List V} {ip iv i j : Nat} {vs : List Nat} (h : σ[ip]? = some (some (.ref a))) (ha : H a = some (.lst us)) (bs : Beasts K H us ps) (hl : ps.length ≤ 1000) (hv : RowAt K H v rs)
    (hw : ∀ x y, wipe (((wipe σ vs).set i (some x)).set j (some y)) vs = wipe σ vs) (ci : ∀ x y : V, (((wipe σ vs).set i (some x)).set j (some y))[i]? = some (some x)) (cj : ∀ x y : V, (((wipe σ vs).set i (some x)).set j (some y))[j]? = some (some y)) (cv : ∀ x y : V, (((wipe σ vs).set i (some x)).set j (some y))[iv]? = some (some v)) :
    EvP K (tLc (iList K (tVar ip)) (gTup K 2 (gCons (gName i) (gCons (gName j) gNil))) (tTest (tChain (rI0 fun i j => .bl (decide (i < j))) (rI0 fun i j => .bl (decide (i ≤ j))) (tVar i) (tCB (rLenS K) (tCons (tVar iv) tNil)) (tVar j))) (tTup (tCons (tVar i) (tCons (tOp (rI0 fun i j => .int (i - j)) (tVar j) (tCB (rLenS K) (tCons (tVar iv) tNil))) tNil))) vs) σ H (acrossF ps (rs.length : Int)) := fun H1 e1 Q q => by
  refine ⟨.ref a, h, a, rfl, ⟨us, sq_of (e1 _ _ ha)⟩, fun Dl hD => ?_⟩
  refine in_it (walk_list (xs := us)) (fun k H4 => Ex H1 H4 ∧ ∃ ws, H4 Dl = some (.lst ws) ∧ Beasts K H4 ws (acrossF (ps.take k) (rs.length : Int))) ⟨Ex.new hD, [], upd_same, Beasts.nil⟩ (fun k H4 _ p => sq_of (p.1 _ _ (e1 _ _ ha))) (fun k x H4 H5 hk p y => ?_) (fun H4 p => ?_)
  · obtain ⟨rfl, hx⟩ := y
    obtain ⟨p1, ws, p2, p3⟩ := p
    have hk' : k < ps.length := by rw [← bs.1]; exact hk
    obtain ⟨u', hu', bp, rfl, hb⟩ := bs.2 k _ (List.getElem?_eq_getElem hk')
    rw [hx] at hu'
    cases hu'
    have ea := across_succ (m := (rs.length : Int)) hk'
    have e14 := e1.trans p1
    refine ⟨bp, _, rfl, ex_t e14 hb, rfl, _, _, rfl, _, _, rfl, rfl, hw _ _, ?_⟩
    refine t_ev (b := decide (ps[k].1 < (rs.length : Int)) && decide ((rs.length : Int) ≤ ps[k].2)) (et_chain (ev_var (ci _ _)) (ev_lenR (ev_var (cv _ _)) (hv.ex e14)) (ev_var (cj _ _))) fun H6 e6 => ?_
    cases hc : (decide (ps[k].1 < (rs.length : Int)) && decide ((rs.length : Int) ≤ ps[k].2)) with
    | true =>
      have hc' : (decide (ps[k].1 < (rs.length : Int)) && decide (ps[k].2 ≥ (rs.length : Int))) = true := hc
      rw [hc', if_pos rfl] at ea
      refine ⟨_, ci _ _, _, cj _ _, ?_⟩
      refine (ev_lenR (K := K) (ev_var (cv _ _)) (hv.ex (e14.trans e6)) : Ev (tCB (rLenS K) (tCons (tVar iv) tNil)) _ H6 (.int (rs.length : Int))) H6 (Ex.refl H6) _ fun H7 e7 => ⟨_, _, rfl, rfl, by show 2 ≤ sizeLine; decide, fun T hT => ?_⟩
      have e8 := Ex.new (o := .tup [V.int ps[k].1, .int (ps[k].2 - (rs.length : Int))]) hT
      have g1 := e8 _ _ (e7 _ _ (e6 _ _ p2))
      refine ⟨ws, g1, ?_, Ex.mut (((p1.trans e6).trans e7).trans e8) hD, ws ++ [.ref T], upd_same, ?_⟩
      · rw [p3.1]
        have := across_len (ps.take k) (rs.length : Int)
        rw [List.length_take] at this
        exact sz_lt (by omega)
      · rw [ea]
        exact ((p3.ex ((e6.trans e7).trans e8)).app (Beasts.one (b := (ps[k].1, ps[k].2 - (rs.length : Int))) ⟨T, rfl, st_of upd_same⟩)).exB (ExB.refl _ _).upd g1
    | false =>
      have hc' : (decide (ps[k].1 < (rs.length : Int)) && decide (ps[k].2 ≥ (rs.length : Int))) = false := hc
      rw [hc', if_neg (by decide), List.append_nil] at ea
      refine ⟨p1.trans e6, ws, e6 _ _ p2, ?_⟩
      rw [ea]
      exact p3.ex e6
  · obtain ⟨p1, ws, p2, p3⟩ := p
    rw [bs.1, List.take_length] at p3
    exact q Dl ws H4 hD p1 p2 p3
end
theorem piece_all (rs : HH.Row) : pieceR rs 0 rs.length = rs := by
  unfold pieceR
  rw [List.drop_zero, Nat.sub_zero, List.take_length]
theorem nice_rows (rr : List HH.Row) : Nice 3 (rowsD rr) := by
  refine nice_list fun d hd => ?_
  obtain ⟨r, _, rfl⟩ := List.mem_map.mp hd
  exact nice_row r
end HH
set_option maxHeartbeats 4000000
namespace HH
open PySem PySem.Spec PyProof.Rows L2 Evl RZ
/-! dict comprehensions whose keys are tuples -/
section
variable {X : Cx}
theorem run_put {ps : List (Addr × Obj)} {τ : L2.St} {G G' : Hp} {t : Shared} {Er : Value → Shared → Prop} {d : Addr} {key val : V} {ku vu : Value} {Fin : Unit → Shared → Prop} (rm : X.A.units < cLine) (inv : Inv X ps τ G t) (put : DPut G d key val G') (rk : RelV key ku) (rv : RelV val vu)
    (go : ∀ t', Inv X ps τ G' t' → Fin () t') : wpAny (model X.prog X.w) X.A (dictSet d ku vu) Fin Er t := by
  rcases put with ⟨es, c, ed, rfl, sz, rfl⟩ | ⟨es, c, b, ed, rfl, eb, sz, rfl⟩
  · exact d_dictSet inv ed sz rk rv go
  · cases (show ku = Value.ref b from rk)
    obtain ⟨z1, z2, rows, pr, holds⟩ := dt_of inv.hok ed
    have few : rows.length ≤ sizeLine := (Paired.length pr) ▸ z1
    refine wpAny_dictSet_heap (knd := tupleKind (mixKind X.prog X.w)) (hsz := few) rm (key_of inv.hok eb) holds fun g2 holds2 same => go _ ?_
    obtain ⟨ob, ents, ep, o1, o2, o3, o4, _, o6⟩ := holds2
    have len2 : (putK es c val).length ≤ sizeLine := Nat.le_trans (length_putK es c val) sz
    have pr2 := (pr.put c eb rv).keeps (H' := upd G d (.dT (putK es c val))) fun x ys ex => by
      rw [upd_ne (ne_of ex ed fun z => nomatch z)]
      exact ex
    exact d_write inv (by rw [ed]; trivial) same ⟨ob, o1⟩ ⟨len2, z2, _, pr2, ob, ents, ep, o1, o2, o3, o4, o6⟩
/-- {k: v for ..}: d the new dict, each put by what DPut says -/
def tDcT (wi : TI) (g : TG) (tt : TT) (tk tv : TE) (vs : List Nat) : TE := fun σ H Q => wi σ H fun J H1 => ∀ d, H1 d = none → ∃ W : Nat → Nat → Hp → Prop, (∃ m, W 0 m (upd H1 d (.dT []))) ∧ ∀ i m G, W i m G →
  (J.stop i G ∧ Q (.ref d) G) ∨ (J.go i G ∧ ∃ Nx : Hp → Prop, (∀ G', Nx G' → ∃ m', m' < m ∧ W (i + 1) m' G') ∧ ∀ x G', J.yld i G x G' → g x (wipe σ vs) G' fun σ2 G2 => wipe σ2 vs = wipe σ vs ∧ tt σ2 G2 fun b G3 =>
    if b = true then tk σ2 G3 fun y G4 => tv σ2 G4 fun z G5 => ∃ G6, DPut G5 d y z G6 ∧ Nx G6 else Nx G3)
theorem core_dcT {ps : List (Addr × Obj)} {t : Shared} {σ : L2.St} {H : Hp} {Q : VK} {kx vx tg it : Expr} {ifs : List Expr} {scp : Scope} {own : List (Str × Nat)} {pa pb : Pos} {wi : TI} {g : TG} {tt : TT} {tk tv : TE} {use : Option (Value → Sem Unit)} {Fin : Value → Shared → Prop}
    (calm : X.calm = true) (rm : X.A.units < cLine) (nd : X.N.Nodup) (inv : Inv X ps σ H t) (pi : PI X tg it wi) (ok : BlkOk X.N X.env.scope scp own)
    (pg : ∀ (s : Shared) (G : Hp) (c : Addr) (cl : List (Str × Addr)) (fp : List Addr), PG (X.blk s G scp (compEnvC scp cl c X.env) fp) tg g)
    (pt : ∀ (s : Shared) (G : Hp) (c : Addr) (cl : List (Str × Addr)) (fp : List Addr), PTs (X.blk s G scp (compEnvC scp cl c X.env) fp) ifs tt)
    (pk : ∀ (s : Shared) (G : Hp) (c : Addr) (cl : List (Str × Addr)) (fp : List Addr), PE (X.blk s G scp (compEnvC scp cl c X.env) fp) kx tk)
    (pv : ∀ (s : Shared) (G : Hp) (c : Addr) (cl : List (Str × Addr)) (fp : List Addr), PE (X.blk s G scp (compEnvC scp cl c X.env) fp) vx tv)
    (fold : ∀ x, foldedSetIterable it X.env x = pure x) (told : tDcT wi g tt tk tv (own.map (·.2)) σ H Q)
    (last : ∀ d c t' m G, Inv X ps σ G t' → Q (.ref d) G → t'.heap.Ns c m → FpOk X ps G c → compPost (model X.prog X.w) X.A X.xe use Fin (.ref d) c (.ok .next) t') :
    wpAny (model X.prog X.w) X.A (comprehension (.DictComp kx vx [⟨tg, it, ifs, 0⟩] scp pa) scp X.env pb newDict false (eval it X.env) use) Fin X.xe t := by
  have cells : ∀ y ∈ scp.names, y.2 = .free → ∃ c, X.env.cells.lookup y.1 = some c := by
    intro y my ey
    exact (ok.free y my ey).elim (fun k => inv.ok.has _ (.inl k)) fun k => inv.ok.has _ (.inr k)
  refine wpAny_comprehension_free (use := use) rfl fold (closure_ok cells) ok.kind (fun y my ey => (ok.uniq y my).trans (congrArg some ey)) ?_
  refine thn (pi.run ps t σ H _ inv told) fun x1 t1 h1 => thn h1 fun x2 t2 h2 => ?_
  obtain ⟨ia, fp, tn, J, H2, rfl, inv2, turns, at2, fp2, steps⟩ := h2
  refine wpAny_newObj_type (newEnv_comp ?_)
  have fresh : H2 t2.heap.objs.size = none := inv2.hok.fresh (Nat.le_refl _)
  obtain ⟨W, ⟨m0, w0⟩, turn⟩ := steps t2.heap.objs.size fresh
  have inv3 : Inv X ps σ (upd H2 t2.heap.objs.size (.dT [])) { t2 with heap := t2.heap.push { cls := .type "dict", data := .dict #[] } } :=
    inv2.laid (t' := t2.toks) (fun a o ea => Heap.get?_push_of_some _ ea) (Nat.le_refl _) (dt_empty t2.heap inv2.big)
  have below : ∀ a ∈ fp, a < t2.heap.objs.size := fun a ma => by
    obtain ⟨o, eo, _⟩ := turns.obj _ _ at2 a ma
    exact Heap.lt_size eo
  have fp3 : ∀ a ∈ fp, FpOk X ps (upd H2 t2.heap.objs.size (.dT [])) a ∧ a < (t2.heap.push { cls := .type "dict", data := .dict #[] }).objs.size := fun a ma => by
    have lt := below a ma
    constructor
    · refine ⟨?_, (fp2 a ma).2⟩
      rw [upd_ne (Nat.ne_of_lt lt)]
      exact (fp2 a ma).1
    · rw [Heap.size_push]
      exact Nat.lt_succ_of_lt lt
  have at3 : tn 0 (t2.heap.push { cls := .type "dict", data := .dict #[] }) := turns.keep _ _ _ at2 fun a _ o eo => Heap.get?_push_of_some _ eo
  generalize t2.heap.objs.size = d at *
  generalize et3 : ({ t2 with heap := t2.heap.push { cls := .type "dict", data := .dict #[] } } : Shared) = t3 at *
  have eh3 : t2.heap.push { cls := .type "dict", data := .dict #[] } = t3.heap := by rw [← et3]
  rw [eh3] at fp3 at3
  have inv4 := block_start inv3 ok nd fp3
  have pg4 := pg t3 (upd H2 d (.dT [])) t3.heap.objs.size (cellsFrom (t3.heap.objs.size + 1) scp.names (cloFrom X.env.cells scp.names [])) fp
  have pt4 := pt t3 (upd H2 d (.dT [])) t3.heap.objs.size (cellsFrom (t3.heap.objs.size + 1) scp.names (cloFrom X.env.cells scp.names [])) fp
  have pk4 := pk t3 (upd H2 d (.dT [])) t3.heap.objs.size (cellsFrom (t3.heap.objs.size + 1) scp.names (cloFrom X.env.cells scp.names [])) fp
  have pv4 := pv t3 (upd H2 d (.dT [])) t3.heap.objs.size (cellsFrom (t3.heap.objs.size + 1) scp.names (cloFrom X.env.cells scp.names [])) fp
  show codeAny _ _ (.compStart (.DictComp kx vx [⟨tg, it, ifs, 0⟩] scp pa) 0 (.ref ia) (.ref d) (compEnvC scp (cellsFrom (t3.heap.objs.size + 1) scp.names (cloFrom X.env.cells scp.names [])) t3.heap.objs.size X.env)) _ _
  have none3 : ∀ a ∈ fp, (upd H2 d (.dT [])) a = none := fun a ma => (fp3 a ma).1.1
  generalize eEnv : compEnvC scp (cellsFrom (t3.heap.objs.size + 1) scp.names (cloFrom X.env.cells scp.names [])) t3.heap.objs.size X.env = env4 at *
  have locs : env4.locals = t3.heap.objs.size := by rw [← eEnv]; rfl
  generalize upd H2 d (.dT []) = H3 at *
  generalize et4 : ({ t3 with heap := pushCells (t3.heap.push { cls := .type "dict", data := .dict #[] }) scp.names } : Shared) = t4 at *
  have at4 : tn 0 t4.heap := turns.keep _ _ _ at3 fun a _ o eo => by
    rw [← et4]
    exact pushCells_keeps _ _ _ _ (Heap.get?_push_of_some _ eo)
  have held : ∀ {τ : L2.St} {G : Hp} {t' : Shared}, Inv (X.blk t3 H3 scp env4 fp) [] τ G t' → (∀ a ∈ fp, G a = none) → ∀ a ∈ fp, FpOk (X.blk t3 H3 scp env4 fp) [] G a := by
    intro τ G t' inv' no a ma
    have x1 := inv'.ok.exf a ma
    refine ⟨no a ma, x1.1, inv'.ok.exfs a ma, .inl ma, fun y c ec => x1.2 y c ec, fun p mp => ?_⟩
    have : p ∈ ([] : List (Addr × Obj)) ++ [] := mp
    simp at this
  have whole : codeAny (model X.prog X.w) X.A (.compLoop (.DictComp kx vx [⟨tg, it, ifs, 0⟩] scp pa) 0 (.ref ia) (.ref d) env4) (compPost (model X.prog X.w) X.A X.xe use Fin (.ref d) t3.heap.objs.size) t4 := by
    refine compLoop_anyD (fun n t' => ∃ i G, Inv (X.blk t3 H3 scp env4 fp) [] (wipe σ (own.map (·.2))) G t' ∧ tn i t'.heap ∧ (∀ a ∈ fp, G a = none) ∧ W i n G) ?_ m0 ⟨0, H3, inv4, at4, none3, w0⟩
    rintro n t5 ⟨i, H5, inv5, at5, none5, w5⟩
    rcases turn i n H5 w5 with ⟨stops, qd⟩ | ⟨goes, Nx, less, step⟩
    · refine thnF (turns.done (X.blk t3 H3 scp env4 fp) rfl rfl rfl calm i [] t5 _ H5 (fun _ _ => False) inv5 (held inv5 none5) at5 stops) fun r t6 ⟨er, inv6⟩ => ?_
      subst er
      have back : Inv X ps σ H5 t6 := inv3.call' (ch := fp) inv6.os inv6.base inv6.hok inv6.bare fun a ma => by
        obtain ⟨_, y1, _, y3, y4, y5⟩ := (fp3 a ma).1
        exact ⟨y3, y1, y4, y5⟩
      obtain ⟨m, ns, _⟩ := inv6.loc
      have ns' : t6.heap.Ns env4.locals m := ns
      have none6 : H5 env4.locals = none := inv6.free
      rw [locs] at ns' none6
      exact last d t3.heap.objs.size t6 m H5 back qd ns' (inv3.fpOk (Nat.le_refl _) none6)
    · refine thnF (turns.item (X.blk t3 H3 scp env4 fp) rfl rfl rfl calm i [] t5 _ H5 (fun _ _ => False) inv5 (held inv5 none5) at5 goes) fun r t6 ⟨u, er, h6⟩ => ?_
      subst er
      refine thnF h6 fun _ t7 ⟨x, H7, inv7, rx, yx, at7, none7⟩ => ?_
      have pinned := inv7.pinned (held inv7 none7) (turns.obj _ _ at7)
      refine thnF (pg4.run _ t7 _ H7 x u _ pinned rx (step x H7 yx)) fun _ t8 ⟨σ8, H8, inv8, w8, q8⟩ => ?_
      refine thnF (pt4.run _ t8 σ8 H8 _ inv8 q8) fun b t9 ⟨H9, inv9, q9⟩ => ?_
      have next : ∀ {t' : Shared} {G : Hp}, Inv (X.blk t3 H3 scp env4 fp) ([] ++ pinsAt fp t7.heap) σ8 G t' → Nx G → ∃ m, m < n ∧ ∃ i G, Inv (X.blk t3 H3 scp env4 fp) [] (wipe σ (own.map (·.2))) G t' ∧ tn i t'.heap ∧ (∀ a ∈ fp, G a = none) ∧ W i m G := by
        intro t' G inv' nx
        obtain ⟨m', lt, w'⟩ := less G nx
        have still : ∀ a ∈ fp, ∀ o, t7.heap.get? a = some o → t'.heap.get? a = some o ∧ G a = none := by
          intro a ma o eo
          have z := inv'.pin (a, o) (List.mem_append_right _ (List.mem_append_right _ (mem_pinsAt ma eo)))
          exact ⟨z.1, z.2.1⟩
        have ln : (wipe σ (own.map (·.2))).length = σ8.length := (congrArg List.length w8.symm).trans (wipe_length _ _)
        refine ⟨m', lt, i + 1, G, (inv'.unpinned (pins := [])).weak ln (fun j v ej => ?_), turns.keep _ _ _ at7 fun a ma o eo => (still a ma o eo).1, fun a ma => ?_, w'⟩
        · rw [← w8] at ej
          exact (wipe_some ej).1
        · obtain ⟨o, eo, _⟩ := turns.obj _ _ at7 a ma
          exact (still a ma o eo).2
      cases b with
      | false =>
        rw [if_neg Bool.false_ne_true] at q9 ⊢
        exact next inv9 q9
      | true =>
        rw [if_pos rfl] at q9 ⊢
        refine thnF (pk4.run _ t9 σ8 H9 _ inv9 q9) fun ku t10 ⟨yk, H10, inv10, rk, q10⟩ => ?_
        refine thnF (pv4.run _ t10 σ8 H10 _ inv10 q10) fun vu t11 ⟨yv, H11, inv11, rv, H12, put, nx⟩ => ?_
        exact run_put (X := X.blk t3 H3 scp env4 fp) rm inv11 put rk rv fun t12 inv12 => next inv12 nx
  exact codeAny_compStart_dict whole (turns.self X.A 0 _ _ _ at4 whole)
theorem pe_dcT {kx vx tg it : Expr} {ifs : List Expr} {scp : Scope} {own : List (Str × Nat)} {pos : Pos} {wi : TI} {g : TG} {tt : TT} {tk tv : TE} (rm : X.A.units < cLine) (calm : X.calm = true) (nd : X.N.Nodup) (pi : PI X tg it wi) (ok : BlkOk X.N X.env.scope scp own)
    (pg : ∀ (s : Shared) (G : Hp) (c : Addr) (cl : List (Str × Addr)) (fp : List Addr), PG (X.blk s G scp (compEnvC scp cl c X.env) fp) tg g)
    (pt : ∀ (s : Shared) (G : Hp) (c : Addr) (cl : List (Str × Addr)) (fp : List Addr), PTs (X.blk s G scp (compEnvC scp cl c X.env) fp) ifs tt)
    (pk : ∀ (s : Shared) (G : Hp) (c : Addr) (cl : List (Str × Addr)) (fp : List Addr), PE (X.blk s G scp (compEnvC scp cl c X.env) fp) kx tk)
    (pv : ∀ (s : Shared) (G : Hp) (c : Addr) (cl : List (Str × Addr)) (fp : List Addr), PE (X.blk s G scp (compEnvC scp cl c X.env) fp) vx tv) (fold : ∀ x, foldedSetIterable it X.env x = pure x := by intro _; rfl) :
    PE X (.DictComp kx vx [⟨tg, it, ifs, 0⟩] scp pos) (tDcT wi g tt tk tv (own.map (·.2))) :=
  ⟨fun ps t σ H Q inv told => by
    rw [arm_eval_DictComp]
    refine core_dcT calm rm nd inv pi ok pg pt pk pv fold told fun d c t' m G inv' qd ns fpo => ⟨m, ns, fun g2 same => ?_⟩
    obtain ⟨a0, a1, _, a3, a4, a5⟩ := fpo
    exact ⟨.ref d, G, inv'.turned (t' := t'.toks) (fun a o na eo => (same.2 a na).trans eo) a0 a1 a3 a4 a5, rfl, qd⟩⟩
end
end HH
set_option maxHeartbeats 4000000
namespace HH
open PySem PySem.Spec PyProof.Rows L2 Evl RZ
/-! ### turned, by lists -/
def tF : Int → HH.Row → HH.Row
  | _, [] => []
  | c, x :: r => (-(x.1 - c), x.2) :: tF (c + x.2) r
def wF : Int → HH.Row → List Int
  | _, [] => []
  | c, x :: r => (x.1 - c) :: wF (c + x.2) r
theorem tF_app : ∀ (c : Int) (a b : HH.Row), tF c (a ++ b) = tF c a ++ tF (c + tsum a) b
  | c, [], b => by
    show tF c b = tF (c + 0) b
    rw [Int.add_zero]
  | c, x :: a, b => by
    show (-(x.1 - c), x.2) :: tF (c + x.2) (a ++ b) = (-(x.1 - c), x.2) :: (tF (c + x.2) a ++ tF (c + (x.2 + tsum a)) b)
    rw [tF_app, Int.add_assoc]
theorem wF_app : ∀ (c : Int) (a b : HH.Row), wF c (a ++ b) = wF c a ++ wF (c + tsum a) b
  | c, [], b => by
    show wF c b = wF (c + 0) b
    rw [Int.add_zero]
  | c, x :: a, b => by
    show (x.1 - c) :: wF (c + x.2) (a ++ b) = (x.1 - c) :: (wF (c + x.2) a ++ wF (c + (x.2 + tsum a)) b)
    rw [wF_app, Int.add_assoc]
theorem tF_len : ∀ (c : Int) (a : HH.Row), (tF c a).length = a.length
  | _, [] => rfl
  | c, x :: a => by
    show (tF (c + x.2) a).length + 1 = a.length + 1
    rw [tF_len]
theorem wF_len : ∀ (c : Int) (a : HH.Row), (wF c a).length = a.length
  | _, [] => rfl
  | c, x :: a => by
    show (wF (c + x.2) a).length + 1 = a.length + 1
    rw [wF_len]
theorem tF_at : ∀ (c : Int) (rs : HH.Row) (k : Nat), (tF c rs)[k]? = (rs[k]?).map fun b => (-(b.1 - (c + tsum (rs.take k))), b.2)
  | _, [], k => rfl
  | c, x :: r, 0 => by
    show some (-(x.1 - c), x.2) = some (-(x.1 - (c + 0)), x.2)
    rw [Int.add_zero]
  | c, x :: r, k + 1 => by
    show (tF (c + x.2) r)[k]? = (r[k]?).map fun b => (-(b.1 - (c + (x.2 + tsum (r.take k)))), b.2)
    rw [tF_at (c + x.2) r k, Int.add_assoc]
theorem wF_at : ∀ (c : Int) (rs : HH.Row) (k : Nat), (wF c rs)[k]? = (rs[k]?).map fun b => b.1 - (c + tsum (rs.take k))
  | _, [], k => rfl
  | c, x :: r, 0 => by
    show some (x.1 - c) = some (x.1 - (c + 0))
    rw [Int.add_zero]
  | c, x :: r, k + 1 => by
    show (wF (c + x.2) r)[k]? = (r[k]?).map fun b => b.1 - (c + (x.2 + tsum (r.take k)))
    rw [wF_at (c + x.2) r k, Int.add_assoc]
theorem turnR_tF (rs : HH.Row) : turnR rs = tF 0 rs := by
  refine List.ext_getElem? fun k => ?_
  rw [tF_at]
  by_cases h : k < rs.length
  · rw [turnR_get h, row_get h]
    show some (-(wt rs k), tS rs k) = some (-(sS rs k - (0 + tsum (rs.take k))), tS rs k)
    rw [Int.zero_add]
    rfl
  · rw [List.getElem?_eq_none (by rw [turnR_len]; omega), List.getElem?_eq_none (by omega)]
    rfl
theorem wtN_wF (rs : HH.Row) : wtN rs rs.length = wF 0 rs := by
  refine List.ext_getElem? fun k => ?_
  rw [wF_at]
  by_cases h : k < rs.length
  · rw [wtN_at h, row_get h]
    show some (wt rs k) = some (sS rs k - (0 + tsum (rs.take k)))
    rw [Int.zero_add]
    rfl
  · rw [List.getElem?_eq_none (by rw [wtN_len]; omega), List.getElem?_eq_none (by omega)]
    rfl
/-- the turned row falls where the row passes -/
theorem turn_pass (pre post : HH.Row) (a b : Int × Int) : turnR (pre ++ (b.1 - a.2, b.2) :: a :: post) = fallR (turnR (pre ++ a :: b :: post)) pre.length := by
  rw [turnR_tF, turnR_tF, tF_app, tF_app]
  have e : pre.length = (tF 0 pre).length := (tF_len 0 pre).symm
  rw [e]
  show tF 0 pre ++ (-(b.1 - a.2 - (0 + tsum pre)), b.2) :: (-(a.1 - (0 + tsum pre + b.2)), a.2) :: tF (0 + tsum pre + b.2 + a.2) post = fallR (tF 0 pre ++ (-(a.1 - (0 + tsum pre)), a.2) :: (-(b.1 - (0 + tsum pre + a.2)), b.2) :: tF (0 + tsum pre + a.2 + b.2) post) (tF 0 pre).length
  rw [fall_split]
  have e1 : -(b.1 - a.2 - (0 + tsum pre)) = -(b.1 - (0 + tsum pre + a.2)) := by omega
  have e2 : -(a.1 - (0 + tsum pre + b.2)) = -(a.1 - (0 + tsum pre)) + b.2 := by omega
  have e3 : 0 + tsum pre + b.2 + a.2 = 0 + tsum pre + a.2 + b.2 := by omega
  rw [e1, e2, e3]
theorem turn_fall (pre post : HH.Row) (a b : Int × Int) : turnR (pre ++ b :: (a.1 + b.2, a.2) :: post) = passR (turnR (pre ++ a :: b :: post)) (pre.length + 1) := by
  rw [turnR_tF, turnR_tF, tF_app, tF_app]
  have e : pre.length = (tF 0 pre).length := (tF_len 0 pre).symm
  rw [e]
  show tF 0 pre ++ (-(b.1 - (0 + tsum pre)), b.2) :: (-(a.1 + b.2 - (0 + tsum pre + b.2)), a.2) :: tF (0 + tsum pre + b.2 + a.2) post = passR (tF 0 pre ++ (-(a.1 - (0 + tsum pre)), a.2) :: (-(b.1 - (0 + tsum pre + a.2)), b.2) :: tF (0 + tsum pre + a.2 + b.2) post) ((tF 0 pre).length + 1)
  rw [pass_split]
  have e1 : -(b.1 - (0 + tsum pre)) = -(b.1 - (0 + tsum pre + a.2)) - a.2 := by omega
  have e2 : -(a.1 + b.2 - (0 + tsum pre + b.2)) = -(a.1 - (0 + tsum pre)) := by omega
  have e3 : 0 + tsum pre + b.2 + a.2 = 0 + tsum pre + a.2 + b.2 := by omega
  rw [e1, e2, e3]
/-- who passes keeps what it's weighed, who is passed has less by the passer's toll -/
theorem weigh_pass (pre post : HH.Row) (a b : Int × Int) : wF 0 (pre ++ (b.1 - a.2, b.2) :: a :: post) = (wF 0 (pre ++ a :: b :: post)).take pre.length ++ [b.1 - (0 + tsum pre + a.2), a.1 - (0 + tsum pre) - b.2] ++ (wF 0 (pre ++ a :: b :: post)).drop (pre.length + 2) := by
  rw [wF_app, wF_app]
  have e : pre.length = (wF 0 pre).length := (wF_len 0 pre).symm
  rw [e, List.take_left]
  have ed : (wF 0 pre ++ wF (0 + tsum pre) (a :: b :: post)).drop ((wF 0 pre).length + 2) = wF (0 + tsum pre + a.2 + b.2) post := by
    rw [← List.drop_drop, List.drop_left]
    rfl
  rw [ed]
  show wF 0 pre ++ (b.1 - a.2 - (0 + tsum pre)) :: (a.1 - (0 + tsum pre + b.2)) :: wF (0 + tsum pre + b.2 + a.2) post = _
  rw [List.append_assoc]
  have e1 : b.1 - a.2 - (0 + tsum pre) = b.1 - (0 + tsum pre + a.2) := by omega
  have e2 : a.1 - (0 + tsum pre + b.2) = a.1 - (0 + tsum pre) - b.2 := by omega
  have e3 : 0 + tsum pre + b.2 + a.2 = 0 + tsum pre + a.2 + b.2 := by omega
  rw [e1, e2, e3]
  rfl
/-! the same with names -/
def turnC : Int → List Cow → List Cow
  | _, [] => []
  | c, x :: r => (x.1, (-(x.2.1 - c), x.2.2)) :: turnC (c + x.2.2) r
theorem turnC_app : ∀ (c : Int) (a b : List Cow), turnC c (a ++ b) = turnC c a ++ turnC (c + tsumC a) b
  | c, [], b => by
    show turnC c b = turnC (c + 0) b
    rw [Int.add_zero]
  | c, x :: a, b => by
    show (x.1, (-(x.2.1 - c), x.2.2)) :: turnC (c + x.2.2) (a ++ b) = (x.1, (-(x.2.1 - c), x.2.2)) :: (turnC (c + x.2.2) a ++ turnC (c + (x.2.2 + tsumC a)) b)
    rw [turnC_app, Int.add_assoc]
theorem turnC_ids : ∀ (c : Int) (L : List Cow), (turnC c L).map (·.1) = L.map (·.1)
  | _, [] => rfl
  | c, x :: r => by
    show x.1 :: (turnC (c + x.2.2) r).map (·.1) = x.1 :: r.map (·.1)
    rw [turnC_ids]
theorem turnC_rows : ∀ (c : Int) (L : List Cow), rowsOf (turnC c L) = tF c (rowsOf L)
  | _, [] => rfl
  | c, x :: r => by
    show (-(x.2.1 - c), x.2.2) :: rowsOf (turnC (c + x.2.2) r) = (-(x.2.1 - c), x.2.2) :: tF (c + x.2.2) (rowsOf r)
    rw [turnC_rows]
theorem turnC_tag : ∀ (k : Nat) (c : Int) (rs : HH.Row), turnC c (tag k rs) = tag k (tF c rs)
  | _, _, [] => rfl
  | k, c, x :: r => by
    show (k, (-(x.1 - c), x.2)) :: turnC (c + x.2) (tag (k + 1) r) = (k, (-(x.1 - c), x.2)) :: tag (k + 1) (tF (c + x.2) r)
    rw [turnC_tag]
theorem turnC_two : ∀ (c : Int) (L : List Cow), turnC c (turnC c L) = L
  | _, [] => rfl
  | c, x :: r => by
    show (x.1, (-(-(x.2.1 - c) - c), x.2.2)) :: turnC (c + x.2.2) (turnC (c + x.2.2) r) = x :: r
    rw [turnC_two, show -(-(x.2.1 - c) - c) = x.2.1 by omega]
theorem step_turn {L M : List Cow} (c : Int) (h : Step L M) : FStep (turnC c L) (turnC c M) := by
  obtain ⟨pre, post, a, b, rfl, hp, rfl⟩ := h
  rw [turnC_app, turnC_app]
  refine ⟨turnC c pre, turnC (c + tsumC pre + a.2.2 + b.2.2) post, (a.1, (-(a.2.1 - (c + tsumC pre)), a.2.2)), (b.1, (-(b.2.1 - (c + tsumC pre + a.2.2)), b.2.2)), rfl, ?_, ?_⟩
  · show -(a.2.1 - (c + tsumC pre)) > -(b.2.1 - (c + tsumC pre + a.2.2))
    omega
  · show turnC c pre ++ (b.1, (-(b.2.1 - a.2.2 - (c + tsumC pre)), b.2.2)) :: (a.1, (-(a.2.1 - (c + tsumC pre + b.2.2)), a.2.2)) :: turnC (c + tsumC pre + b.2.2 + a.2.2) post = turnC c pre ++ (b.1, (-(b.2.1 - (c + tsumC pre + a.2.2)), b.2.2)) :: (a.1, (-(a.2.1 - (c + tsumC pre)) + b.2.2, a.2.2)) :: turnC (c + tsumC pre + a.2.2 + b.2.2) post
    have e1 : -(b.2.1 - a.2.2 - (c + tsumC pre)) = -(b.2.1 - (c + tsumC pre + a.2.2)) := by omega
    have e2 : -(a.2.1 - (c + tsumC pre + b.2.2)) = -(a.2.1 - (c + tsumC pre)) + b.2.2 := by omega
    have e3 : c + tsumC pre + b.2.2 + a.2.2 = c + tsumC pre + a.2.2 + b.2.2 := by omega
    rw [e1, e2, e3]
theorem fstep_turn {L M : List Cow} (c : Int) (h : FStep L M) : Step (turnC c L) (turnC c M) := fstep_back (step_turn c (fstep_back h))
theorem steps_turn {L M : List Cow} (c : Int) (h : Steps L M) : FSteps (turnC c L) (turnC c M) := by
  induction h with
  | refl => exact .refl _
  | head s _ ih => exact .head (step_turn c s) ih
theorem fsteps_turn {L M : List Cow} (c : Int) (h : FSteps L M) : Steps (turnC c L) (turnC c M) := by
  induction h with
  | refl => exact .refl _
  | head s _ ih => exact .head (fstep_turn c s) ih
theorem nf_turn {L : List Cow} (h : Nf L) : Ff (turnC 0 L) := fun M s => h (turnC 0 M) (by
  have := fstep_turn 0 s
  rw [turnC_two] at this
  exact this)
theorem ff_turn {L : List Cow} (h : Ff L) : Nf (turnC 0 L) := fun M s => h (turnC 0 M) (by
  have := step_turn 0 s
  rw [turnC_two] at this
  exact this)
theorem turn_tl {rs : HH.Row} (h : ∀ b ∈ rs, 0 ≤ b.2) : ∀ b ∈ turnR rs, 0 ≤ b.2 := fun b hb => by
  unfold turnR turnP at hb
  obtain ⟨k, hk, rfl⟩ := List.mem_map.mp hb
  exact h (sS rs k, tS rs k) (List.mem_of_getElem? (row_get (List.mem_range.mp hk)))
theorem tag_turn (rs : HH.Row) : tag 0 (turnR rs) = turnC 0 (tag 0 rs) := by rw [turnC_tag, turnR_tF]
theorem rows_turn (L : List Cow) : rowsOf (turnC 0 L) = turnR (rowsOf L) := by rw [turnC_rows, turnR_tF]
/-! deeds on rows -/
def doR (rs : HH.Row) (d : Deed) : HH.Row := if d.1 then passR rs d.2 else fallR rs d.2
def okD (rs : HH.Row) (d : Deed) : Prop := if d.1 then d.2 < rs.length ∧ letsN rs d.2 = true else d.2 + 1 < rs.length ∧ fallsN rs d.2 = true
theorem okD_pass {rs : HH.Row} {p : Nat} (h : okD rs (true, p)) : ∃ (pre post : HH.Row) (a b : Int × Int), rs = pre ++ a :: b :: post ∧ p = pre.length + 1 ∧ b.1 - a.2 > a.1 ∧ passR rs p = pre ++ (b.1 - a.2, b.2) :: a :: post := by
  obtain ⟨h1, h2⟩ : p < rs.length ∧ letsN rs p = true := h
  have e : rowsOf (tag 0 rs) = rs := tag_snd 0 rs
  obtain ⟨pre, post, a, b, g1, g2, g3, g4⟩ := cow_pass (L := tag 0 rs) (p := p) (by rw [e]; exact h1) (by rw [e]; exact h2)
  rw [e] at g4
  refine ⟨rowsOf pre, rowsOf post, a.2, b.2, ?_, by rw [cow_len]; exact g2, g3, ?_⟩
  · rw [← rows_mid, ← g1, e]
  · rw [g4, rows_mid]
theorem okD_fall {rs : HH.Row} {p : Nat} (h : okD rs (false, p)) : ∃ (pre post : HH.Row) (a b : Int × Int), rs = pre ++ a :: b :: post ∧ p = pre.length ∧ a.1 > b.1 ∧ fallR rs p = pre ++ b :: (a.1 + b.2, a.2) :: post := by
  obtain ⟨h1, h2⟩ : p + 1 < rs.length ∧ fallsN rs p = true := h
  have e : rowsOf (tag 0 rs) = rs := tag_snd 0 rs
  obtain ⟨pre, post, a, b, g1, g2, g3, g4⟩ := cow_fall (L := tag 0 rs) (p := p) (by rw [e]; exact h1) (by rw [e]; exact h2)
  rw [e] at g4
  refine ⟨rowsOf pre, rowsOf post, a.2, b.2, ?_, by rw [cow_len]; exact g2, g3, ?_⟩
  · rw [← rows_mid, ← g1, e]
  · rw [g4, rows_mid]
/-- a way, deed by deed -/
theorem MRun.rows {L0 L : List Cow} {ds : List Deed} (r : MRun L0 L ds) : rowsOf L = ds.foldl doR (rowsOf L0) ∧ ∀ k d, ds[k]? = some d → okD ((ds.take k).foldl doR (rowsOf L0)) d := by
  induction r with
  | nil => exact ⟨rfl, fun k d h => by cases h⟩
  | pass r hp ih =>
    rename_i pre post a b ds
    obtain ⟨i1, i2⟩ := ih
    have el : pre.length = (rowsOf pre).length := (cow_len pre).symm
    refine ⟨?_, fun k d hk => ?_⟩
    · rw [List.foldl_append, ← i1]
      show _ = passR (rowsOf (pre ++ a :: b :: post)) (pre.length + 1)
      rw [rows_mid, rows_mid, el, pass_split]
    · by_cases hlt : k < ds.length
      · rw [List.getElem?_append_left hlt] at hk
        rw [List.take_append_of_le_length (by omega)]
        exact i2 k d hk
      · rw [List.getElem?_append_right (by omega)] at hk
        have e0 : k = ds.length := by
          have := (List.getElem?_eq_some_iff.mp hk).1
          simp at this
          omega
        subst e0
        rw [Nat.sub_self] at hk
        cases hk
        rw [List.take_left, ← i1]
        refine ⟨by rw [cow_len, List.length_append, List.length_cons, List.length_cons]; omega, ?_⟩
        show letsN (rowsOf (pre ++ a :: b :: post)) (pre.length + 1) = true
        rw [rows_mid, el, lets_split]
        exact decide_eq_true hp
  | fall r hp ih =>
    rename_i pre post a b ds
    obtain ⟨i1, i2⟩ := ih
    have el : pre.length = (rowsOf pre).length := (cow_len pre).symm
    refine ⟨?_, fun k d hk => ?_⟩
    · rw [List.foldl_append, ← i1]
      show _ = fallR (rowsOf (pre ++ a :: b :: post)) pre.length
      rw [rows_mid, rows_mid, el, fall_split]
    · by_cases hlt : k < ds.length
      · rw [List.getElem?_append_left hlt] at hk
        rw [List.take_append_of_le_length (by omega)]
        exact i2 k d hk
      · rw [List.getElem?_append_right (by omega)] at hk
        have e0 : k = ds.length := by
          have := (List.getElem?_eq_some_iff.mp hk).1
          simp at this
          omega
        subst e0
        rw [Nat.sub_self] at hk
        cases hk
        rw [List.take_left, ← i1]
        refine ⟨by rw [cow_len, List.length_append, List.length_cons, List.length_cons]; omega, ?_⟩
        show fallsN (rowsOf (pre ++ a :: b :: post)) pre.length = true
        rw [rows_mid, el, falls_split]
        exact decide_eq_true hp
theorem doR_ok {rs : HH.Row} {d : Deed} (h : okD rs d) (ht : ∀ b ∈ rs, 0 ≤ b.2) : (doR rs d).length = rs.length ∧ ∀ b ∈ doR rs d, 0 ≤ b.2 := by
  obtain ⟨w, p⟩ := d
  cases w with
  | true =>
    obtain ⟨pre, post, a, b, rfl, rfl, _, e⟩ := okD_pass h
    show (passR _ _).length = _ ∧ ∀ b ∈ passR _ _, 0 ≤ b.2
    rw [e]
    refine ⟨by simp, fun x hx => ?_⟩
    simp only [List.mem_append, List.mem_cons] at hx
    rcases hx with hx | rfl | rfl | hx
    · exact ht x (by simp [hx])
    · exact ht b (by simp)
    · exact ht _ (by simp)
    · exact ht x (by simp [hx])
  | false =>
    obtain ⟨pre, post, a, b, rfl, rfl, _, e⟩ := okD_fall h
    show (fallR _ _).length = _ ∧ ∀ b ∈ fallR _ _, 0 ≤ b.2
    rw [e]
    refine ⟨by simp, fun x hx => ?_⟩
    simp only [List.mem_append, List.mem_cons] at hx
    rcases hx with hx | rfl | rfl | hx
    · exact ht x (by simp [hx])
    · exact ht _ (by simp)
    · exact ht a (by simp)
    · exact ht x (by simp [hx])
end HH
set_option maxHeartbeats 4000000
namespace HH
open PySem PySem.Spec PyProof.Rows L2 Evl RZ
theorem word_pass : decide (V.str (wordOf true) = V.str "pass") = true := decide_eq_true rfl
theorem word_ne : V.str (wordOf false) ≠ V.str (wordOf true) := fun z => by
  injection z with z
  revert z
  decide +kernel
theorem word_no : decide (V.str (wordOf false) = V.str "pass") = false := decide_eq_false word_ne
theorem word_fall : decide (V.str (wordOf false) = V.str "fall") = true := decide_eq_true rfl
theorem word_nf : decide (V.str (wordOf true) = V.str "fall") = false := decide_eq_false fun z => word_ne z.symm
section
variable {K : PySem.W.Frag} {σ : L2.St} {H H' : Hp} {ta tb tc te tl : TE} {x y v : V} {Q : VK} {D : Ends} {tz tu : TS} {g : TG}
/-- a tuple of these -/
def EvTp (K : PySem.W.Frag) (te : TE) (σ : L2.St) (H : Hp) (xs : List V) : Prop := ∀ H1, Ex H H1 → ∀ Q : VK, (∀ t H2, Ex H1 H2 → SqT K H2 t xs → Q (.ref t) H2) → te σ H1 Q
theorem ep_val {a : Addr} {xs : List V} (h : Ev te σ H (.ref a)) (hs : SqT K H a xs) : EvTp K te σ H xs := fun H1 e Q q => h H1 e Q fun H2 e2 => q a H2 e2 (ex_t (e.trans e2) hs)
theorem ep_cat {xs ys : List V} (ha : EvTp K ta σ H xs) (hb : EvTp K tb σ H ys) (hl : xs.length + ys.length ≤ 100000) : EvTp K (tOp (rCatA K) ta tb) σ H (xs ++ ys) := fun H1 e Q q =>
  ha H1 e _ fun a H2 e2 h1 => hb H2 (e.trans e2) _ fun b H3 e3 g1 => by
    refine ⟨a, b, xs, ys, rfl, rfl, ex_t e3 h1, g1, sz_of hl, fun z => ?_, fun _ z => ?_, fun _ _ p hp => ?_⟩
    · subst z
      exact q _ H3 (e2.trans e3) g1
    · subst z
      rw [List.append_nil] at q
      exact q _ H3 (e2.trans e3) (ex_t e3 h1)
    · exact q _ _ ((e2.trans e3).trans (Ex.new hp)) (st_of upd_same)
theorem ep_to {xs : List V} {ti : TE} {j : Nat} {i : Int} (h : EvTp K te σ H xs) (hi : Ev ti σ H (.int i)) (hj : i = (j : Int)) : EvTp K (tSl (rSlA K) te tNoPart (tPart ti)) σ H (xs.take j) := fun H1 e Q q =>
  h H1 e _ fun a H2 e2 hv => hi H2 (e.trans e2) _ fun H3 e3 => by
    subst hj
    refine ⟨(j : Int), rfl, a, xs, rfl, ex_t e3 hv, fun z => ?_, fun _ p hp => ?_⟩
    · have e0 := cut_all z
      rw [cut_to] at e0
      rw [e0] at q
      exact q _ H3 (e2.trans e3) (ex_t e3 hv)
    · rw [cut_to]
      exact q _ _ ((e2.trans e3).trans (Ex.new hp)) (st_of upd_same)
theorem ep_from {xs : List V} {ti : TE} {j : Nat} {i : Int} (h : EvTp K te σ H xs) (hi : Ev ti σ H (.int i)) (hj : i = (j : Int)) : EvTp K (tSl (rSlA K) te (tPart ti) tNoPart) σ H (xs.drop j) := fun H1 e Q q =>
  h H1 e _ fun a H2 e2 hv => hi H2 (e.trans e2) _ fun H3 e3 => by
    subst hj
    refine ⟨(j : Int), rfl, a, xs, rfl, ex_t e3 hv, fun z => ?_, fun _ p hp => ?_⟩
    · have e0 := cut_all z
      rw [cut_from] at e0
      rw [e0] at q
      exact q _ H3 (e2.trans e3) (ex_t e3 hv)
    · rw [cut_from]
      exact q _ _ ((e2.trans e3).trans (Ex.new hp)) (st_of upd_same)
theorem ep_two (h1 : Ev ta σ H x) (h2 : Ev tb σ H y) : EvTp K (tTup (tCons ta (tCons tb tNil))) σ H [x, y] := fun H1 e Q q =>
  h1 H1 e _ fun H2 e2 => h2 H2 (e.trans e2) _ fun H3 e3 => ⟨by show 2 ≤ sizeLine; decide, fun p hp => q _ _ ((e2.trans e3).trans (Ex.new hp)) (st_of upd_same)⟩
theorem q_forEv {xs : List V} {c : Addr} (h : Ev tl σ H (.ref c)) (hx : SqL K H c xs) (Pv : Nat → L2.St → Hp → Prop) (h0 : ∀ H1, Ex H H1 → Pv 0 σ H1) (hl : ∀ i σ' H', i ≤ xs.length → Pv i σ' H' → SqL K H' c xs)
    (hs : ∀ i x σ' H' T, xs[i]? = some x → Pv i σ' H' → H' T = none → g (.ref T) σ' (upd H' T (.tup [.int (i : Nat), x])) fun σ2 H2 => tu { D with nx := Pv (i + 1), ct := Pv (i + 1), bk := tz D } σ2 H2) (hd : ∀ σ' H', Pv xs.length σ' H' → tz D σ' H') : tSeq (tFor (iEnum K (tCons tl tNil)) g tu) tz D σ H :=
  h H (Ex.refl H) _ fun H1 e => ⟨c, xs, rfl, ex_l e hx, for_it (walk_enum (xs := xs)) (D := { D with nx := tz D }) Pv (h0 H1 e) hl (fun i x σ' H' H2 hi p y => by
    obtain ⟨T, u, z, rfl, nT, rfl, hu, hz⟩ := y
    cases hu
    exact hs i z σ' H' T hz p nT) hd⟩
theorem ep_fall {rs : HH.Row} {L : List Cow} {E : XK} (h : Ev ta σ H v) (hv : RowAt K H v rs) (hl : rs.length ≤ 30) (ht : ∀ b ∈ rs, 0 ≤ b.2) (st : FSteps (tag 0 rs) L) (nf : Ff L) : EvP K (tCall (spPairs K toFirst) [] E (tCons ta tNil)) σ H (tab (L.map (·.1)) rs.length rs.length) := fun H1 e1 Q q =>
  h H1 e1 _ fun H2 e2 => ⟨v, rs, rfl, hv.ex (e1.trans e2), hl, ht, fun c us M H3 m hc e3 g3 b3 => by
    rw [ff_any (good_tag ht).tl m.1 (ffr_ff m.2) st nf] at b3
    exact q c us H3 (fresh_back e2 hc) (e2.trans e3) g3 b3⟩
end
theorem DeedAt.ex' {K : PySem.W.Frag} {H H' : Hp} {v : V} {d : Deed} (h : DeedAt K H v d) (e : Ex H H') : DeedAt K H' v d := by
  obtain ⟨p, h1, h2⟩ := h
  exact ⟨p, h1, ex_t e h2⟩
/-! promises -/
def spPassedP (K : PySem.W.Frag) : Sp := spRowOp K (fun rs p => okD rs (true, p)) passR
def spFallenP (K : PySem.W.Frag) : Sp := spRowOp K (fun rs p => okD rs (false, p)) fallR
def spSwap (K : PySem.W.Frag) : Sp := fun vs H Q _ => ∃ (o : Addr) (l : List Nat) (p : Nat), vs = [.ref o, .int (p : Int)] ∧ SqT K H o (natsV l) ∧ p + 1 < l.length ∧ l.length ≤ 1000 ∧ ∀ (t : Addr) (H' : Hp) (m : List Nat), Ex H H' → m.length = l.length → SqT K H' t (natsV m) → Q (.ref t) H'
def spCanDo (K : PySem.W.Frag) : Sp := fun vs H Q _ => ∃ (v : V) (rs : HH.Row) (d : Deed), vs = [v, .str (wordOf d.1), .int (d.2 : Int)] ∧ RowAt K H v rs ∧ okD rs d ∧ RetV (.bl true) H Q
def spLed1 (K : PySem.W.Frag) : Sp := fun vs H Q _ => ∃ (v : V) (rs : HH.Row) (c : Addr) (u : V) (d : Deed), vs = [v, .ref c] ∧ RowAt K H v rs ∧ rs.length ≤ 30 ∧ SqL K H c [u] ∧ DeedAt K H u d ∧ okD rs d ∧ ∀ (q : Addr) (v' t : V) (H' : Hp), Ex H H' → H' q = some (.tup [v', t]) → RowAt K H' v' (doR rs d) → Q (.ref q) H'
def spGone1 (K : PySem.W.Frag) : Sp := fun vs H Q _ => ∃ (v : V) (rs : HH.Row) (c : Addr) (u : V) (d : Deed), vs = [v, .ref c] ∧ RowAt K H v rs ∧ rs.length ≤ 30 ∧ SqL K H c [u] ∧ DeedAt K H u d ∧ okD rs d ∧ ∀ (v' : V) (H' : Hp), Ex H H' → RowAt K H' v' (doR rs d) → Q v' H'
def spDeedRight (K : PySem.W.Frag) : Sp := fun vs H Q _ => ∃ (v : V) (rs : HH.Row) (u : V) (d : Deed), vs = [v, u] ∧ RowAt K H v rs ∧ rs.length ≤ 30 ∧ DeedAt K H u d ∧ okD rs d ∧ RetV (.bl true) H Q
theorem okD_at {rs : HH.Row} {p : Nat} (h : okD rs (true, p)) : 0 < p ∧ p < rs.length ∧ letsN rs p = true := by
  obtain ⟨h1, h2⟩ : p < rs.length ∧ letsN rs p = true := h
  exact ⟨of_decide_eq_true (Bool.and_eq_true_iff.mp h2).1, h1, h2⟩
theorem okD_at2 {rs : HH.Row} {p : Nat} (h : okD rs (false, p)) : p + 1 < rs.length ∧ (decide (p + 1 < rs.length) && fallsN rs p) = true := by
  obtain ⟨h1, h2⟩ : p + 1 < rs.length ∧ fallsN rs p = true := h
  exact ⟨h1, by rw [h2, decide_eq_true h1]; rfl⟩
/-- its mirror can be done in the turned row, and leads to the turned row -/
def mirD (d : Deed) : Deed := if d.1 then (false, d.2 - 1) else (true, d.2 + 1)
theorem mirror_ok {rs : HH.Row} {d : Deed} (h : okD rs d) : okD (turnR rs) (mirD d) ∧ doR (turnR rs) (mirD d) = turnR (doR rs d) := by
  obtain ⟨w, p⟩ := d
  cases w with
  | true =>
    obtain ⟨pre, post, a, b, rfl, rfl, hp, e⟩ := okD_pass h
    have em : mirD (true, pre.length + 1) = (false, pre.length) := rfl
    rw [em]
    refine ⟨⟨?_, ?_⟩, ?_⟩
    · show pre.length + 1 < (turnR _).length
      rw [turnR_len, List.length_append, List.length_cons, List.length_cons]
      omega
    · show fallsN (turnR _) pre.length = true
      rw [turnR_tF, tF_app, show pre.length = (tF 0 pre).length from (tF_len 0 pre).symm]
      show fallsN (tF 0 pre ++ (-(a.1 - (0 + tsum pre)), a.2) :: (-(b.1 - (0 + tsum pre + a.2)), b.2) :: tF (0 + tsum pre + a.2 + b.2) post) (tF 0 pre).length = true
      rw [falls_split]
      refine decide_eq_true ?_
      show -(a.1 - (0 + tsum pre)) > -(b.1 - (0 + tsum pre + a.2))
      omega
    · show fallR (turnR _) pre.length = turnR (passR _ (pre.length + 1))
      rw [e, turn_pass]
  | false =>
    obtain ⟨pre, post, a, b, rfl, rfl, hp, e⟩ := okD_fall h
    have em : mirD (false, pre.length) = (true, pre.length + 1) := rfl
    rw [em]
    refine ⟨⟨?_, ?_⟩, ?_⟩
    · show pre.length + 1 < (turnR _).length
      rw [turnR_len, List.length_append, List.length_cons, List.length_cons]
      omega
    · show letsN (turnR _) (pre.length + 1) = true
      rw [turnR_tF, tF_app, show pre.length = (tF 0 pre).length from (tF_len 0 pre).symm]
      show letsN (tF 0 pre ++ (-(a.1 - (0 + tsum pre)), a.2) :: (-(b.1 - (0 + tsum pre + a.2)), b.2) :: tF (0 + tsum pre + a.2 + b.2) post) ((tF 0 pre).length + 1) = true
      rw [lets_split]
      refine decide_eq_true ?_
      show -(b.1 - (0 + tsum pre + a.2)) - a.2 > -(a.1 - (0 + tsum pre))
      omega
    · show passR (turnR _) (pre.length + 1) = turnR (fallR _ pre.length)
      rw [e, turn_fall]
section
variable {K : PySem.W.Frag} {σ : L2.St} {H H' : Hp} {ta tb tc te tl : TE} {v : V} {D : Ends}
theorem el_catNN {xs ys : List V} (ha : EvL ta σ H xs) (hb : EvL tb σ H ys) (hz : xs.length + ys.length ≤ 100000) : EvL (tOp rCat ta tb) σ H (xs ++ ys) := fun H1 e Q q =>
  ha H1 e _ fun l H2 hl e2 h2 => hb H2 (e.trans e2) _ fun p H3 hp e3 h3 => ⟨l, p, xs, ys, rfl, rfl, e3 _ _ h2, h3, sz_of hz, fun c hc => q c _ (fresh_back (e2.trans e3) hc) ((e2.trans e3).trans (Ex.new hc)) upd_same⟩
/-- what it weighs then, by what it weighed -/
theorem weigh_tail {pre post : HH.Row} {a b : Int × Int} {l7 l8 : Addr} {s0 : V} (hl : (pre ++ a :: b :: post).length ≤ 30) (h0 : σ[0]? = some (some v)) (h4 : σ[4]? = some (some (.int (pre.length : Int)))) (h7 : σ[7]? = some (some (.ref l7))) (h8 : ∀ x, (σ.set 9 (some x))[8]? = some (some (.ref l8))) (h9 : ∀ x, (σ.set 9 (some x))[9]? = some (some x))
    (hv : RowAt K H v (pre ++ a :: b :: post)) (g7 : H l7 = some (.lst ((wF 0 (pre ++ a :: b :: post)).map V.int))) (g8 : H l8 = some (.lst ((wF 0 (pre ++ (b.1 - a.2, b.2) :: a :: post)).map V.int))) (k : ∀ H1, Ex H H1 → D.rt (.bl true) H1) :
    tSeq (tAsg (tOp rCat (tOp rCat (tSl (rSlL K) (tVar 7) tNoPart (tPart (tVar 4))) (tLst (tCons (tOp (rIxL K) (tVar 7) (tOp (rI0 fun i j => .int (i + j)) (tVar 4) (tC (.int 1)))) (tCons (tOp (rI0 fun i j => .int (i - j)) (tOp (rIxL K) (tVar 7) (tVar 4)) (tOp (rIxT K) (tOp (rIxT K) (tVar 0) (tOp (rI0 fun i j => .int (i + j)) (tVar 4) (tC (.int 1)))) (tC (.int 1)))) tNil)))) (tSl (rSlL K) (tVar 7) (tPart (tOp (rI0 fun i j => .int (i + j)) (tVar 4) (tC (.int 2)))) tNoPart)) (gName 9)) (tRet (tCall (spSame K 5) [] E0 (tCons (tVar 8) (tCons (tVar 9) tNil)))) D σ H := by
  have hw : wF 0 (pre ++ a :: b :: post) = wF 0 pre ++ (a.1 - (0 + tsum pre)) :: (b.1 - (0 + tsum pre + a.2)) :: wF (0 + tsum pre + a.2 + b.2) post := by
    rw [wF_app]
    rfl
  have at0 : ((wF 0 (pre ++ a :: b :: post)).map V.int)[pre.length]? = some (.int (a.1 - (0 + tsum pre))) := getI (by
    rw [hw, List.getElem?_append_right (by rw [wF_len]; exact Nat.le_refl _), wF_len, Nat.sub_self]
    rfl)
  have at1 : ((wF 0 (pre ++ a :: b :: post)).map V.int)[pre.length + 1]? = some (.int (b.1 - (0 + tsum pre + a.2))) := getI (by
    rw [hw, List.getElem?_append_right (by rw [wF_len]; omega), wF_len, show pre.length + 1 - pre.length = 1 by omega]
    rfl)
  have rg : (pre ++ a :: b :: post)[pre.length + 1]? = some b := by
    rw [List.getElem?_append_right (by omega), show pre.length + 1 - pre.length = 1 by omega]
    rfl
  have i1 : (pre.length : Int) + 1 = ((pre.length + 1 : Nat) : Int) := by omega
  have i2 : (pre.length : Int) + 2 = ((pre.length + 2 : Nat) : Int) := by omega
  have len7 : ((wF 0 (pre ++ a :: b :: post)).map V.int).length = (pre ++ a :: b :: post).length := by rw [List.length_map, wF_len]
  have due : EvL (tOp rCat (tOp rCat (tSl (rSlL K) (tVar 7) tNoPart (tPart (tVar 4))) (tLst (tCons (tOp (rIxL K) (tVar 7) (tOp (rI0 fun i j => .int (i + j)) (tVar 4) (tC (.int 1)))) (tCons (tOp (rI0 fun i j => .int (i - j)) (tOp (rIxL K) (tVar 7) (tVar 4)) (tOp (rIxT K) (tOp (rIxT K) (tVar 0) (tOp (rI0 fun i j => .int (i + j)) (tVar 4) (tC (.int 1)))) (tC (.int 1)))) tNil)))) (tSl (rSlL K) (tVar 7) (tPart (tOp (rI0 fun i j => .int (i + j)) (tVar 4) (tC (.int 2)))) tNoPart)) σ H ((wF 0 (pre ++ (b.1 - a.2, b.2) :: a :: post)).map V.int) := by
    have p1 := el_sl (K := K) (te := tVar 7) (σ := σ) (H := H) (ev_var h7) eo_none (eo_some (ev_var h4)) (sq_of g7)
    rw [cut_to] at p1
    have p2 : EvL (tLst (tCons (tOp (rIxL K) (tVar 7) (tOp (rI0 fun i j => .int (i + j)) (tVar 4) (tC (.int 1)))) (tCons (tOp (rI0 fun i j => .int (i - j)) (tOp (rIxL K) (tVar 7) (tVar 4)) (tOp (rIxT K) (tOp (rIxT K) (tVar 0) (tOp (rI0 fun i j => .int (i + j)) (tVar 4) (tC (.int 1)))) (tC (.int 1)))) tNil))) σ H [.int (b.1 - (0 + tsum pre + a.2)), .int (a.1 - (0 + tsum pre) - b.2)] :=
      el_lst (ea_cons (ev_op (ev_var h7) (ev_op (ev_var h4) ev_c rv_I0) (rv_ixL (K := K) (sq_of g7) (show atI _ ((pre.length : Int) + 1) = _ by rw [i1]; exact atI_nat at1))) (ea_cons (ev_op (ev_op (ev_var h7) (ev_var h4) (rv_ixL (K := K) (sq_of g7) (atI_nat at0))) (ev_tol (ev_var h0) hv (ev_op (ev_var h4) ev_c rv_I0) i1 rg) rv_I0) ea_nil)) (by show 2 ≤ 100000; decide)
    have p3 := el_sl (K := K) (te := tVar 7) (σ := σ) (H := H) (ev_var h7) (eo_some (te := tOp (rI0 fun i j => .int (i + j)) (tVar 4) (tC (.int 2))) (i := (pre.length : Int) + 2) (ev_op (ev_var h4) ev_c rv_I0)) eo_none (sq_of g7)
    rw [i2, cut_from] at p3
    have e0 : (wF 0 (pre ++ (b.1 - a.2, b.2) :: a :: post)).map V.int = ((wF 0 (pre ++ a :: b :: post)).map V.int).take pre.length ++ [.int (b.1 - (0 + tsum pre + a.2)), .int (a.1 - (0 + tsum pre) - b.2)] ++ ((wF 0 (pre ++ a :: b :: post)).map V.int).drop (pre.length + 2) := by
      rw [weigh_pass, List.map_append, List.map_append, List.map_take, List.map_drop]
      rfl
    rw [e0]
    refine el_catNN (el_catNN p1 p2 ?_) p3 ?_
    · rw [List.length_take, len7]
      show min pre.length _ + 2 ≤ 100000
      omega
    · rw [List.length_append, List.length_take, List.length_drop, len7]
      show min pre.length _ + 2 + _ ≤ 100000
      omega
  refine q_asgL due fun c H1 hc e1 h1 => ?_
  refine ⟨.ref l8, h8 _, .ref c, h9 _, .ref l8, .ref c, rfl, ?_, fun H2 e2 => k H2 (e1.trans e2)⟩
  refine (alike_flatL (sq_of (e1 _ _ g8)) (sq_of h1) (flat_intL _) ?_).up.up.up
  rw [List.length_map, wF_len]
  rw [List.length_append, List.length_cons, List.length_cons] at hl ⊢
  omega
end
theorem prefix_ok {rs : HH.Row} {ds : List Deed} (ht : ∀ b ∈ rs, 0 ≤ b.2) (h : ∀ k d, ds[k]? = some d → okD ((ds.take k).foldl doR rs) d) : ∀ k, k ≤ ds.length → ((ds.take k).foldl doR rs).length = rs.length ∧ ∀ b ∈ (ds.take k).foldl doR rs, 0 ≤ b.2
  | 0, _ => ⟨rfl, ht⟩
  | k + 1, hk => by
    obtain ⟨h1, h2⟩ := prefix_ok ht h k (by omega)
    have hd := List.getElem?_eq_getElem (show k < ds.length by omega)
    obtain ⟨g1, g2⟩ := doR_ok (h k _ hd) h2
    have e : (ds.take (k + 1)).foldl doR rs = doR ((ds.take k).foldl doR rs) ds[k] := by
      rw [List.take_add_one, hd, List.foldl_append]
      rfl
    rw [e]
    exact ⟨g1.trans h1, g2⟩
/-! who may pass there, who may fall here -/
def passI (rs : HH.Row) : List Nat := (List.range rs.length).filter (letsN rs)
def fallI (rs : HH.Row) : List Nat := (List.range rs.length).filter fun p => decide (p + 1 < rs.length) && fallsN rs p
theorem passL_I (rs : HH.Row) : HH.passL rs = ((passI rs).map fun (k : Nat) => (k : Int)).map V.int := by
  rw [List.map_map]
  rfl
theorem fallL_I (rs : HH.Row) : HH.fallL rs = ((fallI rs).map fun (k : Nat) => (k : Int)).map V.int := by
  rw [List.map_map]
  rfl
theorem may_turn (rs : HH.Row) : passI rs = (fallI (turnR rs)).map (· + 1) := by
  refine pw_eq (r := (· < ·)) Nat.lt_irrefl (fun a b h => Nat.lt_asymm h) (List.Pairwise.filter _ List.pairwise_lt_range) ?_ fun q => ?_
  · rw [List.pairwise_map]
    exact (List.Pairwise.filter _ List.pairwise_lt_range).imp fun {a b} h => by omega
  · unfold passI fallI
    rw [List.mem_filter, List.mem_map, List.mem_range]
    have key : ∀ p, p + 1 < rs.length → fallsN (turnR rs) p = letsN rs (p + 1) := fun p hp => by
      rw [lets_wt hp]
      unfold fallsN
      rw [(turnR_s (show p < rs.length by omega)).1, (turnR_s hp).1, decide_eq_decide]
      omega
    constructor
    · rintro ⟨h1, h2⟩
      have h0 : 0 < q := of_decide_eq_true (Bool.and_eq_true_iff.mp h2).1
      obtain ⟨p, rfl⟩ : ∃ p, q = p + 1 := ⟨q - 1, by omega⟩
      refine ⟨p, List.mem_filter.mpr ⟨List.mem_range.mpr (by rw [turnR_len]; omega), ?_⟩, rfl⟩
      rw [turnR_len, decide_eq_true h1, key p h1, h2]
      rfl
    · rintro ⟨p, hp, rfl⟩
      obtain ⟨h1, h2⟩ := List.mem_filter.mp hp
      obtain ⟨h3, h4⟩ := Bool.and_eq_true_iff.mp h2
      have h3 := of_decide_eq_true h3
      rw [turnR_len] at h3
      exact ⟨h3, by rw [← key p h3]; exact h4⟩
section
variable {K : PySem.W.Frag} {σ : L2.St} {H H' : Hp} {ta tb tc te tl : TE} {v : V} {D : Ends}
/-- [x + c for x in may(turned(row))] -/
theorem el_mayT {rs : HH.Row} {E E' : XK} {j : Nat} {vs : List Nat} {gl : HH.Row → List V} {ns : List Nat} {c : Int} {op : Int → Int → Int} (h : Ev ta σ H v) (hv : RowAt K H v rs) (hl : rs.length ≤ 1000) (hns : gl (turnR rs) = (ns.map fun (k : Nat) => (k : Int)).map V.int) (hz : ns.length ≤ 1000)
    (hw : ∀ x, wipe ((wipe σ vs).set j (some x)) vs = wipe σ vs) (hj : ∀ x : V, ((wipe σ vs).set j (some x))[j]? = some (some x)) :
    EvL (tLc (iList K (tCall (spMay K gl) [] E (tCons (tCall (spTurn K) [] E' (tCons ta tNil)) tNil))) (gName j) tYes (tOp (rI0 fun a b => .int (op a b)) (tVar j) (tC (.int c))) vs) σ H ((ns.map fun (k : Nat) => op (k : Int) c).map V.int) := by
  have hc : EvL (tCall (spMay K gl) [] E (tCons (tCall (spTurn K) [] E' (tCons ta tNil)) tNil)) σ H (natsV ns) := fun H1 e1 Q q => h H1 e1 _ fun H2 e2 => ⟨v, rs, rfl, hv.ex (e1.trans e2), hl, fun v' H3 e3 hv' => ⟨v', turnR rs, rfl, hv', by rw [turnR_len]; exact hl, fun p H4 hp e4 h4 => by
    rw [hns, ← natsV_ints] at h4
    exact q p H4 (fresh_back (e2.trans e3) hp) ((e2.trans e3).trans e4) h4⟩⟩
  have key := el_lcNL (K := K) (j := j) (vs := vs) (t := tYes) (te := tOp (rI0 fun a b => .int (op a b)) (tVar j) (tC (.int c))) (fun _ => true) (fun k => V.int (op (HH.ixN ns k : Int) c)) hc (by rw [natsV_len]; omega) hw (fun k x H1 e1 hk => et_yes) (fun k x H1 e1 hk _ => ?_)
  · rw [natsV_len, given_ix (fun k => V.int (op (k : Int) c))] at key
    rw [List.map_map]
    exact key
  · have hk' : k < ns.length := by
      have := (List.getElem?_eq_some_iff.mp hk).1
      rw [natsV_len] at this
      exact this
    rw [natsV_at (ixN_at hk')] at hk
    cases hk
    exact ev_op (ev_var (hj _)) ev_c rv_I0
end
end HH
set_option maxHeartbeats 4000000
namespace HH
open PySem PySem.Spec PyProof.Rows L2 Evl RZ
/-! ### sums of one beside those of another (k62, k63, k66) -/
theorem tS_nn {rs : HH.Row} (ht : ∀ b ∈ rs, 0 ≤ b.2) {k : Nat} (h : k < rs.length) : 0 ≤ tS rs k := ht (sS rs k, tS rs k) (List.mem_of_getElem? (row_get h))
theorem nev_at {rs : HH.Row} {i j : Nat} (h : i < j) : nevP rs i (j - i - 1) = decide (sS rs j ≤ barN rs i (j - i - 1)) := by
  unfold nevP
  rw [show i + 1 + (j - i - 1) = j by omega]
/-- who never passes one wants no more than that one does -/
theorem bar_le {rs : HH.Row} (ht : ∀ b ∈ rs, 0 ≤ b.2) {i m0 : Nat} (h : sS rs (i + 1 + m0) ≤ barN rs i m0) : ∀ m, i + 1 + m0 + m < rs.length → barN rs (i + 1 + m0) m ≤ barN rs i (m0 + 1 + m)
  | 0, _ => by
    show sS rs (i + 1 + m0) + tS rs (i + 1 + m0) ≤ barN rs i (m0 + 1)
    rw [barN_yes h]
    omega
  | m + 1, hm => by
    have ih := bar_le ht h m (by omega)
    have t0 := tS_nn ht (show i + 1 + m0 + 1 + m < rs.length by omega)
    have ex : i + 1 + (m0 + 1 + m) = i + 1 + m0 + 1 + m := by omega
    show barN rs (i + 1 + m0) (m + 1) ≤ barN rs i (m0 + 1 + m + 1)
    by_cases z : sS rs (i + 1 + m0 + 1 + m) ≤ barN rs (i + 1 + m0) m
    · rw [barN_yes z, barN_yes (m := m0 + 1 + m) (by rw [ex]; omega), ex]
      omega
    · rw [barN_no z]
      by_cases y : sS rs (i + 1 + (m0 + 1 + m)) ≤ barN rs i (m0 + 1 + m)
      · rw [barN_yes y, ex]
        omega
      · rw [barN_no y]
        exact ih
/-- who passes one wants no less than that one does -/
theorem bar_ge {rs : HH.Row} (ht : ∀ b ∈ rs, 0 ≤ b.2) {i m0 : Nat} (h : ¬ sS rs (i + 1 + m0) ≤ barN rs i m0) : ∀ m, i + 1 + m0 + m < rs.length → barN rs i (m0 + 1 + m) ≤ barN rs (i + 1 + m0) m
  | 0, hm => by
    have t0 := tS_nn ht (show i + 1 + m0 < rs.length by omega)
    show barN rs i (m0 + 1) ≤ sS rs (i + 1 + m0) + tS rs (i + 1 + m0)
    rw [barN_no h]
    omega
  | m + 1, hm => by
    have ih := bar_ge ht h m (by omega)
    have t0 := tS_nn ht (show i + 1 + m0 + 1 + m < rs.length by omega)
    have ex : i + 1 + (m0 + 1 + m) = i + 1 + m0 + 1 + m := by omega
    show barN rs i (m0 + 1 + m + 1) ≤ barN rs (i + 1 + m0) (m + 1)
    by_cases y : sS rs (i + 1 + (m0 + 1 + m)) ≤ barN rs i (m0 + 1 + m)
    · rw [barN_yes y, ex]
      rw [ex] at y
      rw [barN_yes (show sS rs (i + 1 + m0 + 1 + m) ≤ barN rs (i + 1 + m0) m by omega)]
      omega
    · rw [barN_no y]
      by_cases z : sS rs (i + 1 + m0 + 1 + m) ≤ barN rs (i + 1 + m0) m
      · rw [barN_yes z]
        omega
      · rw [barN_no z]
        exact ih
theorem bar_two {rs : HH.Row} (ht : ∀ b ∈ rs, 0 ≤ b.2) {i b c : Nat} (h1 : i < b) (h2 : b < c) (h3 : c < rs.length) :
    (nevP rs i (b - i - 1) = true → barN rs b (c - b - 1) ≤ barN rs i (c - i - 1)) ∧ (nevP rs i (b - i - 1) = false → barN rs i (c - i - 1) ≤ barN rs b (c - b - 1)) := by
  obtain ⟨m0, rfl⟩ : ∃ m0, b = i + 1 + m0 := ⟨b - i - 1, by omega⟩
  have e1 : i + 1 + m0 - i - 1 = m0 := by omega
  have e2 : c - i - 1 = m0 + 1 + (c - (i + 1 + m0) - 1) := by omega
  rw [e1, e2]
  unfold nevP
  exact ⟨fun h => bar_le ht (of_decide_eq_true h) _ (by omega), fun h => bar_ge ht (of_decide_eq_false h) _ (by omega)⟩
theorem nev_trans {rs : HH.Row} (ht : ∀ b ∈ rs, 0 ≤ b.2) {i b c : Nat} (h1 : i < b) (h2 : b < c) (h3 : c < rs.length) (h4 : nevP rs i (b - i - 1) = nevP rs b (c - b - 1)) : nevP rs i (c - i - 1) = nevP rs b (c - b - 1) := by
  obtain ⟨g1, g2⟩ := bar_two ht h1 h2 h3
  rw [nev_at (Nat.lt_trans h1 h2)]
  cases hb : nevP rs b (c - b - 1) with
  | true =>
    have z := g1 (h4.trans hb)
    rw [nev_at h2] at hb
    have := of_decide_eq_true hb
    exact decide_eq_true (by omega)
  | false =>
    have z := g2 (h4.trans hb)
    rw [nev_at h2] at hb
    have := of_decide_eq_false hb
    exact decide_eq_false (by omega)
theorem nevL_iff {rs : HH.Row} {i n k : Nat} : k ∈ nevL rs i n ↔ i < k ∧ k < i + 1 + n ∧ nevP rs i (k - i - 1) = true := by
  unfold nevL
  rw [List.mem_map]
  constructor
  · rintro ⟨m, hm, rfl⟩
    obtain ⟨h1, h2⟩ := List.mem_filter.mp hm
    have := List.mem_range.mp h1
    refine ⟨by omega, by omega, ?_⟩
    rw [show i + 1 + m - i - 1 = m by omega]
    exact h2
  · rintro ⟨h1, h2, h3⟩
    exact ⟨k - i - 1, List.mem_filter.mpr ⟨List.mem_range.mpr (by omega), h3⟩, by omega⟩
/-- those below a place -/
theorem nevL_below {rs : HH.Row} {i n k : Nat} (h1 : i < k) (h2 : k ≤ i + 1 + n) : (nevL rs i n).filter (fun b => decide (b < k)) = nevL rs i (k - i - 1) := by
  refine pw_eq (r := (· < ·)) Nat.lt_irrefl (fun a b h => Nat.lt_asymm h) ?_ ?_ fun q => ?_
  · refine List.Pairwise.filter _ ?_
    unfold nevL
    rw [List.pairwise_map]
    exact (List.Pairwise.filter _ List.pairwise_lt_range).imp fun {a b} h => by omega
  · unfold nevL
    rw [List.pairwise_map]
    exact (List.Pairwise.filter _ List.pairwise_lt_range).imp fun {a b} h => by omega
  · rw [List.mem_filter, nevL_iff, nevL_iff, decide_eq_true_eq]
    constructor
    · rintro ⟨⟨a, b, c⟩, d⟩
      exact ⟨a, by omega, c⟩
    · rintro ⟨a, b, c⟩
      exact ⟨⟨a, by omega, c⟩, by omega⟩
/-- by whom it's barred of those between it hangs on the sum alone -/
theorem nev_any {rs : HH.Row} (ht : ∀ b ∈ rs, 0 ≤ b.2) {i c : Nat} (h : i < c) (hc : c < rs.length) (hb : ∃ b ∈ nevL rs i (c - i - 1), nevP rs b (c - b - 1) = true) : nevP rs i (c - i - 1) = true := by
  obtain ⟨b, h1, h2⟩ := hb
  obtain ⟨g1, g2, g3⟩ := nevL_iff.mp h1
  exact (nev_trans ht g1 (by omega) hc (g3.trans h2.symm)).trans h2
end HH
set_option maxHeartbeats 4000000
namespace HH
open PySem PySem.Spec PyProof.Rows L2 Evl RZ
/-! pairs that stand by themselves, as keys -/
def PairT (H : Hp) (v : V) (b : Int × Int) : Prop := ∃ p, v = .ref p ∧ H p = some (.tup [.int b.1, .int b.2])
abbrev BeastsT (H : Hp) : List V → HH.Row → Prop := All2 (PairT H)
theorem PairT.ex {H H' : Hp} {v : V} {b : Int × Int} (h : PairT H v b) (e : Ex H H') : PairT H' v b := by
  obtain ⟨p, rfl, hp⟩ := h
  exact ⟨p, rfl, e _ _ hp⟩
theorem PairT.exB {H H' : Hp} {v : V} {b : Int × Int} {q : Addr} {ys : List V} (h : PairT H v b) (e : ExB q H H') (hq : H q = some (.lst ys)) : PairT H' v b := by
  obtain ⟨p, rfl, hp⟩ := h
  exact ⟨p, rfl, e _ _ (ne_of hp hq fun z => nomatch z) hp⟩
theorem BeastsT.ex' {H H' : Hp} {us : List V} {ps : HH.Row} (h : BeastsT H us ps) (e : Ex H H') : BeastsT H' us ps := All2.mono (fun _ _ r => r.ex e) h
theorem BeastsT.exB' {H H' : Hp} {us : List V} {ps : HH.Row} {q : Addr} {ys : List V} (h : BeastsT H us ps) (e : ExB q H H') (hq : H q = some (.lst ys)) : BeastsT H' us ps := All2.mono (fun _ _ r => r.exB e hq) h
theorem BeastsT.be {K : PySem.W.Frag} {H : Hp} : ∀ {us : List V} {ps : HH.Row}, BeastsT H us ps → Beasts K H us ps
  | _, _, .nil => Beasts.nil
  | _, _, .cons a b => by
    obtain ⟨p, rfl, hp⟩ := a
    exact Beasts.app (vs := [_]) (rs := [_]) (Beasts.one ⟨p, rfl, st_of hp⟩) (BeastsT.be b)
theorem BeastsT.at' {H : Hp} {us : List V} {ps : HH.Row} (h : BeastsT H us ps) {k : Nat} {x : V} (hx : us[k]? = some x) : ∃ b, ps[k]? = some b ∧ PairT H x b := h.get hx
def keyP (b : Int × Int) : List Key := [.inl b.1, .inl b.2]
theorem keyP_inj {a b : Int × Int} : keyP a = keyP b ↔ a = b := by
  unfold keyP
  constructor
  · intro h
    simp only [List.cons.injEq, Sum.inl.injEq, and_true] at h
    exact Prod.ext h.1 h.2
  · rintro rfl
    rfl
theorem keyP_V (b : Int × Int) : (keyP b).map kV = [V.int b.1, .int b.2] := rfl
/-- the dict has just these -/
structure PairsD (kvs : List (List Key × V)) (ps : HH.Row) : Prop where
  has : ∀ b : Int × Int, (valV kvs (keyP b)).isSome = decide (b ∈ ps)
  few : kvs.length ≤ ps.length
theorem PairsD.nil : PairsD [] [] := ⟨fun b => by rw [valV_nil]; simp, Nat.le_refl _⟩
theorem PairsD.put {kvs : List (List Key × V)} {ps : HH.Row} (h : PairsD kvs ps) (b : Int × Int) (v : V) : PairsD (putK kvs (keyP b) v) (ps ++ [b]) := by
  refine ⟨fun c => ?_, ?_⟩
  · rw [valV_put]
    by_cases e : keyP c = keyP b
    · rw [if_pos e]
      have := keyP_inj.mp e
      subst this
      simp
    · rw [if_neg e, h.has c]
      have ne : c ≠ b := fun z => e (by rw [z])
      rw [decide_eq_decide, List.mem_append, List.mem_singleton]
      exact ⟨.inl, fun z => z.elim id fun z => absurd z ne⟩
  · have := length_putK kvs (keyP b) v
    rw [List.length_append]
    show _ ≤ ps.length + 1
    have := h.few
    omega
section
variable {K : PySem.W.Frag} {σ : L2.St} {H : Hp} {ta tb te : TE} {Q : VK}
/-- a new list of pairs that are keys -/
def EvPT (te : TE) (σ : L2.St) (H : Hp) (ps : HH.Row) : Prop := ∀ H1, Ex H H1 → ∀ Q : VK, (∀ (q : Addr) (us : List V) (H2 : Hp), H1 q = none → Ex H1 H2 → H2 q = some (.lst us) → BeastsT H2 us ps → Q (.ref q) H2) → te σ H1 Q
theorem EvPT.ep {ps : HH.Row} (h : EvPT te σ H ps) : EvP K te σ H ps := fun H1 e1 Q q => h H1 e1 Q fun a us H2 ha e2 g2 bs => q a us H2 ha e2 g2 bs.be
/-- {pair: True for pair in pairs} -/
theorem ed_pairs {j : Nat} {vs : List Nat} {ps : HH.Row} (h : ∀ R : V → Hp → Prop, (∀ (a : Addr) (us : List V) (H1 : Hp), Ex H H1 → SqL K H1 a us → (∀ H2, Ex H1 H2 → SqL K H2 a us) → BeastsT H1 us ps → R (.ref a) H1) → te σ H R) (hl : ps.length ≤ 2000)
    (hw : ∀ x, wipe ((wipe σ vs).set j (some x)) vs = wipe σ vs) (hj : ∀ x : V, ((wipe σ vs).set j (some x))[j]? = some (some x))
    (k : ∀ (d : Addr) (kvs : List (List Key × V)) (H' : Hp), H d = none → Ex H H' → H' d = some (.dT kvs) → PairsD kvs ps → Q (.ref d) H') :
    tDcT (iList K te) (gName j) tYes (tVar j) (tC (.bl true)) vs σ H Q := by
  refine h _ fun a us H1 e1 sa sx bs => ⟨a, rfl, ⟨us, sa⟩, fun d hd => ?_⟩
  have ul : us.length = ps.length := bs.len
  refine in_it (walk_list (xs := us)) (fun i H2 => Ex H1 H2 ∧ ∃ kvs, H2 d = some (.dT kvs) ∧ PairsD kvs (ps.take i)) ⟨Ex.new hd, [], upd_same, PairsD.nil⟩ (fun i H2 _ p => sx H2 p.1) (fun i x H2 H3 hi p y => ?_) (fun H2 p => ?_)
  · obtain ⟨rfl, hx⟩ := y
    obtain ⟨p1, kvs, p2, p3⟩ := p
    obtain ⟨b, hb, q, rfl, hq⟩ := bs.at' hx
    refine ⟨hw _, t_yes ⟨_, hj _, ?_⟩⟩
    have hq2 := p1 _ _ hq
    refine ⟨_, DPut.t (k := keyP b) p2 (by rw [keyP_V]; exact hq2) (sz_lt (by have := p3.few; rw [List.length_take] at this; omega)), Ex.mut p1 hd, _, upd_same, ?_⟩
    rw [List.take_add_one, hb]
    exact p3.put b (.bl true)
  · obtain ⟨p1, kvs, p2, p3⟩ := p
    rw [ul, List.take_length] at p3
    exact k d kvs H2 (fresh_back e1 hd) (e1.trans p1) p2 p3
theorem et_dnotin {d : Addr} {kvs : List (List Key × V)} {ps : HH.Row} {b : Int × Int} (h1 : ∀ H1, Ex H H1 → ∀ Q : VK, (∀ p H2, Ex H1 H2 → H2 p = some (.tup [.int b.1, .int b.2]) → Q (.ref p) H2) → ta σ H1 Q) (h2 : Ev tb σ H (.ref d)) (hd : H d = some (.dT kvs)) (pd : PairsD kvs ps) : EvT (tB (tDNotIn ta tb)) σ H (!decide (b ∈ ps)) := fun H1 e1 Q q => by
  refine h1 H1 e1 _ fun p H2 e2 hp => h2 H2 (e1.trans e2) _ fun H3 e3 => ⟨d, valV kvs (keyP b), rfl, DGet.t ((e1.trans (e2.trans e3)) _ _ hd) (by rw [keyP_V]; exact e3 _ _ hp), _, rfl, ?_⟩
  rw [pd.has]
  exact q H3 (e2.trans e3)
theorem et_din {d : Addr} {kvs : List (List Key × V)} {ps : HH.Row} {b : Int × Int} (h1 : ∀ H1, Ex H H1 → ∀ Q : VK, (∀ p H2, Ex H1 H2 → H2 p = some (.tup [.int b.1, .int b.2]) → Q (.ref p) H2) → ta σ H1 Q) (h2 : Ev tb σ H (.ref d)) (hd : H d = some (.dT kvs)) (pd : PairsD kvs ps) : EvT (tB (tDIn ta tb)) σ H (decide (b ∈ ps)) := fun H1 e1 Q q => by
  refine h1 H1 e1 _ fun p H2 e2 hp => h2 H2 (e1.trans e2) _ fun H3 e3 => ⟨d, valV kvs (keyP b), rfl, DGet.t ((e1.trans (e2.trans e3)) _ _ hd) (by rw [keyP_V]; exact e3 _ _ hp), _, rfl, ?_⟩
  rw [pd.has]
  exact q H3 (e2.trans e3)
theorem key_var {i : Nat} {v : V} {b : Int × Int} (h : σ[i]? = some (some v)) (hp : PairT H v b) : ∀ H1, Ex H H1 → ∀ Q : VK, (∀ p H2, Ex H1 H2 → H2 p = some (.tup [.int b.1, .int b.2]) → Q (.ref p) H2) → tVar i σ H1 Q := fun H1 e1 Q q => by
  obtain ⟨p, rfl, h2⟩ := hp
  exact ⟨.ref p, h, q p H1 (Ex.refl H1) (e1 _ _ h2)⟩
theorem key_new {a b : Int} (h1 : Ev ta σ H (.int a)) (h2 : Ev tb σ H (.int b)) : ∀ H1, Ex H H1 → ∀ Q : VK, (∀ p H2, Ex H1 H2 → H2 p = some (.tup [.int a, .int b]) → Q (.ref p) H2) → tTup (tCons ta (tCons tb tNil)) σ H1 Q := fun H1 e1 Q q =>
  h1 H1 e1 _ fun H2 e2 => h2 H2 (e1.trans e2) _ fun H3 e3 => ⟨by show 2 ≤ sizeLine; decide, fun T hT => q T _ ((e2.trans e3).trans (Ex.new hT)) upd_same⟩
end
/-! pairs told, as keys -/
def spTurnedT (K : PySem.W.Frag) : Sp := fun vs H Q _ => ∃ (o : Addr) (l : List Nat), vs = [.ref o] ∧ SqT K H o (natsV l) ∧ l.Nodup ∧ (∀ x, x < l.length → x ∈ l) ∧ l.length ≤ 30 ∧
  ∀ (q : Addr) (us : List V) (H' : Hp), H q = none → Ex H H' → H' q = some (.lst us) → BeastsT H' us (tab l l.length l.length) → Q (.ref q) H'
def spPairsT (K : PySem.W.Frag) (M : List Cow → List Cow → Prop) : Sp := fun vs H Q _ => ∃ (v : V) (rs : HH.Row), vs = [v] ∧ RowAt K H v rs ∧ rs.length ≤ 30 ∧ (∀ b ∈ rs, 0 ≤ b.2) ∧
  ∀ (q : Addr) (us : List V) (L : List Cow) (H' : Hp), M (tag 0 rs) L → H q = none → Ex H H' → H' q = some (.lst us) → BeastsT H' us (tab (L.map (·.1)) rs.length rs.length) → Q (.ref q) H'
theorem Has.weak {P : Program} {w : World} {K : PySem.W.Frag} {mg : Str → Option Value} {base : Heap} {k : Nat} {x : Str} {ps : List Str} {sp sp' : Sp} {f : Addr} {fd : FuncData} (h : Has P w K mg base k x ps sp f fd) (i : ∀ vs H Q E, sp' vs H Q E → sp vs H Q E) : Has P w K mg base k x ps sp' f fd := ⟨h.G.imp i, h.g, h.kp, h.b⟩
theorem pairs_weak {K : PySem.W.Frag} {M : List Cow → List Cow → Prop} : ∀ vs H Q E, spPairs K M vs H Q E → spPairsT K M vs H Q E := fun vs H Q E h => by
  obtain ⟨v, rs, rfl, h1, h2, h3, q⟩ := h
  exact ⟨v, rs, rfl, h1, h2, h3, fun a us L H' m h4 e g bs => q a us L H' m h4 e g bs.be⟩
section
variable {K : PySem.W.Frag} {σ : L2.St} {H : Hp} {ta : TE} {v : V} {E : XK}
theorem ept_pass {rs : HH.Row} {L : List Cow} (h : Ev ta σ H v) (hv : RowAt K H v rs) (hl : rs.length ≤ 30) (ht : ∀ b ∈ rs, 0 ≤ b.2) (st : Steps (tag 0 rs) L) (nf : Nf L) : EvPT (tCall (spPairsT K toLast) [] E (tCons ta tNil)) σ H (tab (L.map (·.1)) rs.length rs.length) := fun H1 e1 Q q =>
  h H1 e1 _ fun H2 e2 => ⟨v, rs, rfl, hv.ex (e1.trans e2), hl, ht, fun a us L2 H3 m ha e3 g bs => by
    have := nf_any (good_tag ht).tl m.1 (nfr_nf m.2) st nf
    subst this
    exact q a us H3 (fresh_back e2 ha) (e2.trans e3) g bs⟩
theorem ept_fall {rs : HH.Row} {L : List Cow} (h : Ev ta σ H v) (hv : RowAt K H v rs) (hl : rs.length ≤ 30) (ht : ∀ b ∈ rs, 0 ≤ b.2) (st : FSteps (tag 0 rs) L) (nf : Ff L) : EvPT (tCall (spPairsT K toFirst) [] E (tCons ta tNil)) σ H (tab (L.map (·.1)) rs.length rs.length) := fun H1 e1 Q q =>
  h H1 e1 _ fun H2 e2 => ⟨v, rs, rfl, hv.ex (e1.trans e2), hl, ht, fun a us L2 H3 m ha e3 g bs => by
    have := ff_any (good_tag ht).tl m.1 (ffr_ff m.2) st nf
    subst this
    exact q a us H3 (fresh_back e2 ha) (e2.trans e3) g bs⟩
end
theorem q_run {te : TE} {i : Nat} {tz : TS} {D : Ends} {σ : L2.St} {H : Hp} (h : te σ H fun x H1 => tz D (σ.set i (some x)) H1) : tSeq (tAsg te (gName i)) tz D σ H := h
theorem tab_small (l : List Nat) {n : Nat} (h : n ≤ 30) : (tab l n n).length ≤ 900 := by
  have h1 := tab_len l n n
  have h3 := Nat.mul_le_mul h h
  omega
end HH
set_option maxHeartbeats 4000000
namespace HH
open PySem PySem.Spec PyProof.Rows L2 Evl RZ
/-! pairs by a test, as they rise -/
def tabPR (p : Nat → Nat → Bool) (i m : Nat) : HH.Row := ((List.range m).filter (p i)).map fun k => ((i : Int), ((i + 1 + k : Nat) : Int))
def tabP (p : Nat → Nat → Bool) (n m : Nat) : HH.Row := (List.range m).flatMap fun i => tabPR p i (n - (i + 1))
theorem tab_P (l : List Nat) (n m : Nat) : tab l n m = tabP (inP l) n m := rfl
theorem tabPR_succ (p : Nat → Nat → Bool) (i m : Nat) : tabPR p i (m + 1) = tabPR p i m ++ (if p i m = true then [((i : Int), ((i + 1 + m : Nat) : Int))] else []) := by
  unfold tabPR
  rw [List.range_succ, List.filter_append, List.map_append]
  by_cases h : p i m = true
  · rw [if_pos h, List.filter_cons_of_pos h]
    rfl
  · rw [if_neg h, List.filter_cons_of_neg h]
    rfl
theorem tabP_succ (p : Nat → Nat → Bool) (n m : Nat) : tabP p n (m + 1) = tabP p n m ++ tabPR p m (n - (m + 1)) := by
  unfold tabP
  rw [List.range_succ, List.flatMap_append]
  simp
theorem tabPR_len (p : Nat → Nat → Bool) (i m : Nat) : (tabPR p i m).length ≤ m := by
  unfold tabPR
  rw [List.length_map]
  have := List.length_filter_le (p i) (List.range m)
  rw [List.length_range] at this
  exact this
theorem tabP_len (p : Nat → Nat → Bool) (n : Nat) : ∀ m, (tabP p n m).length ≤ m * n
  | 0 => by simp [tabP]
  | m + 1 => by
    rw [tabP_succ, List.length_append, Nat.succ_mul]
    have h1 := tabP_len p n m
    have h2 := tabPR_len p m (n - (m + 1))
    omega
theorem tabP_small (p : Nat → Nat → Bool) {n : Nat} (h : n ≤ 30) : (tabP p n n).length ≤ 900 := by
  have h1 := tabP_len p n n
  have h3 := Nat.mul_le_mul h h
  omega
theorem mem_tabP {p : Nat → Nat → Bool} {n : Nat} {x : Int × Int} : x ∈ tabP p n n ↔ ∃ i j : Nat, i < j ∧ j < n ∧ x = ((i : Int), (j : Int)) ∧ p i (j - i - 1) = true := by
  unfold tabP
  rw [List.mem_flatMap]
  constructor
  · rintro ⟨i, hi, h⟩
    obtain ⟨k, hk, rfl⟩ := List.mem_map.mp h
    obtain ⟨h1, h2⟩ := List.mem_filter.mp hk
    have h1 := List.mem_range.mp h1
    refine ⟨i, i + 1 + k, by omega, by omega, rfl, ?_⟩
    rw [show i + 1 + k - i - 1 = k by omega]
    exact h2
  · rintro ⟨i, j, h1, h2, rfl, h3⟩
    refine ⟨i, List.mem_range.mpr (by omega), List.mem_map.mpr ⟨j - i - 1, List.mem_filter.mpr ⟨List.mem_range.mpr (by omega), h3⟩, ?_⟩⟩
    rw [show i + 1 + (j - i - 1) = j by omega]
theorem pw_tabPR (p : Nat → Nat → Bool) (i m : Nat) : (tabPR p i m).Pairwise lexL := by
  unfold tabPR
  refine List.pairwise_map.mpr (List.Pairwise.imp ?_ (List.Pairwise.filter (p i) List.pairwise_lt_range))
  intro a b hab
  exact .inr ⟨rfl, by show ((i + 1 + a : Nat) : Int) < ((i + 1 + b : Nat) : Int); omega⟩
theorem pw_tabP (p : Nat → Nat → Bool) (n : Nat) : ∀ m, (tabP p n m).Pairwise lexL
  | 0 => .nil
  | m + 1 => by
    rw [tabP_succ]
    refine List.pairwise_append.mpr ⟨pw_tabP p n m, pw_tabPR p m _, fun x hx y hy => ?_⟩
    unfold tabP at hx
    obtain ⟨i, hi, h⟩ := List.mem_flatMap.mp hx
    have hi := List.mem_range.mp hi
    obtain ⟨k, _, rfl⟩ := List.mem_map.mp h
    obtain ⟨k2, _, rfl⟩ := List.mem_map.mp hy
    exact .inl (by show (i : Int) < (m : Int); omega)
theorem pw_nodup {ps : HH.Row} (h : ps.Pairwise lexL) : ps.Nodup := by
  refine List.Pairwise.imp (fun {a b} r => ?_) h
  intro z
  rw [z] at r
  exact lex_irr _ r
theorem pw_same {ps qs : HH.Row} (h1 : ps.Pairwise lexL) (h2 : qs.Pairwise lexL) (h : ∀ x, x ∈ ps ↔ x ∈ qs) : ps = qs := pw_eq lex_irr lex_asy h1 h2 h
/-! those kept -/
def keepP (e b : List Nat) (i k : Nat) : Bool := !inP e i k && !inP b i k
theorem keep_iff {e b : List Nat} {i j : Nat} (h : i < j) : keepP e b i (j - i - 1) = true ↔ bef e j i = false ∧ bef b j i = false := by
  unfold keepP inP
  rw [show i + 1 + (j - i - 1) = j by omega]
  simp
/-- what stands alike ahead and behind stands so between -/
theorem mid_keeps {B L E : List Cow} (t : ∀ x ∈ B, 0 ≤ x.2.2) (nd : (B.map (·.1)).Nodup) (s1 : Steps B L) (s2 : Steps L E) {a b : Nat} (hB : bef (B.map (·.1)) a b = true) (hE : bef (E.map (·.1)) a b = true) : bef (L.map (·.1)) a b = true := by
  obtain ⟨L0, t1, e1⟩ := s1.unmap (rl_tag B).symm
  obtain ⟨E0, t2, e2⟩ := s2.unmap e1
  have g0 : Good (tag 0 (rowsOf B)) := good_tag (tolls_rows t)
  have g1 := g0.steps t1
  obtain ⟨p, q, hpq, hp, hq⟩ := bef_get hB
  have ep : ixN (B.map (·.1)) p = a := by
    unfold ixN
    rw [hp]
    rfl
  have eq : ixN (B.map (·.1)) q = b := by
    unfold ixN
    rw [hq]
    rfl
  have hp' := (List.getElem?_eq_some_iff.mp hp).1
  have hq' := (List.getElem?_eq_some_iff.mp hq).1
  have len : (rowsOf B).length = (B.map (·.1)).length := by rw [cow_len, List.length_map]
  have iL := t1.idsT
  have iE := (t1.trans t2).idsT
  have inj : ∀ (l : List Nat), l.Perm (List.range (rowsOf B).length) → ∀ r, r < (B.map (·.1)).length → ∀ x ∈ l, ixN (B.map (·.1)) x = ixN (B.map (·.1)) r → x = r := fun l pm r hr x hx h => by
    have := List.mem_range.mp (pm.mem_iff.mp hx)
    exact ixN_inj nd (by rw [← len]; exact this) hr h
  have nE : (E.map (·.1)).Nodup := (s1.trans s2).ids.nodup_iff.mpr nd
  cases hc : bef (L.map (·.1)) a b with
  | true => rfl
  | false =>
    have ne : a ≠ b := fun z => by
      rw [z] at hp
      have := nd_at nd hp hq
      omega
    have ma := s1.ids.mem_iff.mpr (bef_mem hB).1
    have mb := s1.ids.mem_iff.mpr (bef_mem hB).2
    have h1 := bef_tot ma mb ne hc
    rw [e1, rl_ids, ← ep, ← eq] at h1
    have h2 := (bef_map (inj _ iL q hq') (inj _ iL p hp')).mp h1
    have h3 := bef_stays g1 t2 hpq h2
    have h4 := (bef_map (f := ixN (B.map (·.1))) (inj _ iE q hq') (inj _ iE p hp')).mpr h3
    rw [ep, eq, ← rl_ids, ← e2] at h4
    rw [bef_asym nE hE] at h4
    cases h4
theorem kept_wander {rs : HH.Row} {L E B Y Z : List Cow} {ds : List Deed} (ht : ∀ b ∈ rs, 0 ≤ b.2) (r : MRun (tag 0 rs) L ds) (sE : Steps (tag 0 rs) E) (nE : Nf E) (sB : FSteps (tag 0 rs) B) (nB : Ff B) (sY : Steps (tag 0 (rowsOf L)) Y) (nY : Nf Y) (sZ : FSteps (tag 0 (rowsOf L)) Z) (nZ : Ff Z) :
    ((tabP (keepP (Y.map (·.1)) (Z.map (·.1))) rs.length rs.length).map (named (L.map (·.1)))).Perm (tabP (keepP (E.map (·.1)) (B.map (·.1))) rs.length rs.length) := by
  have t0 : ∀ x ∈ tag 0 rs, 0 ≤ x.2.2 := (good_tag ht).tl
  obtain ⟨tL, sLE, sLB⟩ := r.both t0 sE nE sB nB
  have tB := sB.tl t0
  have iE := sE.idsT
  have iB := sB.idsT
  have iL : (L.map (·.1)).Perm (List.range rs.length) := sLE.ids.symm.trans iE
  have lenL : (rowsOf L).length = rs.length := by
    have := iL.length_eq
    rw [List.length_map, List.length_range] at this
    rw [cow_len]
    exact this
  have ndL : (L.map (·.1)).Nodup := iL.nodup_iff.mpr List.nodup_range
  have ndE : (E.map (·.1)).Nodup := iE.nodup_iff.mpr List.nodup_range
  have ndB : (B.map (·.1)).Nodup := iB.nodup_iff.mpr List.nodup_range
  have lL : (L.map (·.1)).length = rs.length := by rw [iL.length_eq, List.length_range]
  obtain ⟨_, eY⟩ := relS tL sY nY sLE nE
  obtain ⟨_, eZ⟩ := relF tL sZ nZ sLB nB
  have iY := sY.idsT
  rw [lenL] at iY
  have iZ := sZ.idsT
  rw [lenL] at iZ
  have inj : ∀ (l : List Nat), l.Perm (List.range rs.length) → ∀ q, q < rs.length → ∀ x ∈ l, ixN (L.map (·.1)) x = ixN (L.map (·.1)) q → x = q := fun l pm q hq x hx h => by
    have := List.mem_range.mp (pm.mem_iff.mp hx)
    exact ixN_inj ndL (by omega) (by omega) h
  have bE : ∀ p q, p < rs.length → q < rs.length → (bef (E.map (·.1)) (ixN (L.map (·.1)) q) (ixN (L.map (·.1)) p) = true ↔ bef (Y.map (·.1)) q p = true) := fun p q hp hq => by
    rw [← eY]
    exact bef_map (inj _ iY q hq) (inj _ iY p hp)
  have bB : ∀ p q, p < rs.length → q < rs.length → (bef (B.map (·.1)) (ixN (L.map (·.1)) q) (ixN (L.map (·.1)) p) = true ↔ bef (Z.map (·.1)) q p = true) := fun p q hp hq => by
    rw [← eZ]
    exact bef_map (inj _ iZ q hq) (inj _ iZ p hp)
  have all : ∀ {M : List Cow}, (M.map (·.1)).Perm (List.range rs.length) → ∀ x, x < rs.length → x ∈ M.map (·.1) := fun pm x hx => pm.mem_iff.mpr (List.mem_range.mpr hx)
  refine (List.perm_ext_iff_of_nodup (nodup_on (fun x hx z hz h => ?_) (pw_nodup (pw_tabP _ _ _))) (pw_nodup (pw_tabP _ _ _))).mpr fun x => ?_
  · obtain ⟨i, j, h1, h2, rfl, _⟩ := mem_tabP.mp hx
    obtain ⟨i', j', h1', h2', rfl, _⟩ := mem_tabP.mp hz
    have h' : ((ixN (L.map (·.1)) i : Int), (ixN (L.map (·.1)) j : Int)) = ((ixN (L.map (·.1)) i' : Int), (ixN (L.map (·.1)) j' : Int)) := h
    obtain ⟨e1, e2⟩ := pair_inj h'
    rw [ixN_inj ndL (by omega) (by omega) e1, ixN_inj ndL (by omega) (by omega) e2]
  rw [List.mem_map]
  constructor
  · rintro ⟨y, hy, rfl⟩
    obtain ⟨p, q, h1, h2, rfl, hk⟩ := mem_tabP.mp hy
    obtain ⟨k1, k2⟩ := (keep_iff h1).mp hk
    have ha := ixN_at (l := L.map (·.1)) (p := p) (by omega)
    have hb := ixN_at (l := L.map (·.1)) (p := q) (by omega)
    have la : ixN (L.map (·.1)) p < rs.length := List.mem_range.mp (iL.mem_iff.mp (List.mem_of_getElem? ha))
    have lb : ixN (L.map (·.1)) q < rs.length := List.mem_range.mp (iL.mem_iff.mp (List.mem_of_getElem? hb))
    have ne : ixN (L.map (·.1)) q ≠ ixN (L.map (·.1)) p := fun z => by
      have := ixN_inj ndL (by omega) (by omega) z
      omega
    have e1 : bef (E.map (·.1)) (ixN (L.map (·.1)) q) (ixN (L.map (·.1)) p) = false := by
      cases h : bef (E.map (·.1)) (ixN (L.map (·.1)) q) (ixN (L.map (·.1)) p) with
      | false => rfl
      | true =>
        rw [(bE p q (by omega) h2).mp h] at k1
        cases k1
    have e2 : bef (B.map (·.1)) (ixN (L.map (·.1)) q) (ixN (L.map (·.1)) p) = false := by
      cases h : bef (B.map (·.1)) (ixN (L.map (·.1)) q) (ixN (L.map (·.1)) p) with
      | false => rfl
      | true =>
        rw [(bB p q (by omega) h2).mp h] at k2
        cases k2
    have f1 := bef_tot (all iE _ lb) (all iE _ la) ne e1
    have f2 := bef_tot (all iB _ lb) (all iB _ la) ne e2
    have f3 := mid_keeps tB ndB sB.back sE f2 f1
    rw [tag_ids] at f3
    have lt : ixN (L.map (·.1)) p < ixN (L.map (·.1)) q := bef_range' 0 rs.length (by rw [← List.range_eq_range']; exact f3)
    refine mem_tabP.mpr ⟨ixN (L.map (·.1)) p, ixN (L.map (·.1)) q, lt, lb, rfl, (keep_iff lt).mpr ⟨e1, e2⟩⟩
  · intro hx
    obtain ⟨a, b, h1, h2, rfl, hk⟩ := mem_tabP.mp hx
    obtain ⟨k1, k2⟩ := (keep_iff h1).mp hk
    have f1 := bef_tot (all iE b h2) (all iE a (by omega)) (by omega) k1
    have f2 := bef_tot (all iB b h2) (all iB a (by omega)) (by omega) k2
    have f3 := mid_keeps tB ndB sLB.back sLE f2 f1
    obtain ⟨p, q, hpq, hp, hq⟩ := bef_get f3
    have hp' := (List.getElem?_eq_some_iff.mp hp).1
    have hq' := (List.getElem?_eq_some_iff.mp hq).1
    have ep : ixN (L.map (·.1)) p = a := by
      unfold ixN
      rw [hp]
      rfl
    have eq : ixN (L.map (·.1)) q = b := by
      unfold ixN
      rw [hq]
      rfl
    refine ⟨((p : Int), (q : Int)), mem_tabP.mpr ⟨p, q, hpq, by omega, rfl, (keep_iff hpq).mpr ⟨?_, ?_⟩⟩, ?_⟩
    · cases h : bef (Y.map (·.1)) q p with
      | false => rfl
      | true =>
        have := (bE p q (by omega) (by omega)).mpr h
        rw [ep, eq, k1] at this
        cases this
    · cases h : bef (Z.map (·.1)) q p with
      | false => rfl
      | true =>
        have := (bB p q (by omega) (by omega)).mpr h
        rw [ep, eq, k2] at this
        cases this
    · show ((ixN (L.map (·.1)) p : Int), (ixN (L.map (·.1)) q : Int)) = _
      rw [ep, eq]
def spKept (K : PySem.W.Frag) : Sp := fun vs H Q _ => ∃ (v : V) (rs : HH.Row), vs = [v] ∧ RowAt K H v rs ∧ rs.length ≤ 30 ∧ (∀ b ∈ rs, 0 ≤ b.2) ∧
  ∀ (q : Addr) (us : List V) (E B : List Cow) (H' : Hp), Steps (tag 0 rs) E → Nf E → FSteps (tag 0 rs) B → Ff B → H q = none → Ex H H' → H' q = some (.lst us) → BeastsT H' us (tabP (keepP (E.map (·.1)) (B.map (·.1))) rs.length rs.length) → Q (.ref q) H'
def spAllPairs (K : PySem.W.Frag) : Sp := fun vs H Q _ => ∃ n : Nat, vs = [.int (n : Int)] ∧ n ≤ 30 ∧ ∀ (q : Addr) (us : List V) (H' : Hp), H q = none → Ex H H' → H' q = some (.lst us) → BeastsT H' us (tabP (fun _ _ => true) n n) → Q (.ref q) H'
end HH
set_option maxHeartbeats 4000000
namespace HH
open PySem PySem.Spec PyProof.Rows L2 Evl RZ
/-! lists of pairs, whatever a pair is known by -/
abbrev PrT := Hp → V → Int × Int → Prop
structure Stb (R : PrT) : Prop where
  ex : ∀ {H H' : Hp} {x : V} {b : Int × Int}, Ex H H' → R H x b → R H' x b
  ls : ∀ {H : Hp} {D : Addr} {xs ys : List V} {x : V} {b : Int × Int}, H D = some (.lst xs) → R H x b → R (upd H D (.lst ys)) x b
theorem stb_T : Stb PairT := ⟨fun e h => h.ex e, fun hD h => h.exB (ExB.refl _ _).upd hD⟩
theorem stb_B (K : PySem.W.Frag) : Stb (BeastAt K) := ⟨fun e h => h.ex e, fun hD h => h.exB (ExB.refl _ _).upd hD⟩
theorem Stb.all {R : PrT} (s : Stb R) {H H' : Hp} (e : Ex H H') {us : List V} {ps : HH.Row} (h : All2 (R H) us ps) : All2 (R H') us ps := All2.mono (fun _ _ r => s.ex e r) h
theorem Stb.allL {R : PrT} (s : Stb R) {H : Hp} {D : Addr} {xs ys : List V} (hD : H D = some (.lst xs)) {us : List V} {ps : HH.Row} (h : All2 (R H) us ps) : All2 (R (upd H D (.lst ys))) us ps := All2.mono (fun _ _ r => s.ls hD r) h
theorem beasts_2 {K : PySem.W.Frag} {H : Hp} : ∀ {us : List V} {ps : HH.Row}, Beasts K H us ps → All2 (BeastAt K H) us ps
  | [], [], _ => .nil
  | [], _ :: _, h => by cases h.1
  | _ :: _, [], h => by cases h.1
  | v :: vs, b :: rs, h => .cons h.uncons.1 (beasts_2 h.uncons.2)
theorem all2_b {K : PySem.W.Frag} {H : Hp} : ∀ {us : List V} {ps : HH.Row}, All2 (BeastAt K H) us ps → Beasts K H us ps
  | _, _, .nil => Beasts.nil
  | _, _, .cons a b => Beasts.app (vs := [_]) (rs := [_]) (Beasts.one a) (all2_b b)
section
variable {K : PySem.W.Frag} {σ : L2.St} {H : Hp} {ta tb te : TE} {t : TT} {R : PrT}
/-- a new list of them -/
def EvPr (R : PrT) (te : TE) (σ : L2.St) (H : Hp) (ps : HH.Row) : Prop := ∀ H1, Ex H H1 → ∀ Q : VK, (∀ (q : Addr) (us : List V) (H2 : Hp), H1 q = none → Ex H1 H2 → H2 q = some (.lst us) → All2 (R H2) us ps → Q (.ref q) H2) → te σ H1 Q
/-- a list of them, new or not -/
def Src (K : PySem.W.Frag) (R : PrT) (te : TE) (σ : L2.St) (H : Hp) (ps : HH.Row) : Prop := ∀ H1, Ex H H1 → ∀ Q : VK, (∀ (a : Addr) (us : List V) (H2 : Hp), Ex H1 H2 → (∀ H3, Ex H2 H3 → SqL K H3 a us) → All2 (R H2) us ps → Q (.ref a) H2) → te σ H1 Q
theorem src_new {ps : HH.Row} (h : EvPr R te σ H ps) : Src K R te σ H ps := fun H1 e1 Q q => h H1 e1 Q fun a us H2 _ e2 g2 bs => q a us H2 e2 (fun H3 e3 => sq_of (e3 _ _ g2)) bs
theorem src_val {ps : HH.Row} {a : Addr} {us : List V} (s : Stb R) (h : Ev te σ H (.ref a)) (ha : SqL K H a us) (bs : All2 (R H) us ps) : Src K R te σ H ps := fun H1 e1 Q q => h H1 e1 _ fun H2 e2 => q a us H2 e2 (fun H3 e3 => ex_l ((e1.trans e2).trans e3) ha) (s.all (e1.trans e2) bs)
theorem src_T {ps : HH.Row} (h : Src K PairT te σ H ps) : Src K (BeastAt K) te σ H ps := fun H1 e1 Q q => h H1 e1 Q fun a us H2 e2 sq bs => q a us H2 e2 sq (beasts_2 (BeastsT.be bs))
theorem epr_T {ps : HH.Row} (h : EvPr PairT te σ H ps) : EvPr (BeastAt K) te σ H ps := fun H1 e1 Q q => h H1 e1 Q fun a us H2 ha e2 g bs => q a us H2 ha e2 g (beasts_2 (BeastsT.be bs))
theorem epr_P {ps : HH.Row} (h : EvPr (BeastAt K) te σ H ps) : EvP K te σ H ps := fun H1 e1 Q q => h H1 e1 Q fun a us H2 ha e2 g bs => q a us H2 ha e2 g (all2_b bs)
theorem ep_r {ps : HH.Row} (h : EvP K te σ H ps) : EvPr (BeastAt K) te σ H ps := fun H1 e1 Q q => h H1 e1 Q fun a us H2 ha e2 g bs => q a us H2 ha e2 g (beasts_2 bs)
/-- [pair for pair in pairs if t] -/
theorem ep_filt {j : Nat} {vs : List Nat} {ps : HH.Row} (f : Int × Int → Bool) (s : Stb R) (h : Src K R te σ H ps) (hl : ps.length ≤ 2000) (hw : ∀ x, wipe ((wipe σ vs).set j (some x)) vs = wipe σ vs) (hj : ∀ x : V, ((wipe σ vs).set j (some x))[j]? = some (some x))
    (ht : ∀ (b : Int × Int) (x : V) H1, Ex H H1 → R H1 x b → b ∈ ps → EvT t ((wipe σ vs).set j (some x)) H1 (f b)) : EvPr R (tLc (iList K te) (gName j) t (tVar j) vs) σ H (ps.filter f) := fun H0 e0 Q q => by
  refine h H0 e0 _ fun a us H1 e1 sq bs => ⟨a, rfl, ⟨us, sq H1 (Ex.refl H1)⟩, fun D hD => ?_⟩
  have ul : us.length = ps.length := bs.len
  have e01 := e0.trans e1
  refine in_it (walk_list (xs := us)) (fun k H2 => Ex H1 H2 ∧ ∃ ws, H2 D = some (.lst ws) ∧ All2 (R H2) ws ((ps.take k).filter f)) ⟨Ex.new hD, [], upd_same, .nil⟩ (fun k H2 _ p => sq H2 p.1) (fun k x H2 H3 hk p y => ?_) (fun H2 p => ?_)
  · obtain ⟨rfl, hx⟩ := y
    obtain ⟨p1, ws, p2, p3⟩ := p
    obtain ⟨b, hb, rb⟩ := bs.get hx
    have mb : b ∈ ps := List.mem_of_getElem? hb
    refine ⟨hw _, t_ev (ht b x _ (e01.trans p1) (s.ex p1 rb) mb) fun H4 e4 => ?_⟩
    have et : (ps.take (k + 1)).filter f = (ps.take k).filter f ++ (if f b = true then [b] else []) := by
      rw [List.take_add_one, hb, List.filter_append]
      congr 1
      by_cases c : f b = true
      · rw [if_pos c]
        exact List.filter_cons_of_pos c
      · rw [if_neg c]
        exact List.filter_cons_of_neg c
    cases c : f b with
    | true =>
      rw [c, if_pos rfl] at et
      refine ⟨x, hj _, ws, e4 _ _ p2, sz_lt ?_, Ex.mut (p1.trans e4) hD, ws ++ [x], upd_same, ?_⟩
      · have := List.length_filter_le f (ps.take k)
        rw [List.length_take] at this
        rw [All2.len p3]
        omega
      · rw [et]
        exact s.allL (e4 _ _ p2) (All2.app (s.all e4 p3) (.cons (s.ex (p1.trans e4) rb) .nil))
    | false =>
      rw [c, if_neg (by decide), List.append_nil] at et
      refine ⟨p1.trans e4, ws, e4 _ _ p2, ?_⟩
      rw [et]
      exact s.all e4 p3
  · obtain ⟨p1, ws, p2, p3⟩ := p
    rw [ul, List.take_length] at p3
    exact q D ws H2 (fresh_back e1 hD) (e1.trans p1) p2 p3
theorem beast_dp {x : V} {b : Int × Int} (h : BeastAt K H x b) : Dp K H x (beastD b) := by
  obtain ⟨p, rfl, hp⟩ := h
  exact .tup hp (.cons (.int _) (.cons (.int _) .nil))
theorem et_notinL {q : Addr} {ws : List V} {qs : HH.Row} {x : V} {b : Int × Int} (h1 : Ev ta σ H x) (hb : BeastAt K H x b) (h2 : Ev tb σ H (.ref q)) (hq : SqL K H q ws) (bs : All2 (BeastAt K H) ws qs) : EvT (tTest (tOp (rNotInD K) ta tb)) σ H (!decide (b ∈ qs)) := fun H1 e1 Q k => by
  refine h1 H1 e1 _ fun H2 e2 => h2 H2 (e1.trans e2) _ fun H3 e3 => ?_
  have e13 := (e1.trans e2).trans e3
  refine ⟨beastD b, qs.map beastD, beast_dp (hb.ex e13), dp_pairs (ex_l e13 hq) ((all2_b bs).ex e13), (nice_beast _).shaped (by decide), (nice_pairs qs).shaped (by decide), _, rfl, ?_⟩
  rw [any_pairs]
  exact k H3 (e2.trans e3)
theorem et_inL {q : Addr} {ws : List V} {qs : HH.Row} {x : V} {b : Int × Int} (h1 : Ev ta σ H x) (hb : BeastAt K H x b) (h2 : Ev tb σ H (.ref q)) (hq : SqL K H q ws) (bs : All2 (BeastAt K H) ws qs) : EvT (tTest (tOp (rInD K) ta tb)) σ H (decide (b ∈ qs)) := fun H1 e1 Q k => by
  refine h1 H1 e1 _ fun H2 e2 => h2 H2 (e1.trans e2) _ fun H3 e3 => ?_
  have e13 := (e1.trans e2).trans e3
  refine ⟨beastD b, qs.map beastD, beast_dp (hb.ex e13), dp_pairs (ex_l e13 hq) ((all2_b bs).ex e13), (nice_beast _).shaped (by decide), (nice_pairs qs).shaped (by decide), _, rfl, ?_⟩
  rw [any_pairs]
  exact k H3 (e2.trans e3)
end
/-! told by a drawn order: those that neither pass nor fall -/
def spKeptBy (K : PySem.W.Frag) : Sp := fun vs H Q _ => ∃ (p : Addr) (v : V) (rs : HH.Row) (n : Nat), vs = [.ref p, v] ∧ RowAt K H v rs ∧ 0 < rs.length ∧ rs.length ≤ 30 ∧ (∀ b ∈ rs, 0 ≤ b.2) ∧ Bx H p n ∧ n + 2000 < Lim ∧
  ∀ (q : Addr) (us : List V) (E B : List Cow) (H' : Hp), Steps (tag 0 rs) E → Nf E → FSteps (tag 0 rs) B → Ff B → H q = none → ExB p H H' → Bx H' p (n + 2000) → H' q = some (.lst us) → BeastsT H' us (tabP (keepP (E.map (·.1)) (B.map (·.1))) rs.length rs.length) → Q (.ref q) H'
theorem keep_filter {n : Nat} {e b : List Nat} {ps qs : HH.Row} (t1 : Told n e ps) (t2 : Told n b qs) : (tabP (fun _ _ => true) n n).filter (fun x => !decide (x ∈ ps ++ qs)) = tabP (keepP e b) n n := by
  refine pw_same (List.Pairwise.filter _ (pw_tabP _ _ _)) (pw_tabP _ _ _) fun x => ?_
  rw [List.mem_filter, mem_tabP, mem_tabP]
  constructor
  · rintro ⟨⟨i, j, h1, h2, rfl, _⟩, h3⟩
    refine ⟨i, j, h1, h2, rfl, (keep_iff h1).mpr ?_⟩
    have h4 : ¬ (((i : Int), (j : Int)) ∈ ps ++ qs) := by simpa using h3
    rw [List.mem_append, t1.mem, t2.mem] at h4
    constructor
    · cases c : bef e j i with
      | false => rfl
      | true => exact absurd (.inl ⟨i, j, h1, rfl, c⟩) h4
    · cases c : bef b j i with
      | false => rfl
      | true => exact absurd (.inr ⟨i, j, h1, rfl, c⟩) h4
  · rintro ⟨i, j, h1, h2, rfl, h3⟩
    obtain ⟨k1, k2⟩ := (keep_iff h1).mp h3
    refine ⟨⟨i, j, h1, h2, rfl, rfl⟩, ?_⟩
    have : ¬ (((i : Int), (j : Int)) ∈ ps ++ qs) := by
      rw [List.mem_append, t1.mem, t2.mem]
      rintro (⟨a, c, _, h5, h6⟩ | ⟨a, c, _, h5, h6⟩)
      · obtain ⟨e1, e2⟩ := pair_inj h5
        subst e1 e2
        rw [k1] at h6
        cases h6
      · obtain ⟨e1, e2⟩ := pair_inj h5
        subst e1 e2
        rw [k2] at h6
        cases h6
    simpa using this
theorem ept_row {σ : L2.St} {H : Hp} {ta : TA} {j ko i n : Nat} {vs : List Nat} (h : EvA ta σ H [.int ((i : Int) + 1), .int (n : Int)]) (hn : i < n ∧ n ≤ 1000) (hw : ∀ x, wipe ((wipe σ vs).set j (some x)) vs = wipe σ vs) (hj : ∀ x : V, ((wipe σ vs).set j (some x))[j]? = some (some x)) (hk : ∀ x : V, ((wipe σ vs).set j (some x))[ko]? = some (some (.int (i : Int)))) :
    EvPr PairT (tLc (iRng2 ta) (gName j) tYes (tTup (tCons (tVar ko) (tCons (tVar j) tNil))) vs) σ H (tabPR (fun _ _ => true) i (n - (i + 1))) := fun H0 e0 Q q => by
  refine h H0 e0 _ fun H1 e1 => ⟨(i : Int) + 1, (n : Int), rfl, ⟨by omega, by omega, by omega, by omega⟩, fun D hD => ?_⟩
  rw [show ((n : Int) - ((i : Int) + 1)).toNat = n - (i + 1) by omega]
  refine in_it walk_range (fun m H2 => Ex H1 H2 ∧ ∃ us, H2 D = some (.lst us) ∧ All2 (PairT H2) us (tabPR (fun _ _ => true) i m)) ⟨Ex.new hD, [], upd_same, .nil⟩ (fun _ _ _ _ => True.intro) (fun m x H2 H3 hm p y => ?_) (fun H2 p => ?_)
  · obtain ⟨rfl, hx⟩ := y
    have ej : (i : Int) + 1 + (m : Int) = ((i + 1 + m : Nat) : Int) := by omega
    have hx : x = V.int ((i : Int) + 1 + (m : Int)) := hx
    rw [ej] at hx
    subst hx
    obtain ⟨p1, us, p2, p3⟩ := p
    refine ⟨hw _, t_yes ⟨_, hk _, _, hj _, by show 2 ≤ sizeLine; decide, fun T hT => ?_⟩⟩
    have nT := Ex.new (o := .tup [V.int (i : Int), .int ((i + 1 + m : Nat) : Int)]) hT
    have es := tabPR_succ (fun _ _ => true) i m
    rw [if_pos rfl] at es
    refine ⟨us, nT _ _ p2, sz_lt ?_, Ex.mut (p1.trans nT) hD, us ++ [.ref T], upd_same, ?_⟩
    · have := tabPR_len (fun _ _ => true) i m
      rw [All2.len p3]
      omega
    · rw [es]
      exact stb_T.allL (nT _ _ p2) (All2.app (stb_T.all nT p3) (.cons ⟨T, rfl, upd_same⟩ .nil))
  · obtain ⟨p1, us, p2, p3⟩ := p
    exact q D us H2 (fresh_back e1 hD) (e1.trans p1) p2 p3
def named2 (l m : List Nat) (p : Int × Int) : Int × Int := ((ixN l p.1.toNat : Int), (ixN m p.2.toNat : Int))
theorem named_2 (l : List Nat) : named l = named2 l l := rfl
/-- [(one[a], other[b]) for a, b in pairs] -/
theorem ep_named {K : PySem.W.Frag} {σ : L2.St} {H : Hp} {te : TE} {i j k1 k2 : Nat} {vs : List Nat} {o1 o2 : Addr} {l m : List Nat} {ps : HH.Row} (h : Src K (BeastAt K) te σ H ps) (hl : ps.length ≤ 2000) (h1 : SqT K H o1 (natsV l)) (h2 : SqT K H o2 (natsV m)) (hp : ∀ b ∈ ps, ∃ p q : Nat, b = ((p : Int), (q : Int)) ∧ p < l.length ∧ q < m.length)
    (hw : ∀ x y, wipe (((wipe σ vs).set i (some x)).set j (some y)) vs = wipe σ vs) (ci : ∀ x y : V, (((wipe σ vs).set i (some x)).set j (some y))[i]? = some (some x)) (cj : ∀ x y : V, (((wipe σ vs).set i (some x)).set j (some y))[j]? = some (some y)) (c1 : ∀ x y : V, (((wipe σ vs).set i (some x)).set j (some y))[k1]? = some (some (.ref o1))) (c2 : ∀ x y : V, (((wipe σ vs).set i (some x)).set j (some y))[k2]? = some (some (.ref o2))) :
    EvPr PairT (tLc (iList K te) (gTup K 2 (gCons (gName i) (gCons (gName j) gNil))) tYes (tTup (tCons (tOp (rIxT K) (tVar k1) (tVar i)) (tCons (tOp (rIxT K) (tVar k2) (tVar j)) tNil))) vs) σ H (ps.map (named2 l m)) := fun H0 e0 Q q => by
  refine h H0 e0 _ fun a us H1 e1 sq bs => ⟨a, rfl, ⟨us, sq H1 (Ex.refl H1)⟩, fun D hD => ?_⟩
  have ul : us.length = ps.length := bs.len
  have e01 := e0.trans e1
  refine in_it (walk_list (xs := us)) (fun k H2 => Ex H1 H2 ∧ ∃ ws, H2 D = some (.lst ws) ∧ All2 (PairT H2) ws ((ps.take k).map (named2 l m))) ⟨Ex.new hD, [], upd_same, .nil⟩ (fun k H2 _ p => sq H2 p.1) (fun k x H2 H3 hk p y => ?_) (fun H2 p => ?_)
  · obtain ⟨rfl, hx⟩ := y
    obtain ⟨p1, ws, p2, p3⟩ := p
    obtain ⟨b, hb, pp, rfl, hpp⟩ := bs.get hx
    obtain ⟨u, v, rfl, hu, hv⟩ := hp b (List.mem_of_getElem? hb)
    have e02 := e01.trans p1
    refine ⟨pp, _, rfl, ex_t p1 hpp, rfl, _, _, rfl, _, _, rfl, rfl, hw _ _, ?_⟩
    refine t_yes ?_
    refine ⟨_, c1 _ _, _, ci _ _, o1, _, (u : Int), .int (ixN l u : Int), rfl, rfl, ex_t e02 h1, atI_nat (natsV_at (ixN_at hu)), ?_⟩
    refine ⟨_, c2 _ _, _, cj _ _, o2, _, (v : Int), .int (ixN m v : Int), rfl, rfl, ex_t e02 h2, atI_nat (natsV_at (ixN_at hv)), by show 2 ≤ sizeLine; decide, fun T hT => ?_⟩
    have nT := Ex.new (o := .tup [V.int (ixN l u : Int), .int (ixN m v : Int)]) hT
    refine ⟨ws, nT _ _ p2, sz_lt (by rw [All2.len p3, List.length_map, List.length_take]; omega), Ex.mut (p1.trans nT) hD, ws ++ [.ref T], upd_same, ?_⟩
    rw [List.take_add_one, hb, List.map_append]
    exact stb_T.allL (nT _ _ p2) (All2.app (stb_T.all nT p3) (.cons ⟨T, rfl, upd_same⟩ .nil))
  · obtain ⟨p1, ws, p2, p3⟩ := p
    rw [ul, List.take_length] at p3
    exact q D ws H2 (fresh_back e1 hD) (e1.trans p1) p2 p3
/-- sorted(pairs), known by what they are -/
theorem ep_sorted {K : PySem.W.Frag} {σ : L2.St} {H : Hp} {te : TE} {ps qs : HH.Row} (h : Src K (BeastAt K) te σ H ps) (pm : ps.Perm qs) (pw : qs.Pairwise lexL) : EvPr (BeastAt K) (tCB (rSortedPT K) (tCons te tNil)) σ H qs := fun H1 e1 Q q =>
  h H1 e1 _ fun a us H2 e2 sq bs => ⟨a, us, ps, rfl, sq H2 (Ex.refl H2), all2_b bs, fun ys rs p bys pm2 srt hp => by
    have := sort_one (pm2.trans pm) srt (pw_no pw)
    subst this
    have nT := Ex.new (o := .lst ys) hp
    exact q p ys _ (fresh_back e2 hp) (e2.trans nT) upd_same (beasts_2 (bys.ex nT))⟩
/-- return all([right(dip(cells, k)) for k in range(1 + len(cells))]) -/
theorem law_all {K : PySem.W.Frag} {σ : L2.St} {H : Hp} {l : Addr} {ms : List Int} {j il c : Nat} {vs : List Nat} {E1 E2 : XK} {D : Ends} (h1 : H l = some (.lst (ms.map V.int))) (hm : ms.length ≤ 10) (hw : ∀ x, wipe ((wipe σ vs).set j (some x)) vs = wipe σ vs) (cl : ∀ x : V, ((wipe σ vs).set j (some x))[il]? = some (some (.ref l))) (cj : ∀ x : V, ((wipe σ vs).set j (some x))[j]? = some (some x)) (sl : σ[il]? = some (some (.ref l))) (q : ∀ H', D.rt (.bl true) H') :
    tRet (tCB (rAll K) (tCons (tLc (iRng1 (tCons (tOp (rI0 fun i j => .int (i + j)) (tC (.int 1)) (tCB (rLenS K) (tCons (tVar il) tNil))) tNil)) (gName j) tYes (tCall spRight [] E1 (tCons (tCall (spDip K) [] E2 (tCons (tVar il) (tCons (tVar j) tNil))) tNil)) vs) tNil)) D σ H := by
  refine s_ret (D := D) (ev_allT (n := (1 + ((ms.map V.int).length : Int)).toNat) ?_) fun H2 e2 => q H2
  have hn : 0 ≤ 1 + ((ms.map V.int).length : Int) ∧ 1 + ((ms.map V.int).length : Int) ≤ 20 := by
    rw [List.length_map]
    omega
  have key := el_lcR1 (σ := σ) (H := H) (ta := tCons (tOp (rI0 fun i j => .int (i + j)) (tC (.int 1)) (tCB (rLenS K) (tCons (tVar il) tNil))) tNil) (j := j) (vs := vs) (t := tYes) (te := tCall spRight [] E1 (tCons (tCall (spDip K) [] E2 (tCons (tVar il) (tCons (tVar j) tNil))) tNil)) (fun _ => true) (fun _ => .bl true) (ea_cons (ev_op ev_c (ev_len (ev_var sl) (sq_of h1)) rv_I0) ea_nil) ⟨hn.1, by omega⟩ hw (fun i H1 e1 hi => et_yes) (fun i H3 e3 hi _ => ?_)
  · have e0 : given (1 + ((ms.map V.int).length : Int)).toNat (fun _ => true) (fun _ => V.bl true) = (List.replicate (1 + ((ms.map V.int).length : Int)).toNat true).map V.bl := by
      rw [given_all _ (fun _ => true)]
      congr 1
      rw [List.eq_replicate_iff]
      refine ⟨by rw [List.length_map, List.length_range], fun b hb => ?_⟩
      obtain ⟨_, _, rfl⟩ := List.mem_map.mp hb
      rfl
    rw [e0] at key
    exact key
  · intro H4 e4 Q4 q4
    refine ⟨.ref l, cl _, .int (i : Int), cj _, l, i, ms, rfl, sq_of ((e3.trans e4) _ _ h1), by omega, fun b H5 hb e5 hx => ?_⟩
    refine ⟨b, rfl, hx, fun H6 x6 => q4 H6 fun c o hc => x6 c o (ne_of_none hc hb) (e5 c o hc)⟩
end HH
set_option maxHeartbeats 4000000
namespace HH
open PySem PySem.Spec PyProof.Rows L2 Evl RZ
/-! who passes whom, by sums -/
def passP (rs : HH.Row) (i k : Nat) : Bool := decide (barN rs i k < sS rs (i + 1 + k))
def passT (rs : HH.Row) : HH.Row := tabP (passP rs) rs.length rs.length
theorem mem_passT {rs : HH.Row} {x : Int × Int} : x ∈ passT rs ↔ ∃ i j : Nat, i < j ∧ j < rs.length ∧ x = ((i : Int), (j : Int)) ∧ barN rs i (j - i - 1) < sS rs j := by
  unfold passT
  rw [mem_tabP]
  constructor
  · rintro ⟨i, j, h1, h2, h3, h4⟩
    unfold passP at h4
    rw [show i + 1 + (j - i - 1) = j by omega] at h4
    exact ⟨i, j, h1, h2, h3, of_decide_eq_true h4⟩
  · rintro ⟨i, j, h1, h2, h3, h4⟩
    refine ⟨i, j, h1, h2, h3, ?_⟩
    unfold passP
    rw [show i + 1 + (j - i - 1) = j by omega]
    exact decide_eq_true h4
theorem tab_passT {rs : HH.Row} {L : List Cow} (ht : ∀ b ∈ rs, 0 ≤ b.2) (st : Steps (tag 0 rs) L) (nf : Nf L) : tab (L.map (·.1)) rs.length rs.length = passT rs :=
  pw_same (pw_tab _ _ _) (pw_tabP _ _ _) fun x => (mem_tabN ht st nf).trans mem_passT.symm
theorem passT_small {rs : HH.Row} (h : rs.length ≤ 30) : (passT rs).length ≤ 900 := tabP_small _ h
theorem pw_passT (rs : HH.Row) : (passT rs).Pairwise lexL := pw_tabP _ _ _
/-! one beast put in another's place -/
def putR (rs : HH.Row) (w : Nat) (b : Int × Int) : HH.Row := rs.take w ++ [b] ++ rs.drop (w + 1)
theorem putR_len {rs : HH.Row} {w : Nat} {b : Int × Int} (h : w < rs.length) : (putR rs w b).length = rs.length := by
  unfold putR
  simp
  omega
theorem putR_get {rs : HH.Row} {w k : Nat} {b : Int × Int} (h : w < rs.length) : (putR rs w b)[k]? = if k = w then some b else rs[k]? := by
  unfold putR
  have lt : (rs.take w).length = w := by rw [List.length_take]; omega
  by_cases h1 : k < w
  · rw [if_neg (by omega), List.append_assoc, List.getElem?_append_left (by omega), List.getElem?_take, if_pos h1]
  · by_cases h2 : k = w
    · rw [if_pos h2, List.append_assoc, List.getElem?_append_right (by omega), lt, h2, Nat.sub_self]
      rfl
    · rw [if_neg h2, List.getElem?_append_right (by rw [List.length_append, lt]; show w + 1 ≤ k; omega), List.length_append, lt, List.getElem?_drop]
      congr 1
      show w + 1 + (k - (w + 1)) = k
      omega
theorem putR_s {rs : HH.Row} {w k : Nat} {b : Int × Int} (h : w < rs.length) : sS (putR rs w b) k = if k = w then b.1 else sS rs k := by
  unfold sS
  rw [putR_get h]
  by_cases e : k = w
  · rw [if_pos e, if_pos e]
    rfl
  · rw [if_neg e, if_neg e]
theorem putR_t {rs : HH.Row} {w k : Nat} {b : Int × Int} (h : w < rs.length) : tS (putR rs w b) k = if k = w then b.2 else tS rs k := by
  unfold tS
  rw [putR_get h]
  by_cases e : k = w
  · rw [if_pos e, if_pos e]
    rfl
  · rw [if_neg e, if_neg e]
theorem putR_tl {rs : HH.Row} {w : Nat} {b : Int × Int} (hb : 0 ≤ b.2) (ht : ∀ x ∈ rs, 0 ≤ x.2) : ∀ x ∈ putR rs w b, 0 ≤ x.2 := fun x hx => by
  unfold putR at hx
  rcases List.mem_append.mp hx with hx | hx
  · rcases List.mem_append.mp hx with hx | hx
    · exact ht x (List.mem_of_mem_take hx)
    · rw [List.mem_singleton.mp hx]
      exact hb
  · exact ht x (List.mem_of_mem_drop hx)
theorem putR_self {rs : HH.Row} {w : Nat} (h : w < rs.length) : putR rs w (sS rs w, tS rs w) = rs := by
  refine List.ext_getElem? fun k => ?_
  rw [putR_get h]
  by_cases e : k = w
  · rw [if_pos e, e, row_get h]
  · rw [if_neg e]
def fedR (rs : HH.Row) (w : Nat) (d : Int) : HH.Row := putR rs w (sS rs w + d, tS rs w)
def dearR (rs : HH.Row) (w : Nat) (d : Int) : HH.Row := putR rs w (sS rs w, tS rs w + d)
theorem tS_nn2 {rs : HH.Row} (ht : ∀ b ∈ rs, 0 ≤ b.2) (k : Nat) : 0 ≤ tS rs k := by
  by_cases h : k < rs.length
  · exact tS_nn ht h
  · unfold tS
    rw [List.getElem?_eq_none (by omega)]
    exact Int.le_refl 0
/-- a higher start, higher tolls: a higher bar -/
theorem bar_mono {rs ss : HH.Row} {i : Nat} : ∀ m, sS rs i + tS rs i ≤ sS ss i + tS ss i → (∀ k, i < k → k ≤ i + m → sS rs k = sS ss k ∧ tS rs k ≤ tS ss k ∧ 0 ≤ tS ss k) → barN rs i m ≤ barN ss i m
  | 0, h, _ => h
  | m + 1, h, hk => by
    have ih := bar_mono m h fun k h1 h2 => hk k h1 (by omega)
    obtain ⟨e1, e2, e3⟩ := hk (i + 1 + m) (by omega) (by omega)
    by_cases c : sS rs (i + 1 + m) ≤ barN rs i m
    · rw [barN_yes c, barN_yes (by rw [← e1]; omega)]
      omega
    · rw [barN_no c]
      by_cases c2 : sS ss (i + 1 + m) ≤ barN ss i m
      · rw [barN_yes c2]
        omega
      · rw [barN_no c2]
        exact ih
theorem dearR_0 {rs : HH.Row} {w : Nat} (h : w < rs.length) : dearR rs w 0 = rs := by
  unfold dearR
  rw [Int.add_zero]
  exact putR_self h
theorem fedR_0 {rs : HH.Row} {w : Nat} (h : w < rs.length) : fedR rs w 0 = rs := by
  unfold fedR
  rw [Int.add_zero]
  exact putR_self h
theorem dear_sub {rs : HH.Row} {w : Nat} {d d' : Int} (ht : ∀ b ∈ rs, 0 ≤ b.2) (hw : w < rs.length) (h0 : 0 ≤ d) (hd : d ≤ d') {x : Int × Int} (hx : x ∈ passT (dearR rs w d')) : x ∈ passT (dearR rs w d) := by
  obtain ⟨i, j, h1, h2, h3, h4⟩ := mem_passT.mp hx
  unfold dearR at h2 h4 ⊢
  rw [putR_len hw] at h2
  refine mem_passT.mpr ⟨i, j, h1, by rw [putR_len hw]; exact h2, h3, ?_⟩
  have es : ∀ k, sS (putR rs w (sS rs w, tS rs w + d)) k = sS (putR rs w (sS rs w, tS rs w + d')) k := fun k => by rw [putR_s hw, putR_s hw]
  have et : ∀ k, tS (putR rs w (sS rs w, tS rs w + d)) k ≤ tS (putR rs w (sS rs w, tS rs w + d')) k := fun k => by
    rw [putR_t hw, putR_t hw]
    by_cases e : k = w
    · rw [if_pos e, if_pos e]
      show tS rs w + d ≤ tS rs w + d'
      omega
    · rw [if_neg e, if_neg e]
      exact Int.le_refl _
  have en : ∀ k, 0 ≤ tS (putR rs w (sS rs w, tS rs w + d')) k := tS_nn2 (putR_tl (by show 0 ≤ tS rs w + d'; have := tS_nn ht hw; omega) ht)
  have := bar_mono (rs := putR rs w (sS rs w, tS rs w + d)) (ss := putR rs w (sS rs w, tS rs w + d')) (i := i) (j - i - 1) (by have := es i; have := et i; omega) fun k _ _ => ⟨es k, et k, en k⟩
  have := es j
  omega
theorem dear_gone {rs : HH.Row} {w : Nat} {d : Int} (hw : w < rs.length) {x : Int × Int} (hx : x ∈ passT rs) (no : x ∉ passT (dearR rs w d)) : (w : Int) < x.2 := by
  obtain ⟨i, j, h1, h2, rfl, h4⟩ := mem_passT.mp hx
  by_cases c : w < j
  · show (w : Int) < (j : Int)
    omega
  · refine absurd (mem_passT.mpr ⟨i, j, h1, by unfold dearR; rw [putR_len hw]; exact h2, rfl, ?_⟩) no
    unfold dearR
    have es : sS (putR rs w (sS rs w, tS rs w + d)) j = sS rs j := by
      rw [putR_s hw]
      by_cases e : j = w
      · rw [if_pos e, e]
      · rw [if_neg e]
    have := barN_alike (rs := putR rs w (sS rs w, tS rs w + d)) (ss := rs) (i := i) (j - i - 1) fun k hk => by
      have ne : k ≠ w := by omega
      rw [putR_s hw, putR_t hw, if_neg ne, if_neg ne]
      exact ⟨rfl, rfl⟩
    rw [this, es]
    exact h4
/-! promises -/
def spPutIn (K : PySem.W.Frag) : Sp := fun vs H Q _ => ∃ (v u : V) (rs : HH.Row) (w : Nat) (b : Int × Int), vs = [v, .int (w : Int), u] ∧ RowAt K H v rs ∧ rs.length ≤ 1000 ∧ w < rs.length ∧ BeastAt K H u b ∧ ∀ z H', Ex H H' → RowAt K H' z (putR rs w b) → Q z H'
def spAsking (K : PySem.W.Frag) : Sp := fun vs H Q _ => ∃ (v : V) (rs : HH.Row) (w : Nat) (t : Int), vs = [v, .int (w : Int), .int t] ∧ RowAt K H v rs ∧ rs.length ≤ 1000 ∧ w < rs.length ∧ ∀ z H', Ex H H' → RowAt K H' z (putR rs w (sS rs w, t)) → Q z H'
def spFed (K : PySem.W.Frag) : Sp := fun vs H Q _ => ∃ (v : V) (rs : HH.Row) (w : Nat) (d : Int), vs = [v, .int (w : Int), .int d] ∧ RowAt K H v rs ∧ rs.length ≤ 1000 ∧ w < rs.length ∧ ∀ z H', Ex H H' → RowAt K H' z (fedR rs w d) → Q z H'
def spWith4 (K : PySem.W.Frag) : Sp := fun vs H Q _ => ∃ (v : V) (rs : HH.Row) (w : Nat) (d t : Int), vs = [v, .int (w : Int), .int d, .int t] ∧ RowAt K H v rs ∧ rs.length ≤ 1000 ∧ w < rs.length ∧ ∀ z H', Ex H H' → RowAt K H' z (putR rs w (sS rs w + d, tS rs w + t)) → Q z H'
def spPassT (K : PySem.W.Frag) : Sp := fun vs H Q _ => ∃ (v : V) (rs : HH.Row), vs = [v] ∧ RowAt K H v rs ∧ rs.length ≤ 30 ∧ (∀ b ∈ rs, 0 ≤ b.2) ∧
  ∀ (q : Addr) (us : List V) (H' : Hp), H q = none → Ex H H' → H' q = some (.lst us) → BeastsT H' us (passT rs) → Q (.ref q) H'
theorem passT_weak {K : PySem.W.Frag} : ∀ vs H Q E, spPassT K vs H Q E → spPairsT K toLast vs H Q E := fun vs H Q E h => by
  obtain ⟨v, rs, rfl, h1, h2, h3, q⟩ := h
  refine ⟨v, rs, rfl, h1, h2, h3, fun a us L H' m h4 e g bs => q a us H' h4 e g ?_⟩
  rw [← tab_passT h3 m.1 (nfr_nf m.2)]
  exact bs
def missF (ps qs : HH.Row) : HH.Row := ps.filter fun x => !decide (x ∈ qs)
theorem mem_missF {ps qs : HH.Row} {x : Int × Int} : x ∈ missF ps qs ↔ x ∈ ps ∧ x ∉ qs := by
  unfold missF
  rw [List.mem_filter]
  simp
theorem missF_len (ps qs : HH.Row) : (missF ps qs).length ≤ ps.length := List.length_filter_le ..
def spMissing (K : PySem.W.Frag) : Sp := fun vs H Q _ => ∃ (a b : Addr) (ua ub : List V) (ps qs : HH.Row), vs = [.ref a, .ref b] ∧ SqL K H a ua ∧ BeastsT H ua ps ∧ SqL K H b ub ∧ BeastsT H ub qs ∧ ps.length ≤ 1000 ∧ qs.length ≤ 1000 ∧
  ∀ (q : Addr) (us : List V) (H' : Hp), H q = none → Ex H H' → H' q = some (.lst us) → BeastsT H' us (missF ps qs) → Q (.ref q) H'
def spUnlike (K : PySem.W.Frag) : Sp := fun vs H Q _ => ∃ (v u : V) (rs ss : HH.Row), vs = [v, u] ∧ RowAt K H v rs ∧ RowAt K H u ss ∧ rs.length ≤ 30 ∧ ss.length ≤ 30 ∧ (∀ b ∈ rs, 0 ≤ b.2) ∧ (∀ b ∈ ss, 0 ≤ b.2) ∧
  ∀ (q a b : Addr) (ua ub : List V) (H' : Hp), H q = none → H a = none → H b = none → a ≠ b → Ex H H' → H' q = some (.tup [.ref a, .ref b]) → H' a = some (.lst ua) → H' b = some (.lst ub) → BeastsT H' ua (missF (passT ss) (passT rs)) → BeastsT H' ub (missF (passT rs) (passT ss)) → Q (.ref q) H'
section
variable {K : PySem.W.Frag} {σ : L2.St} {H : Hp} {ta tb te te2 : TE} {t : TT} {R : PrT} {v : V}
theorem ept_passT {rs : HH.Row} {E : XK} (h : Ev ta σ H v) (hv : RowAt K H v rs) (hl : rs.length ≤ 30) (ht : ∀ b ∈ rs, 0 ≤ b.2) : EvPr PairT (tCall (spPassT K) [] E (tCons ta tNil)) σ H (passT rs) := fun H1 e1 Q q =>
  h H1 e1 _ fun H2 e2 => ⟨v, rs, rfl, hv.ex (e1.trans e2), hl, ht, fun a us H3 ha e3 g bs => q a us H3 (fresh_back e2 ha) (e2.trans e3) g bs⟩
/-- [f(pair) for pair in pairs], truths -/
theorem el_mapB {j : Nat} {vs : List Nat} {ps : HH.Row} (f : Int × Int → Bool) (s : Stb R) (h : Src K R te σ H ps) (hl : ps.length ≤ 2000) (hw : ∀ x, wipe ((wipe σ vs).set j (some x)) vs = wipe σ vs)
    (he : ∀ (b : Int × Int) (x : V) H1, Ex H H1 → R H1 x b → b ∈ ps → Ev te2 ((wipe σ vs).set j (some x)) H1 (.bl (f b))) : EvL (tLc (iList K te) (gName j) tYes te2 vs) σ H ((ps.map f).map V.bl) := fun H0 e0 Q q => by
  refine h H0 e0 _ fun a us H1 e1 sq bs => ⟨a, rfl, ⟨us, sq H1 (Ex.refl H1)⟩, fun D hD => ?_⟩
  have ul : us.length = ps.length := bs.len
  have e01 := e0.trans e1
  refine in_it (walk_list (xs := us)) (fun k H2 => Ex H1 H2 ∧ H2 D = some (.lst (((ps.take k).map f).map V.bl))) ⟨Ex.new hD, upd_same⟩ (fun k H2 _ p => sq H2 p.1) (fun k x H2 H3 hk p y => ?_) (fun H2 p => ?_)
  · obtain ⟨rfl, hx⟩ := y
    obtain ⟨p1, p2⟩ := p
    obtain ⟨b, hb, rb⟩ := bs.get hx
    refine ⟨hw _, t_yes ?_⟩
    refine (he b x _ (e01.trans p1) (s.ex p1 rb) (List.mem_of_getElem? hb)) _ (Ex.refl _) _ fun H4 e4 => ?_
    refine ⟨_, e4 _ _ p2, sz_lt (by rw [List.length_map, List.length_map, List.length_take]; omega), Ex.mut (p1.trans e4) hD, ?_⟩
    rw [upd_same, List.take_add_one, hb, List.map_append, List.map_append]
    rfl
  · obtain ⟨p1, p2⟩ := p
    rw [ul, List.take_length] at p2
    exact q D H2 (fresh_back e1 hD) (e1.trans p1) p2
theorem ev_anyP {j : Nat} {vs : List Nat} {ps : HH.Row} (f : Int × Int → Bool) (s : Stb R) (h : Src K R te σ H ps) (hl : ps.length ≤ 2000) (hw : ∀ x, wipe ((wipe σ vs).set j (some x)) vs = wipe σ vs) (hf : ∀ b ∈ ps, f b = false)
    (he : ∀ (b : Int × Int) (x : V) H1, Ex H H1 → R H1 x b → b ∈ ps → Ev te2 ((wipe σ vs).set j (some x)) H1 (.bl (f b))) : Ev (tCB (rAny K) (tCons (tLc (iList K te) (gName j) tYes te2 vs) tNil)) σ H (.bl false) := by
  have := ev_any (K := K) (el_mapB f s h hl hw he)
  have e : (ps.map f).any id = false := by
    rw [List.any_eq_false]
    intro x hx
    obtain ⟨b, hb, rfl⟩ := List.mem_map.mp hx
    rw [hf b hb]
    decide
  rw [e] at this
  exact this
/-- pairs != [], there being none -/
theorem et_noneP {ps : HH.Row} (h : EvPr (BeastAt K) te σ H ps) (e : ps = []) : EvT (tTest (tOp (rNeD K) te (tLst tNil))) σ H false := fun H1 e1 Q q => by
  subst e
  refine h H1 e1 _ fun a us H2 ha e2 g2 bs => ⟨by show 0 ≤ sizeLine; decide, fun c hc => ?_⟩
  cases bs
  have nc := Ex.new (o := .lst ([] : List V)) hc
  refine ⟨pairsD [], pairsD [], dp_pairs (sq_of (nc _ _ g2)) Beasts.nil, dp_pairs (sq_of upd_same) Beasts.nil, (nice_pairs []).shaped (by decide), (nice_pairs []).shaped (by decide), _, rfl, ?_⟩
  rw [SeqAt.eqv_refl _ (nice_pairs []).1]
  exact q _ (e2.trans nc)
end
end HH
set_option maxHeartbeats 4000000
namespace HH
open PySem PySem.Spec PyProof.Rows L2 Evl RZ
section
variable {K : PySem.W.Frag} {σ : L2.St} {H : Hp} {v : V}
theorem alike_twoT {d : Nat} {a b : Addr} {x1 x2 y1 y2 : V} (h : SqT K H a [x1, x2]) (g : SqT K H b [y1, y2]) (h1 : Alike K H d x1 y1) (h2 : Alike K H d x2 y2) : Alike K H (d + 1) (.ref a) (.ref b) := by
  refine .inr ⟨a, b, _, _, rfl, rfl, .inr ⟨h, g⟩, rfl, by show 2 ≤ 40000; decide, fun i u v hu hv => ?_⟩
  match i, hu, hv with
  | 0, hu, hv => cases hu; cases hv; exact h1
  | 1, hu, hv => cases hu; cases hv; exact h2
  | i + 2, hu, _ => cases hu
theorem ev_notinL {ta tb : TE} {q : Addr} {ws : List V} {qs : HH.Row} {x : V} {b : Int × Int} (h1 : Ev ta σ H x) (hb : BeastAt K H x b) (h2 : Ev tb σ H (.ref q)) (hq : SqL K H q ws) (bs : All2 (BeastAt K H) ws qs) : Ev (tOp (rNotInD K) ta tb) σ H (.bl (!decide (b ∈ qs))) := fun H1 e1 Q k => by
  refine h1 H1 e1 _ fun H2 e2 => h2 H2 (e1.trans e2) _ fun H3 e3 => ?_
  have e13 := (e1.trans e2).trans e3
  refine ⟨beastD b, qs.map beastD, beast_dp (hb.ex e13), dp_pairs (ex_l e13 hq) ((all2_b bs).ex e13), (nice_beast _).shaped (by decide), (nice_pairs qs).shaped (by decide), ?_⟩
  rw [any_pairs]
  exact k H3 (e2.trans e3)
theorem rg_nats (n : Nat) : rgV 0 (n : Int) = natsV (List.range n) := by
  have := ord_tag (List.replicate n ((0 : Int), (0 : Int)))
  rw [List.length_replicate] at this
  rw [this, ordL_nats, tag_ids, List.length_replicate]
/-- list(range(len(pen))) if most == 6 else [take(box, len(pen)) for turn in range(2)] -/
theorem some_whoms {p : Addr} {rs : HH.Row} {n m jt : Nat} {E : XK} {Q : VK} (s0 : σ[0]? = some (some (.ref p))) (s1 : σ[1]? = some (some (.int (m : Int)))) (s2 : σ[2]? = some (some v)) (hv : RowAt K H v rs) (h0 : 0 < rs.length) (hl : rs.length ≤ 30) (hb : Bx H p n) (hn : n + 2 < Lim) (hw : ∀ x, wipe ((wipe σ [jt]).set jt (some x)) [jt] = wipe σ [jt]) (c0 : ∀ x : V, ((wipe σ [jt]).set jt (some x))[0]? = some (some (.ref p))) (c2 : ∀ x : V, ((wipe σ [jt]).set jt (some x))[2]? = some (some v))
    (k : ∀ (l : Addr) (ws : List Nat) (H' : Hp), H l = none → ExB p H H' → Bx H' p (n + 2) → H' l = some (.lst (natsV ws)) → (∀ x ∈ ws, x < rs.length) → ws.length ≤ 30 → Q (.ref l) H') :
    tIf (tTest (tOp rEq (tVar 1) (tC (.int 6)))) (tLstRg (tRg1 (tCB (rLenS K) (tCons (tVar 2) tNil)))) (tLc (iRng1 (tCons (tC (.int 2)) tNil)) (gName jt) tYes (tCall spTake [] E (tCons (tVar 0) (tCons (tCB (rLenS K) (tCons (tVar 2) tNil)) tNil))) [jt]) σ H Q := by
  refine ⟨_, s1, rfl, _, rfl, ite2 (fun _ => ?_) (fun _ => ?_)⟩
  · refine (ev_lenR (K := K) (ev_var s2) hv : Ev (tCB (rLenS K) (tCons (tVar 2) tNil)) σ H (.int (rs.length : Int))) H (Ex.refl H) _ fun H1 e1 => ⟨_, rfl, RgOk.of_le (by decide) (by omega) (by decide) (by omega), fun l hl' => ?_⟩
    have nl := Ex.new (o := .lst (rgV 0 (rs.length : Int))) hl'
    refine k l (List.range rs.length) _ (fresh_back e1 hl') (.of (e1.trans nl)) ((hb.ex (e1.trans nl)).le (by omega)) (by rw [upd_same, rg_nats]) (fun x hx => List.mem_range.mp hx) (by rw [List.length_range]; omega)
  · refine ⟨2, rfl, by decide, by decide, fun D hD => ?_⟩
    have hDp : p ≠ D := hb.ne hD
    refine lc_range (lo := 0) (n := (2 : Int).toNat) (fun i H' => ∃ ws : List Nat, H' D = some (.lst (natsV ws)) ∧ ws.length = i ∧ (∀ x ∈ ws, x < rs.length) ∧ ExB p H H' ∧ Bx H' p (n + i)) ⟨[], upd_same, rfl, (fun x z => by cases z), (ExB.refl _ _).new hD, hb.ex (Ex.new hD)⟩ (fun i H' hi hW => ?_) (fun H' hW => ?_)
    · obtain ⟨ws, w1, w2, w3, w4, w5⟩ := hW
      have hi2 : i < 2 := hi
      refine ⟨hw _, t_yes ⟨_, c0 _, ?_⟩⟩
      have hv' := hv.exB w4 hb
      refine (ev_lenR (K := K) (ev_var (c2 _)) hv' : Ev (tCB (rLenS K) (tCons (tVar 2) tNil)) _ H' (.int (rs.length : Int))) H' (Ex.refl H') _ fun H1 e1 => ⟨p, (rs.length : Int), n + i, rfl, by omega, by omega, w5.ex e1, by omega, fun r H2 r0 r1 x2 b2 => ?_⟩
      obtain ⟨t, rfl⟩ := Int.eq_ofNat_of_zero_le r0
      have g2 := x2 _ _ (Ne.symm hDp) (e1 _ _ w1)
      refine ⟨_, g2, sz_lt (by rw [natsV_len]; omega), ws ++ [t], ?_, by rw [List.length_append, w2]; rfl, fun x hx => ?_, ((w4.trans (.of e1)).trans x2).mut hD, b2.mut hDp⟩
      · rw [upd_same]
        unfold natsV
        rw [List.map_append]
        rfl
      · rcases List.mem_append.mp hx with h | h
        · exact w3 x h
        · rw [List.mem_singleton.mp h]
          omega
    · obtain ⟨ws, w1, w2, w3, w4, w5⟩ := hW
      have w2' : ws.length = 2 := w2
      exact k D ws H' hD w4 w5 w1 w3 (by omega)
end
def spDear (K : PySem.W.Frag) : Sp := fun vs H Q _ => ∃ (p a : Addr) (v : V) (rs : HH.Row) (w : Nat) (d : Int) (ua : List V) (n : Nat), vs = [.ref p, v, .int (w : Int), .int d, .ref a] ∧ RowAt K H v rs ∧ rs.length ≤ 30 ∧ w < rs.length ∧ 0 ≤ d ∧ (∀ b ∈ rs, 0 ≤ b.2) ∧ H a = some (.lst ua) ∧ a ≠ p ∧ Beasts K H ua (passT rs) ∧ Bx H p n ∧ n + 1000 < Lim ∧
  ∀ (q : Addr) (us : List V) (H' : Hp), H q = none → ExB p H H' → Bx H' p (n + 1000) → H' q = some (.lst us) → Beasts K H' us (passT (dearR rs w d)) → Q (.ref q) H'
end HH
set_option maxHeartbeats 4000000
namespace HH
open PySem PySem.Spec PyProof.Rows L2 Evl RZ
/-! where one stands in the end, by sums -/
def aheadP (rs : HH.Row) (w j : Nat) : Bool := if j < w then !decide (barN rs j (w - j - 1) < sS rs w) else if w < j then decide (barN rs w (j - w - 1) < sS rs j) else false
def placeN (rs : HH.Row) (w : Nat) : Nat := (List.range rs.length).countP (aheadP rs w)
theorem place_is {rs : HH.Row} {L : List Cow} {k w : Nat} (ht : ∀ b ∈ rs, 0 ≤ b.2) (st : Steps (tag 0 rs) L) (nf : Nf L) (hw : w < rs.length) (h : (L.map (·.1))[k]? = some w) : k = placeN rs w := by
  have ids := st.idsT
  have nd : (L.map (·.1)).Nodup := ids.nodup_iff.mpr List.nodup_range
  have hk := (List.getElem?_eq_some_iff.mp h).1
  have bw : ∀ x, x < rs.length → (bef (L.map (·.1)) x w = true ↔ aheadP rs w x = true) := fun x hx => by
    unfold aheadP
    by_cases c1 : x < w
    · rw [if_pos c1]
      have nv := never_iff ht st nf c1 hw
      cases hb : bef (L.map (·.1)) w x with
      | true =>
        have a := bef_asym nd hb
        have c := nv.mp hb
        rw [a, decide_eq_true c]
        constructor <;> (intro z; cases z)
      | false =>
        have a := bef_tot (ids.mem_iff.mpr (List.mem_range.mpr hw)) (ids.mem_iff.mpr (List.mem_range.mpr hx)) (by omega) hb
        have c : ¬ barN rs x (w - x - 1) < sS rs w := fun z => by
          rw [nv.mpr z] at hb
          cases hb
        rw [a, decide_eq_false c]
        exact ⟨fun _ => rfl, fun _ => rfl⟩
    · rw [if_neg c1]
      by_cases c2 : w < x
      · rw [if_pos c2]
        have nv := never_iff ht st nf c2 hx
        rw [nv, decide_eq_true_iff]
      · rw [if_neg c2]
        have e : x = w := by omega
        subst e
        constructor
        · intro z
          have := bef_asym nd z
          rw [z] at this
          cases this
        · intro z
          cases z
  have pm : ((L.map (·.1)).take k).Perm ((List.range rs.length).filter (aheadP rs w)) := by
    refine (List.perm_ext_iff_of_nodup (List.Nodup.sublist (List.take_sublist _ _) nd) (List.Pairwise.filter _ List.nodup_range)).mpr fun x => ?_
    rw [List.mem_filter, List.mem_range]
    constructor
    · intro hx
      obtain ⟨i, hi⟩ := List.getElem?_of_mem hx
      have hi2 := (List.getElem?_eq_some_iff.mp hi).1
      rw [List.length_take] at hi2
      rw [List.getElem?_take, if_pos (by omega)] at hi
      have hxl : x < rs.length := List.mem_range.mp (ids.mem_iff.mp (List.mem_of_getElem? hi))
      exact ⟨hxl, (bw x hxl).mp (bef_lt hi h (by omega))⟩
    · rintro ⟨hxl, hx⟩
      obtain ⟨p, q, hpq, hp, hq⟩ := bef_get ((bw x hxl).mpr hx)
      have := nd_at nd hq h
      refine List.mem_of_getElem? (i := p) ?_
      rw [List.getElem?_take, if_pos (by omega)]
      exact hp
  have := pm.length_eq
  rw [List.length_take, ← List.countP_eq_length_filter] at this
  unfold placeN
  omega
/-! one that is fed -/
theorem fedR_len {rs : HH.Row} {w : Nat} {d : Int} (h : w < rs.length) : (fedR rs w d).length = rs.length := putR_len h
theorem fedR_tl {rs : HH.Row} {w : Nat} {d : Int} (h : w < rs.length) (ht : ∀ x ∈ rs, 0 ≤ x.2) : ∀ x ∈ fedR rs w d, 0 ≤ x.2 := putR_tl (tS_nn ht h) ht
theorem fedR_s {rs : HH.Row} {w k : Nat} {d : Int} (h : w < rs.length) : sS (fedR rs w d) k = if k = w then sS rs w + d else sS rs k := putR_s h
theorem fedR_t {rs : HH.Row} {w k : Nat} {d : Int} (h : w < rs.length) : tS (fedR rs w d) k = tS rs k := by
  unfold fedR
  rw [putR_t h]
  by_cases e : k = w
  · rw [if_pos e, e]
  · rw [if_neg e]
theorem fed_bar {rs : HH.Row} {w j : Nat} {d : Int} (h : w < rs.length) (hj : j < w) : barN (fedR rs w d) j (w - j - 1) = barN rs j (w - j - 1) := barN_alike _ fun k hk => by
  rw [fedR_s h, fedR_t h, if_neg (by omega)]
  exact ⟨rfl, rfl⟩
theorem fed_ahead {rs : HH.Row} {w : Nat} {f g : Int} (ht : ∀ b ∈ rs, 0 ≤ b.2) (h : w < rs.length) (hfg : f ≤ g) {j : Nat} (ha : aheadP (fedR rs w g) w j = true) : aheadP (fedR rs w f) w j = true := by
  unfold aheadP at ha ⊢
  by_cases c1 : j < w
  · rw [if_pos c1, fed_bar h c1, fedR_s h, if_pos rfl] at ha ⊢
    have : ¬ barN rs j (w - j - 1) < sS rs w + g := by simpa using ha
    rw [decide_eq_false (by omega)]
    rfl
  · rw [if_neg c1] at ha ⊢
    by_cases c2 : w < j
    · rw [if_pos c2] at ha ⊢
      have h1 := of_decide_eq_true ha
      refine decide_eq_true ?_
      have := bar_mono (rs := fedR rs w f) (ss := fedR rs w g) (i := w) (j - w - 1) (by rw [fedR_s h, fedR_s h, fedR_t h, fedR_t h, if_pos rfl, if_pos rfl]; omega) fun k h1 h2 => by
        rw [fedR_s h, fedR_s h, fedR_t h, fedR_t h, if_neg (by omega), if_neg (by omega)]
        exact ⟨rfl, Int.le_refl _, tS_nn2 ht k⟩
      rw [fedR_s h, if_neg (by omega)] at h1 ⊢
      omega
    · rw [if_neg c2] at ha
      cases ha
theorem fed_place {rs : HH.Row} {w : Nat} {f g : Int} (ht : ∀ b ∈ rs, 0 ≤ b.2) (h : w < rs.length) (hfg : f ≤ g) : placeN (fedR rs w g) w ≤ placeN (fedR rs w f) w := by
  unfold placeN
  rw [fedR_len h, fedR_len h]
  exact List.countP_mono_left fun j _ ha => fed_ahead ht h hfg ha
theorem bar_tp {rs : HH.Row} (ht : ∀ b ∈ rs, 0 ≤ b.2) {i : Nat} : ∀ m, i + m < rs.length → barN rs i m ≤ sS rs i + (tp rs (i + 1 + m) - tp rs i)
  | 0, h => by
    show sS rs i + tS rs i ≤ _
    rw [show i + 1 + 0 = i + 1 by omega, tp_succ (by omega)]
    omega
  | m + 1, h => by
    have ih := bar_tp ht (i := i) m (by omega)
    have t0 := tS_nn ht (show i + 1 + m < rs.length by omega)
    rw [show i + 1 + (m + 1) = i + 1 + m + 1 by omega, tp_succ (by omega)]
    by_cases c : sS rs (i + 1 + m) ≤ barN rs i m
    · rw [barN_yes c]
      omega
    · rw [barN_no c]
      omega
theorem tsum_pos : ∀ {rs : HH.Row}, (∀ b ∈ rs, 0 ≤ b.2) → 0 ≤ tsum rs
  | [], _ => Int.le_refl 0
  | b :: r, h => by
    have h1 := h b (List.mem_cons_self ..)
    have h2 := tsum_pos (rs := r) fun x hx => h x (List.mem_cons_of_mem _ hx)
    show 0 ≤ b.2 + tsum r
    omega
theorem bar_top {rs : HH.Row} (ht : ∀ b ∈ rs, 0 ≤ b.2) {i m : Nat} (h : i + m < rs.length) : barN rs i m ≤ sS rs i + tsum rs := by
  have h1 := bar_tp ht m h
  have h2 : 0 ≤ tp rs i := tsum_pos fun b hb => ht b (List.mem_of_mem_take hb)
  have h3 : tsum rs = tp rs (i + 1 + m) + tsum (rs.drop (i + 1 + m)) := by
    have := tsum_app (rs.take (i + 1 + m)) (rs.drop (i + 1 + m))
    rw [List.take_append_drop] at this
    exact this
  have h4 : 0 ≤ tsum (rs.drop (i + 1 + m)) := tsum_pos fun b hb => ht b (List.mem_of_mem_drop hb)
  omega
theorem bar_low {rs : HH.Row} (ht : ∀ b ∈ rs, 0 ≤ b.2) {i : Nat} : ∀ m, sS rs i + tS rs i ≤ barN rs i m
  | 0 => Int.le_refl _
  | m + 1 => by
    have ih := bar_low ht (i := i) m
    have t0 := tS_nn2 ht (i + 1 + m)
    by_cases c : sS rs (i + 1 + m) ≤ barN rs i m
    · rw [barN_yes c]
      omega
    · rw [barN_no c]
      exact ih
/-- fed so much, it stands at the front -/
theorem fed_front {rs : HH.Row} {w : Nat} {f top : Int} (ht : ∀ b ∈ rs, 0 ≤ b.2) (h : w < rs.length) (hs : ∀ k, k < rs.length → sS rs k ≤ top) (hf : top + tsum rs + 1 ≤ sS rs w + f) : placeN (fedR rs w f) w = 0 := by
  unfold placeN
  rw [List.countP_eq_zero, fedR_len h]
  intro j hj
  have hj := List.mem_range.mp hj
  have ts := tsum_pos ht
  unfold aheadP
  by_cases c1 : j < w
  · rw [if_pos c1, fed_bar h c1, fedR_s h, if_pos rfl]
    have h1 := bar_top ht (i := j) (m := w - j - 1) (by omega)
    have h2 := hs j hj
    rw [decide_eq_true (by omega)]
    decide
  · rw [if_neg c1]
    by_cases c2 : w < j
    · rw [if_pos c2]
      have h1 := bar_low (fedR_tl (d := f) h ht) (i := w) (j - w - 1)
      rw [fedR_s h, fedR_t h, if_pos rfl] at h1
      rw [fedR_s h, if_neg (by omega), decide_eq_false]
      · decide
      · have h2 := hs j hj
        have h3 := tS_nn ht h
        omega
    · rw [if_neg c2]
      decide
/-! promises -/
def spPlace (K : PySem.W.Frag) : Sp := fun vs H Q _ => ∃ (v : V) (rs : HH.Row) (w : Nat), vs = [v, .int (w : Int)] ∧ RowAt K H v rs ∧ rs.length ≤ 1000 ∧ w < rs.length ∧ (∀ b ∈ rs, 0 ≤ b.2) ∧ RetV (.int (placeN rs w : Int)) H Q
def spFront (K : PySem.W.Frag) : Sp := fun vs H Q _ => ∃ (v : V) (rs : HH.Row) (w : Nat), vs = [v, .int (w : Int)] ∧ RowAt K H v rs ∧ rs.length ≤ 1000 ∧ w < rs.length ∧ (∀ b ∈ rs, 0 ≤ b.2) ∧ ∀ (F : Int) (H' : Hp), Ex H H' → 0 ≤ F → (∀ f, F ≤ f → placeN (fedR rs w f) w = 0) → Q (.int F) H'
structure LeastF (rs : HH.Row) (w k : Nat) (F : Int) : Prop where
  nn : 0 ≤ F
  at' : placeN (fedR rs w F) w ≤ k
  no : ∀ f, 0 ≤ f → f < F → k < placeN (fedR rs w f) w
def spLeastF (K : PySem.W.Frag) : Sp := fun vs H Q _ => ∃ (v : V) (rs : HH.Row) (w k : Nat), vs = [v, .int (w : Int), .int (k : Int)] ∧ RowAt K H v rs ∧ rs.length ≤ 1000 ∧ w < rs.length ∧ (∀ b ∈ rs, 0 ≤ b.2) ∧ ∀ (F : Int) (H' : Hp), Ex H H' → LeastF rs w k F → Q (.int F) H'
theorem LeastF.one {rs : HH.Row} {w k : Nat} {F G : Int} (a : LeastF rs w k F) (b : LeastF rs w k G) : F = G := by
  rcases Int.lt_trichotomy F G with h | h | h
  · have := b.no F a.nn h
    have := a.at'
    omega
  · exact h
  · have := a.no G b.nn h
    have := b.at'
    omega
end HH
set_option maxHeartbeats 4000000
namespace HH
open PySem PySem.Spec PyProof.Rows L2 Evl RZ
/-! beasts with their names, three by three -/
def CowAt (H : Hp) (v : V) (c : Cow) : Prop := ∃ p, v = .ref p ∧ H p = some (.tup [.int (c.1 : Int), .int c.2.1, .int c.2.2])
theorem CowAt.ex {H H' : Hp} {v : V} {c : Cow} (h : CowAt H v c) (e : Ex H H') : CowAt H' v c := by
  obtain ⟨p, rfl, hp⟩ := h
  exact ⟨p, rfl, e _ _ hp⟩
theorem CowAt.ls {H : Hp} {v : V} {c : Cow} {D : Addr} {xs ys : List V} (h : CowAt H v c) (hD : H D = some (.lst xs)) : CowAt (upd H D (.lst ys)) v c := by
  obtain ⟨p, rfl, hp⟩ := h
  refine ⟨p, rfl, ?_⟩
  rw [upd_ne (ne_of hp hD fun z => nomatch z)]
  exact hp
theorem All2.split {α : Type} {R : V → α → Prop} : ∀ {A B : List α} {us : List V}, All2 R us (A ++ B) → ∃ u1 u2, us = u1 ++ u2 ∧ All2 R u1 A ∧ All2 R u2 B
  | [], B, us, h => ⟨[], us, rfl, .nil, h⟩
  | a :: A, B, _, .cons r h => by
    obtain ⟨u1, u2, rfl, h1, h2⟩ := All2.split (A := A) h
    exact ⟨_ :: u1, u2, rfl, .cons r h1, h2⟩
section
variable {K : PySem.W.Frag} {σ : L2.St} {H : Hp} {tl : TE} {D : Ends} {tz tu : TS} {g : TG}
theorem q_forEvT {xs : List V} {c : Addr} (h : Ev tl σ H (.ref c)) (hx : SqT K H c xs) (Pv : Nat → L2.St → Hp → Prop) (h0 : ∀ H1, Ex H H1 → Pv 0 σ H1) (hl : ∀ i σ' H', i ≤ xs.length → Pv i σ' H' → SqT K H' c xs)
    (hs : ∀ i x σ' H' T, xs[i]? = some x → Pv i σ' H' → H' T = none → g (.ref T) σ' (upd H' T (.tup [.int (i : Nat), x])) fun σ2 H2 => tu { D with nx := Pv (i + 1), ct := Pv (i + 1), bk := tz D } σ2 H2) (hd : ∀ σ' H', Pv xs.length σ' H' → tz D σ' H') : tSeq (tFor (iEnumT K (tCons tl tNil)) g tu) tz D σ H :=
  h H (Ex.refl H) _ fun H1 e => ⟨c, xs, rfl, ex_t e hx, for_it (walk_enumT (xs := xs)) (D := { D with nx := tz D }) Pv (h0 H1 e) hl (fun i x σ' H' H2 hi p y => by
    obtain ⟨T, u, z, rfl, nT, rfl, hu, hz⟩ := y
    cases hu
    exact hs i z σ' H' T hz p nT) hd⟩
end
theorem cb_run {r : List V → Hp → VK → Prop} {te : TE} {σ : L2.St} {H : Hp} {xs : List V} {Q : VK} (h : EvL te σ H xs) (k : ∀ p H1, H p = none → Ex H H1 → H1 p = some (.lst xs) → r [.ref p] H1 Q) : tCB r (tCons te tNil) σ H Q := h H (Ex.refl H) _ k
theorem ret_bm {K : PySem.W.Frag} {T : String} {r : V → List V → Hp → VK → Prop} {te : TE} {ta : TA} {σ : L2.St} {H : Hp} {xs : List V} {D : Ends} (h : EvL te σ H xs) (k : ∀ p H1, H p = none → Ex H H1 → H1 p = some (.lst xs) → tyV K T (.ref p) H1 ∧ ta σ H1 fun ys H2 => r (.ref p) ys H2 D.rt) : tRet (tBM K T r te ta) D σ H := h H (Ex.refl H) _ k
def spSmall (K : PySem.W.Frag) : Sp := fun vs H Q _ => ∃ (p : Addr) (n : Nat), vs = [.ref p] ∧ Bx H p n ∧ n + 20 < Lim ∧ ∀ v H' (rs : HH.Row), ExB p H H' → Bx H' p (n + 20) → RowAt K H' v rs → 2 ≤ rs.length → rs.length ≤ 8 → (∀ b ∈ rs, 0 ≤ b.1 ∧ b.1 ≤ 40 ∧ 0 ≤ b.2 ∧ b.2 ≤ 40) → Q v H'
section
variable {K : PySem.W.Frag} {σ : L2.St} {H : Hp} {te te2 : TE} {t : TT} {v : V}
/-- [f(beast) for beast in row] -/
theorem el_rowI {j : Nat} {vs : List Nat} {rs : HH.Row} (f : Int × Int → Int) (h : Ev te σ H v) (hr : RowAt K H v rs) (hl : rs.length ≤ 1000) (hw : ∀ x, wipe ((wipe σ vs).set j (some x)) vs = wipe σ vs)
    (he : ∀ (b : Int × Int) (x : V) H1, Ex H H1 → BeastAt K H1 x b → b ∈ rs → Ev te2 ((wipe σ vs).set j (some x)) H1 (.int (f b))) : EvL (tLc (iTup K te) (gName j) tYes te2 vs) σ H ((rs.map f).map V.int) := fun H0 e0 Q q => by
  obtain ⟨a, us, rfl, ha, bs⟩ := hr
  refine h H0 e0 _ fun H1 e1 => ⟨a, rfl, ⟨us, ex_t (e0.trans e1) ha⟩, fun D hD => ?_⟩
  have e01 := e0.trans e1
  refine in_it (walk_tup (xs := us)) (fun k H2 => Ex H1 H2 ∧ H2 D = some (.lst (((rs.take k).map f).map V.int))) ⟨Ex.new hD, upd_same⟩ (fun k H2 _ p => ex_t (e01.trans p.1) ha) (fun k x H2 H3 hk p y => ?_) (fun H2 p => ?_)
  · obtain ⟨rfl, hx⟩ := y
    obtain ⟨p1, p2⟩ := p
    obtain ⟨b, hb, rb⟩ := (beasts_2 bs).get hx
    refine ⟨hw _, t_yes ?_⟩
    refine (he b x _ (e01.trans p1) (rb.ex (e01.trans p1)) (List.mem_of_getElem? hb)) _ (Ex.refl _) _ fun H4 e4 => ?_
    refine ⟨_, e4 _ _ p2, sz_lt (by rw [List.length_map, List.length_map, List.length_take]; omega), Ex.mut (p1.trans e4) hD, ?_⟩
    rw [upd_same, List.take_add_one, hb, List.map_append, List.map_append]
    rfl
  · obtain ⟨p1, p2⟩ := p
    rw [bs.1, List.take_length] at p2
    exact q D H2 (fresh_back e1 hD) (e1.trans p1) p2
/-- [i for i, x in enumerate(xs) if t] -/
theorem el_enumF {i1 i2 : Nat} {vs : List Nat} {l : List Nat} {a : Addr} (f : Nat → Bool) (h : Ev te σ H (.ref a)) (ha : H a = some (.lst (natsV l))) (hl : l.length ≤ 40000) (hw : ∀ x y, wipe (((wipe σ vs).set i1 (some x)).set i2 (some y)) vs = wipe σ vs) (c1 : ∀ x y : V, (((wipe σ vs).set i1 (some x)).set i2 (some y))[i1]? = some (some x))
    (ht : ∀ (k x : Nat) H1, Ex H H1 → l[k]? = some x → EvT t (((wipe σ vs).set i1 (some (.int (k : Int)))).set i2 (some (.int (x : Int)))) H1 (f k)) : EvL (tLc (iEnum K (tCons te tNil)) (gTup K 2 (gCons (gName i1) (gCons (gName i2) gNil))) t (tVar i1) vs) σ H (given l.length f (fun k => .int (k : Int))) := fun H0 e0 Q q => by
  refine h H0 e0 _ fun H1 e1 => ⟨a, natsV l, rfl, sq_of ((e0.trans e1) _ _ ha), fun D hD => ?_⟩
  have e01 := e0.trans e1
  have ln : (natsV l).length = l.length := natsV_len l
  refine in_it (walk_enum (xs := natsV l)) (fun k H2 => Ex H1 H2 ∧ H2 D = some (.lst (given k f (fun k => .int (k : Int))))) ⟨Ex.new hD, upd_same⟩ (fun k H2 _ p => sq_of ((e01.trans p.1) _ _ ha)) (fun k x H2 H3 hk p y => ?_) (fun H2 p => ?_)
  · obtain ⟨T, u, z, rfl, nT, rfl, hu, hz⟩ := y
    cases hu
    obtain ⟨p1, p2⟩ := p
    have hk' : k < l.length := by omega
    have hz : (natsV l)[k]? = some z := hz
    rw [natsV_at (List.getElem?_eq_getElem hk')] at hz
    cases hz
    have n1 := Ex.new (o := .tup [V.int (k : Nat), .int (l[k] : Int)]) nT
    refine ⟨T, _, rfl, st_of upd_same, rfl, _, _, rfl, _, _, rfl, rfl, hw _ _, ?_⟩
    refine t_ev (ht k _ _ ((e01.trans p1).trans n1) (List.getElem?_eq_getElem hk')) fun H4 e4 => ?_
    cases c : f k with
    | true =>
      refine ⟨_, c1 _ _, _, e4 _ _ (n1 _ _ p2), sz_lt (by have := given_len k f (fun k => V.int (k : Int)); omega), Ex.mut ((p1.trans n1).trans e4) hD, ?_⟩
      rw [upd_same, given_yes c]
    | false =>
      refine ⟨(p1.trans n1).trans e4, ?_⟩
      rw [given_no c]
      exact e4 _ _ (n1 _ _ p2)
  · obtain ⟨p1, p2⟩ := p
    rw [ln] at p2
    exact q D H2 (fresh_back e1 hD) (e1.trans p1) p2
theorem first_in {n m : Nat} {f : Nat → Bool} (hm : m < n) (fm : f m = true) : ∃ (k : Nat) (r : List V), given n f (fun k => .int (k : Int)) = V.int (k : Int) :: r ∧ k < n ∧ f k = true ∧ ∀ j, j < k → f j = false := by
  unfold given
  have mem : m ∈ (List.range n).filter f := List.mem_filter.mpr ⟨List.mem_range.mpr hm, fm⟩
  have pw : ((List.range n).filter f).Pairwise (· < ·) := List.Pairwise.filter _ List.pairwise_lt_range
  cases e : (List.range n).filter f with
  | nil =>
    rw [e] at mem
    cases mem
  | cons k r =>
    rw [e] at pw
    have hk : k ∈ (List.range n).filter f := by rw [e]; exact List.mem_cons_self ..
    obtain ⟨h1, h2⟩ := List.mem_filter.mp hk
    refine ⟨k, r.map fun (k : Nat) => .int (k : Int), rfl, List.mem_range.mp h1, h2, fun j hj => ?_⟩
    cases c : f j with
    | false => rfl
    | true =>
      have hj' : j ∈ (List.range n).filter f := List.mem_filter.mpr ⟨List.mem_range.mpr (by have := List.mem_range.mp h1; omega), c⟩
      rw [e] at hj'
      rcases List.mem_cons.mp hj' with h | h
      · omega
      · have := (List.pairwise_cons.mp pw).1 j h
        omega
end
/-- xs != sorted(xs)[::-1], xs that fall or stay -/
theorem et_fallen {K : PySem.W.Frag} {σ : L2.St} {H : Hp} {i : Nat} {a : Addr} {ns : List Int} (s : σ[i]? = some (some (.ref a))) (ha : H a = some (.lst (ns.map V.int))) (pw : ns.Pairwise (fun x y => y ≤ x)) : EvT (tTest (tOp (rNeD K) (tVar i) (tRevL K (tCB (rSortedI K) (tCons (tVar i) tNil))))) σ H false := fun H1 e1 Q q => by
  refine ⟨_, s, _, s, a, ns, rfl, sq_of (e1 _ _ ha), fun ns' p pm srt hp => ⟨p, _, rfl, sq_of upd_same, fun p2 hp2 => ?_⟩⟩
  have e : ns' = ns.reverse := by
    refine sorted_same (pm.trans (List.reverse_perm ns).symm) srt ?_
    rw [List.pairwise_reverse]
    exact pw
  have er : (ns'.map V.int).reverse = ns.map V.int := by rw [e, ← List.map_reverse, List.reverse_reverse]
  rw [er]
  have n1 := Ex.new (o := .lst (ns'.map V.int)) hp
  have n2 := Ex.new (o := .lst (ns.map V.int)) hp2
  have z : ∀ c : Addr, (upd (upd H1 p (.lst (ns'.map V.int))) p2 (.lst (ns.map V.int))) c = some (.lst (ns.map V.int)) → Dp K (upd (upd H1 p (.lst (ns'.map V.int))) p2 (.lst (ns.map V.int))) (.ref c) (.list (ns.map PyData.int)) := fun c hc => .lst (sq_of hc) (dp_ints ns)
  refine ⟨.list (ns.map PyData.int), .list (ns.map PyData.int), z a ((n1.trans n2) _ _ (e1 _ _ ha)), z p2 upd_same, (nice_list (nice_ints ns)).shaped (by decide), (nice_list (nice_ints ns)).shaped (by decide), _, rfl, ?_⟩
  rw [SeqAt.eqv_refl _ (nice_list (nice_ints ns)).1]
  exact q _ (n1.trans n2)
end HH
set_option maxHeartbeats 4000000
namespace HH
open PySem PySem.Spec PyProof.Rows L2 Evl RZ
theorem cr_sortedPTK {X : Cx} {K : PySem.W.Frag} (h : X.K = K := by rfl) : CallR X (.builtin "sorted") (rSortedPT K) := by
  subst h
  exact cr_sortedPT
/-! one is fed: who passes whom -/
theorem bar_anti {rs ss : HH.Row} {i : Nat} : ∀ m, sS rs i + tS rs i = sS ss i + tS ss i → (∀ k, i < k → k ≤ i + m → sS rs k ≤ sS ss k ∧ tS rs k = tS ss k ∧ 0 ≤ tS ss k) → barN ss i m ≤ barN rs i m
  | 0, h, _ => by
    show sS ss i + tS ss i ≤ sS rs i + tS rs i
    omega
  | m + 1, h, hk => by
    have ih := bar_anti m h fun k h1 h2 => hk k h1 (by omega)
    obtain ⟨e1, e2, e3⟩ := hk (i + 1 + m) (by omega) (by omega)
    by_cases c : sS rs (i + 1 + m) ≤ barN rs i m
    · rw [barN_yes c]
      by_cases c2 : sS ss (i + 1 + m) ≤ barN ss i m
      · rw [barN_yes c2]
        omega
      · rw [barN_no c2]
        omega
    · rw [barN_no c, barN_no (by omega)]
      exact ih
theorem fed_keep {rs : HH.Row} {w : Nat} {d : Int} (ht : ∀ b ∈ rs, 0 ≤ b.2) (hw : w < rs.length) (hd : 0 ≤ d) {x : Int × Int} (hx : x ∈ passT rs) (ne : x.1 ≠ (w : Int)) : x ∈ passT (fedR rs w d) := by
  obtain ⟨i, j, h1, h2, rfl, h4⟩ := mem_passT.mp hx
  have ni : i ≠ w := fun z => ne (by show (i : Int) = (w : Int); omega)
  have ge : ∀ k, sS rs k ≤ sS (fedR rs w d) k := fun k => by
    rw [fedR_s hw]
    by_cases e : k = w
    · rw [if_pos e, e]
      omega
    · rw [if_neg e]
      exact Int.le_refl _
  refine mem_passT.mpr ⟨i, j, h1, by rw [fedR_len hw]; exact h2, rfl, ?_⟩
  have := bar_anti (rs := rs) (ss := fedR rs w d) (i := i) (j - i - 1) (by rw [fedR_s hw, fedR_t hw, if_neg ni]) fun k _ _ => ⟨ge k, (fedR_t hw).symm, by rw [fedR_t hw]; exact tS_nn2 ht k⟩
  have := ge j
  omega
theorem fed_sub {rs : HH.Row} {w : Nat} {d : Int} (ht : ∀ b ∈ rs, 0 ≤ b.2) (hw : w < rs.length) (hd : 0 ≤ d) {x : Int × Int} (hx : x ∈ passT (fedR rs w d)) (ex : x.1 = (w : Int)) : x ∈ passT rs := by
  obtain ⟨i, j, h1, h2, rfl, h4⟩ := mem_passT.mp hx
  have ei : i = w := by
    have : (i : Int) = (w : Int) := ex
    omega
  subst ei
  rw [fedR_len hw] at h2
  refine mem_passT.mpr ⟨i, j, h1, h2, rfl, ?_⟩
  have := bar_mono (rs := rs) (ss := fedR rs i d) (i := i) (j - i - 1) (by rw [fedR_s hw, fedR_t hw, if_pos rfl]; omega) fun k h1 _ => by
    rw [fedR_s hw, fedR_t hw, if_neg (by omega)]
    exact ⟨rfl, Int.le_refl _, tS_nn2 ht k⟩
  rw [fedR_s hw, if_neg (by omega)] at h4
  omega
theorem fed_same {rs : HH.Row} {w : Nat} {d : Int} (ht : ∀ b ∈ rs, 0 ≤ b.2) (hw : w < rs.length) {x : Int × Int} (h : x.2 < (w : Int) ∨ (w : Int) < x.1) : x ∈ passT (fedR rs w d) ↔ x ∈ passT rs := by
  rw [mem_passT, mem_passT, fedR_len hw]
  have key : ∀ i j : Nat, i < j → x = ((i : Int), (j : Int)) → barN (fedR rs w d) i (j - i - 1) = barN rs i (j - i - 1) ∧ sS (fedR rs w d) j = sS rs j := fun i j hij e => by
    subst e
    have h' : j < w ∨ w < i := by
      rcases h with h | h
      · left
        have : (j : Int) < (w : Int) := h
        omega
      · right
        have : (w : Int) < (i : Int) := h
        omega
    have eq : ∀ k, i ≤ k → k ≤ j → sS (fedR rs w d) k = sS rs k ∧ tS (fedR rs w d) k = tS rs k := fun k h1 h2 => by
      rw [fedR_s hw, fedR_t hw, if_neg (by omega)]
      exact ⟨rfl, rfl⟩
    obtain ⟨a1, a2⟩ := eq i (Nat.le_refl _) (by omega)
    refine ⟨Int.le_antisymm ?_ ?_, (eq j (by omega) (Nat.le_refl _)).1⟩
    · refine bar_mono _ (by omega) fun k h1 h2 => ?_
      obtain ⟨b1, b2⟩ := eq k (by omega) (by omega)
      exact ⟨b1, by omega, tS_nn2 ht k⟩
    · refine bar_mono _ (by omega) fun k h1 h2 => ?_
      obtain ⟨b1, b2⟩ := eq k (by omega) (by omega)
      exact ⟨b1.symm, by omega, by rw [b2]; exact tS_nn2 ht k⟩
  constructor
  · rintro ⟨i, j, h1, h2, h3, h4⟩
    obtain ⟨k1, k2⟩ := key i j h1 h3
    exact ⟨i, j, h1, h2, h3, by rw [← k1, ← k2]; exact h4⟩
  · rintro ⟨i, j, h1, h2, h3, h4⟩
    obtain ⟨k1, k2⟩ := key i j h1 h3
    exact ⟨i, j, h1, h2, h3, by rw [k1, k2]; exact h4⟩
theorem fedR_back {rs : HH.Row} {w : Nat} {d : Int} (hw : w < rs.length) : fedR (fedR rs w d) w (0 - d) = rs := by
  refine List.ext_getElem? fun k => ?_
  have hw' : w < (fedR rs w d).length := by rw [fedR_len hw]; exact hw
  have e1 : fedR (fedR rs w d) w (0 - d) = putR (fedR rs w d) w (sS (fedR rs w d) w + (0 - d), tS (fedR rs w d) w) := rfl
  rw [e1, putR_get hw']
  by_cases e : k = w
  · rw [if_pos e, e, row_get hw, fedR_s hw, fedR_t hw, if_pos rfl, show sS rs w + d + (0 - d) = sS rs w by omega]
  · rw [if_neg e]
    unfold fedR
    rw [putR_get hw, if_neg e]
def spFedRight (K : PySem.W.Frag) : Sp := fun vs H Q _ => ∃ (p a : Addr) (v : V) (rs ps : HH.Row) (w : Nat) (d : Int) (ua : List V) (n : Nat), vs = [.ref p, v, .int (w : Int), .int d, .ref a] ∧ RowAt K H v rs ∧ rs.length ≤ 30 ∧ w < rs.length ∧ 0 ≤ d ∧ (∀ b ∈ rs, 0 ≤ b.2) ∧ H a = some (.lst ua) ∧ a ≠ p ∧ Beasts K H ua ps ∧ ps.Perm (passT rs) ∧ Bx H p n ∧ n + 1000 < Lim ∧
  ∀ H', ExB p H H' → Bx H' p (n + 1000) → Q (.bl true) H'
/-- what is filtered of both, sorted, is one -/
theorem filt_perm {ps qs : HH.Row} {f : Int × Int → Bool} (h : ps.Perm qs) : (ps.filter f).Perm (qs.filter f) := List.Perm.filter f h
theorem tup2_run {R : PrT} {ta tb : TE} {σ : L2.St} {H : Hp} {ps : HH.Row} {Q : VK} (h : EvPr R ta σ H ps) (k : ∀ (c : Addr) (us : List V) (H1 : Hp), H c = none → Ex H H1 → H1 c = some (.lst us) → All2 (R H1) us ps → tb σ H1 fun y H2 => 2 ≤ sizeLine ∧ ∀ p, H2 p = none → Q (.ref p) (upd H2 p (.tup [.ref c, y]))) : tTup (tCons ta (tCons tb tNil)) σ H Q := h H (Ex.refl H) _ k
theorem miss_perm {l ps qs : HH.Row} (h : ps.Perm qs) : (l.filter fun x => !decide (x ∈ ps)) = missF l qs := by
  unfold missF
  refine List.filter_congr fun x _ => ?_
  congr 1
  rw [decide_eq_decide]
  exact h.mem_iff
theorem EndAt.ne {K : PySem.W.Frag} {H H' : Hp} {p q ot lp : Addr} {v' : V} {pvs : List V} {L : List Cow} {ps : HH.Row} {n : Nat} (E : EndAt K H H' p q v' ot lp pvs L ps n) : lp ≠ p := fun z => by
  have a := E.lst
  have c := E.prs
  obtain ⟨x, y, z', e, _⟩ := E.bx
  rw [z, e] at a
  cases a
  match ps, c with
  | [], c => exact absurd c.1 (by simp)
  | b0 :: _, c =>
    obtain ⟨u, hu, pp, rfl, _⟩ := c.2 0 b0 rfl
    cases hu
theorem run_perm {rs : HH.Row} {L : List Cow} {ps : HH.Row} (ht : ∀ b ∈ rs, 0 ≤ b.2) (r : PRun (tag 0 rs) L ps) (nil : HH.passL (rowsOf L) = []) : ps.Perm (passT rs) := by
  have := told_tab (r.told ht).1 (ids_lt (rs := rs) r.steps.idsT (Nat.le_refl _))
  rw [tab_passT ht r.steps (nf_of nil)] at this
  exact this
end HH
set_option maxHeartbeats 4000000
namespace HH
open PySem PySem.Spec PyProof.Rows L2 Evl RZ
section
variable {K : PySem.W.Frag} {σ : L2.St} {H : Hp} {ta : TE} {E : XK} {v : V}
/-- last(row)[1].index(who) -/
theorem ev_place {rs : HH.Row} {iw wh : Nat} (h : EvR K ta σ H rs) (hl : rs.length ≤ 1000) (ht : ∀ b ∈ rs, 0 ≤ b.2) (hi : wh < rs.length) (s : σ[iw]? = some (some (.int (wh : Int)))) :
    Ev (tBMF (rTIdx K) (tOp (rIxT K) (tCall (spLastF K) [] E (tCons ta tNil)) (tC (.int 1))) (tCons (tVar iw) tNil)) σ H (.int (placeN rs wh : Int)) := fun H1 e1 Q q => by
  refine h H1 e1 _ fun v H2 e2 hv => ⟨v, rs, rfl, hv, hl, ht, fun qa H3 L e3 la st nf => ?_⟩
  obtain ⟨v2, ot, ob, a1, a2, a3, plain⟩ := la.ex
  have ids := st.idsT
  have nd : (L.map (·.1)).Nodup := ids.nodup_iff.mpr List.nodup_range
  obtain ⟨j, hj⟩ := List.getElem?_of_mem (ids.mem_iff.mpr (List.mem_range.mpr hi))
  have ho : SqT K H3 ot (natsV (L.map (·.1))) := by
    rw [← ordL_nats]
    exact .inl (.inr ⟨ob, a3⟩)
  refine ⟨qa, _, 1, .ref ot, rfl, rfl, st_of a1, rfl, ?_⟩
  refine ⟨⟨ot, ob, _, rfl, a3, plain⟩, .int (wh : Int), s, ot, (L.map (·.1)).map fun (k : Nat) => (k : Int), (wh : Int), j, rfl, rfl, ?_, ?_, fun m hm => ?_, ?_⟩
  · rw [← natsV_ints]
    exact ho
  · rw [List.getElem?_map, hj]
    rfl
  · intro z
    rw [List.getElem?_map] at z
    obtain ⟨y, hy, ey⟩ := Option.map_eq_some_iff.mp z
    have ey' : y = wh := by omega
    subst ey'
    have := nd_at nd hy hj
    omega
  · rw [place_is ht st (nfr_nf nf) hi hj]
    exact q H3 (e2.trans e3)
theorem er_fed {rs : HH.Row} {iv iw id wh : Nat} {d : Int} (s0 : σ[iv]? = some (some v)) (s1 : σ[iw]? = some (some (.int (wh : Int)))) (s2 : σ[id]? = some (some (.int d))) (hv : RowAt K H v rs) (hl : rs.length ≤ 1000) (hw : wh < rs.length) : EvR K (tCall (spFed K) [] E (tCons (tVar iv) (tCons (tVar iw) (tCons (tVar id) tNil)))) σ H (fedR rs wh d) := fun H1 e1 Q q =>
  ⟨v, s0, _, s1, _, s2, v, rs, wh, d, rfl, hv.ex e1, hl, hw, fun z H2 e2 hz => q z H2 e2 hz⟩
end
end HH
set_option maxHeartbeats 4000000
namespace HH
open PySem PySem.Spec PyProof.Rows L2 Evl RZ
/-! tuple * n, n from 1 -/
theorem mul_once (l : Addr) (its : Array Value) (m : Nat) (dc : Option Addr) (sl : Array (Option Value)) (u : Tok) :
    Meets (Builtin.«tuple.__mul__» ⟨[.ref l, .int 1 u], []⟩) (fun _ R s => s.heap.get? l = some { cls := .type "tuple", dict := dc, data := .seq its m, slots := sl } ∧ R (.ok (.ret (.ref l))) s) :=
  .of_wp fun prog w A R s h => by
    obtain ⟨hp, g, d, tk, os⟩ := s
    obtain ⟨hl, h⟩ := h
    have f1 := AutoSeq1.idx_int
    wp_walk using wpAny_loadPart' hl
    exact ⟨_, rfl, h⟩
def rOnce (K : PySem.W.Frag) : R2 := fun x y H Q => ∃ l xs, x = .ref l ∧ y = .int 1 ∧ SqT K H l xs ∧ Q (.ref l) H
theorem op_once {X : Cx} : OpR X (binaryOp .Mult) (rOnce X.K) := by
  intro held st τ G x y v u Q I rx ry h
  obtain ⟨l, xs, rfl, rfl, hT, q⟩ := h
  cases rx
  obtain ⟨t, rfl⟩ := ry
  obtain ⟨its, r, ⟨ob, ho, hc, m, hd⟩, _⟩ := I.tuple hT
  obtain ⟨cl, dc, da, sl⟩ := ob
  dsimp only at hc hd
  subst hc hd
  have ty : st.TypeIs (.ref l) "tuple" := ⟨_, ho, rfl⟩
  refine wpAny_binaryOp_repeat_ref (T := "tuple") (U := "int") (by decide) ty (fun s' => typeIs_int s' 1 t) noFill_tuple_mul F.fills_int_mul F.slot_int_rmul repeat_tuple F.slot_int_index.lookup ?_
  refine call_meets F.slot_int_rmul (typeIs_int st 1 t) F.entry_int_rmul (F.args_int_rmul_2 _ _) (int_rmul_tuple 1 t l its.toArray m dc sl) ⟨ho, rfl, ty, ?_⟩
  refine call_meets F.slot_tuple_mul ty F.entry_tuple_mul (F.args_tuple_mul_2 _ _) (mul_once l its.toArray m dc sl t) ⟨ho, ?_⟩
  exact ⟨.ref l, G, I, rfl, q⟩
def rRepA (K : PySem.W.Frag) : R2 := fun x y H Q => rOnce K x y H Q ∨ rRepT K x y H Q
theorem op_repA {X : Cx} : OpR X (binaryOp .Mult) (rRepA X.K) := by
  intro held st τ G x y v u Q I rx ry h
  rcases h with h | h
  · exact op_once held st τ G x y v u Q I rx ry h
  · exact op_repT held st τ G x y v u Q I rx ry h
theorem rep_row {K : PySem.W.Frag} {H : Hp} {v : V} {b : Int × Int} {n : Nat} {Q : VK} (hv : RowAt K H v [b]) (h0 : 0 < n) (hn : n ≤ 1000) (q : ∀ z H', Ex H H' → RowAt K H' z (List.replicate n b) → Q z H') : rRepA K v (.int (n : Int)) H Q := by
  obtain ⟨a, us, rfl, ha, bs⟩ := hv
  by_cases h1 : n = 1
  · subst h1
    exact .inl ⟨a, us, rfl, rfl, ha, q _ H (Ex.refl H) ⟨a, us, rfl, ha, bs⟩⟩
  · obtain ⟨u, rfl⟩ : ∃ u, us = [u] := by
      match us, bs.1 with
      | [u], _ => exact ⟨u, rfl⟩
    refine .inr ⟨a, (n : Int), [u], rfl, rfl, ha, (by simp), by omega, by omega, by show 1 ≤ 1000; decide, fun p hp => ?_⟩
    have e : (List.replicate (n : Int).toNat [u]).flatten = List.replicate n u := by
      rw [show (n : Int).toNat = n by omega, List.flatten_replicate_singleton]
    rw [e]
    have np := Ex.new (o := .tup (List.replicate n u)) hp
    refine q _ _ np ⟨p, _, rfl, st_of upd_same, ?_⟩
    obtain ⟨bu, hb1⟩ := bs
    obtain ⟨u', hu', hbe⟩ := hb1 0 b rfl
    cases hu'
    refine ⟨by rw [List.length_replicate, List.length_replicate], fun i c hc => ?_⟩
    rw [List.getElem?_replicate] at hc
    by_cases hi : i < n
    · rw [if_pos hi] at hc
      cases hc
      exact ⟨u, by rw [List.getElem?_replicate, if_pos hi], hbe.ex np⟩
    · rw [if_neg hi] at hc
      cases hc
end HH
set_option maxHeartbeats 4000000
namespace HH
open PySem PySem.Spec PyProof.Rows L2 Evl RZ
/-! ends of rows put together: a row leads to another, two rows lead to one -/
def Lk (a e : HH.Row) : Prop := ∃ M, Steps (tag 0 a) M ∧ rowsOf M = e
theorem Lk.rfl' (a : HH.Row) : Lk a a := ⟨tag 0 a, .refl _, tag_snd 0 a⟩
theorem lk_of {L E : List Cow} (h : Steps L E) : Lk (rowsOf L) (rowsOf E) := by
  obtain ⟨M0, s, e⟩ := Steps.unmap (f := HH.ixN (L.map (·.1))) h (rl_tag L).symm
  exact ⟨M0, s, by rw [e, rl_rows]⟩
theorem Lk.of_tag {k : Nat} {a : HH.Row} {E : List Cow} (h : Steps (tag k a) E) : Lk a (rowsOf E) := by
  have z := lk_of h
  rwa [show rowsOf (tag k a) = a from tag_snd k a] at z
theorem Lk.trans {a b c : HH.Row} (h : Lk a b) (g : Lk b c) : Lk a c := by
  obtain ⟨M, s, rfl⟩ := h
  obtain ⟨N, t, rfl⟩ := g
  have t' := t.map (HH.ixN (M.map (·.1)))
  rw [rl_tag] at t'
  exact ⟨_, s.trans t', rl_rows _ _⟩
theorem rowsOf_app (L M : List Cow) : rowsOf (L ++ M) = rowsOf L ++ rowsOf M := List.map_append
theorem Lk.under {a e : HH.Row} (p q : HH.Row) (h : Lk a e) : Lk (p ++ a ++ q) (p ++ e ++ q) := by
  obtain ⟨M, s, rfl⟩ := h
  have s1 := (s.map (p.length + ·)).under (tag 0 p) (tag (p.length + a.length) q)
  rw [← tag_rl 0 p.length, Nat.add_zero] at s1
  refine ⟨tag 0 p ++ rlL (p.length + ·) M ++ tag (p.length + a.length) q, ?_, ?_⟩
  · rw [tag_app, tag_app, Nat.zero_add, Nat.zero_add, List.length_append]
    exact s1
  · rw [rowsOf_app, rowsOf_app, rl_rows, show rowsOf (tag 0 p) = p from tag_snd 0 p, show rowsOf (tag (p.length + a.length) q) = q from tag_snd _ q]
theorem Lk.app {a e b f : HH.Row} (h : Lk a e) (g : Lk b f) : Lk (a ++ b) (e ++ f) := by
  have h1 := h.under [] b
  have g1 := g.under e []
  rw [List.nil_append, List.nil_append] at h1
  rw [List.append_nil, List.append_nil] at g1
  exact h1.trans g1
theorem Lk.tl {a e : HH.Row} (h : Lk a e) (ht : ∀ b ∈ a, 0 ≤ b.2) : ∀ b ∈ e, 0 ≤ b.2 := by
  obtain ⟨M, s, rfl⟩ := h
  exact tolls_rows (s.tl (good_tag ht).tl)
/-- e is the end of a -/
def EndR (a e : HH.Row) : Prop := ∃ L, Steps (tag 0 a) L ∧ Nf L ∧ rowsOf L = e
theorem EndR.lk {a e : HH.Row} (h : EndR a e) : Lk a e := by
  obtain ⟨L, s, _, r⟩ := h
  exact ⟨L, s, r⟩
theorem EndR.one {a e f : HH.Row} (ht : ∀ b ∈ a, 0 ≤ b.2) (h : EndR a e) (g : EndR a f) : e = f := by
  obtain ⟨L, s, n, rfl⟩ := h
  obtain ⟨M, t, m, rfl⟩ := g
  rw [nf_any (good_tag ht).tl s n t m]
theorem EndR.is {a : HH.Row} (ht : ∀ b ∈ a, 0 ≤ b.2) : ∃ e, EndR a e := by
  obtain ⟨N, s, n⟩ := nf_is (good_tag ht).tl
  exact ⟨_, N, s, n, rfl⟩
theorem EndR.back {a b e : HH.Row} (h : Lk a b) (g : EndR b e) : EndR a e := by
  obtain ⟨M, s, rfl⟩ := h
  obtain ⟨N, t, n, rfl⟩ := g
  have t' := t.map (HH.ixN (M.map (·.1)))
  rw [rl_tag] at t'
  exact ⟨_, s.trans t', nf_map n, rl_rows _ _⟩
/-- two rows lead to one -/
def Jn (a b : HH.Row) : Prop := ∃ e, Lk a e ∧ Lk b e
theorem Jn.same (a : HH.Row) : Jn a a := ⟨a, Lk.rfl' a, Lk.rfl' a⟩
theorem Jn.to {a e : HH.Row} (h : Lk a e) : Jn a e := ⟨e, h, Lk.rfl' e⟩
theorem Jn.of {a e : HH.Row} (h : Lk e a) : Jn a e := ⟨a, Lk.rfl' a, h⟩
theorem Jn.app {a b c d : HH.Row} (h : Jn a b) (g : Jn c d) : Jn (a ++ c) (b ++ d) := by
  obtain ⟨e, h1, h2⟩ := h
  obtain ⟨f, g1, g2⟩ := g
  exact ⟨e ++ f, h1.app g1, h2.app g2⟩
inductive Jns : List HH.Row → List HH.Row → Prop
  | nil : Jns [] []
  | cons {a b : HH.Row} {rr ss : List HH.Row} : Jn a b → Jns rr ss → Jns (a :: rr) (b :: ss)
theorem Jns.len {rr ss : List HH.Row} (h : Jns rr ss) : rr.length = ss.length := by
  induction h with
  | nil => rfl
  | cons _ _ ih => rw [List.length_cons, List.length_cons, ih]
theorem Jns.of : ∀ {rr ss : List HH.Row}, rr.length = ss.length → (∀ (i : Nat) (a b : HH.Row), rr[i]? = some a → ss[i]? = some b → Jn a b) → Jns rr ss
  | [], [], _, _ => .nil
  | a :: rr, b :: ss, hl, h => .cons (h 0 a b rfl rfl) (Jns.of (by simpa using hl) fun i x y hx hy => h (i + 1) x y hx hy)
theorem Jn.flat : ∀ {rr ss : List HH.Row}, Jns rr ss → Jn rr.flatten ss.flatten
  | _, _, .nil => Jn.same []
  | _, _, .cons h t => by
    rw [List.flatten_cons, List.flatten_cons]
    exact h.app (Jn.flat t)
theorem Jn.ends {a b x y : HH.Row} (ht : ∀ c ∈ a, 0 ≤ c.2) (hu : ∀ c ∈ b, 0 ≤ c.2) (h : Jn a b) (hx : EndR a x) (hy : EndR b y) : y = x := by
  obtain ⟨e, h1, h2⟩ := h
  obtain ⟨z, hz⟩ := EndR.is (h1.tl ht)
  rw [EndR.one ht hx (hz.back h1), EndR.one hu hy (hz.back h2)]
/-! across, by those who stand so -/
theorem mem_across {l : List Nat} {m n : Nat} {x : Int × Int} : x ∈ acrossF (tab l (m + n) (m + n)) (m : Int) ↔ ∃ a b : Nat, a < m ∧ b < n ∧ x = ((a : Int), (b : Int)) ∧ bef l (m + b) a = true := by
  unfold acrossF
  rw [List.mem_map]
  constructor
  · rintro ⟨p, hp, rfl⟩
    obtain ⟨h1, h2⟩ := List.mem_filter.mp hp
    obtain ⟨i, j, hij, hj, rfl, hb⟩ := mem_tab.mp h1
    simp only [Bool.and_eq_true, decide_eq_true_eq] at h2
    obtain ⟨b, rfl⟩ : ∃ b, j = m + b := ⟨j - m, by omega⟩
    exact ⟨i, b, by omega, by omega, by rw [show ((m + b : Nat) : Int) - (m : Int) = (b : Int) by omega], hb⟩
  · rintro ⟨a, b, ha, hb, rfl, h⟩
    refine ⟨((a : Int), ((m + b : Nat) : Int)), List.mem_filter.mpr ⟨mem_tab.mpr ⟨a, m + b, by omega, by omega, rfl, h⟩, ?_⟩, by rw [show ((m + b : Nat) : Int) - (m : Int) = (b : Int) by omega]⟩
    simp only [Bool.and_eq_true, decide_eq_true_eq]
    omega
theorem pw_across {ps : HH.Row} {m : Int} (h : ps.Pairwise lexL) : (acrossF ps m).Pairwise lexL := by
  unfold acrossF
  rw [List.pairwise_map]
  refine (List.Pairwise.filter _ h).imp fun {p q} z => ?_
  unfold lexL at z ⊢
  dsimp only at z ⊢
  omega
theorem bef_fwd {f : Nat → Nat} {j i : Nat} : ∀ {l : List Nat}, bef l j i = true → bef (l.map f) (f j) (f i) = true
  | x :: r, h => by
    rw [List.map_cons, bef_cons]
    rcases bef_cons.mp h with ⟨h1, h2⟩ | h1
    · exact .inl ⟨by rw [h1], List.mem_map_of_mem h2⟩
    · exact .inr (bef_fwd h1)
theorem bef_bwd {f : Nat → Nat} {j i : Nat} : ∀ {l : List Nat}, bef (l.map f) j i = true → ∃ j' i', f j' = j ∧ f i' = i ∧ bef l j' i' = true
  | [], h => by cases h
  | x :: r, h => by
    rw [List.map_cons, bef_cons] at h
    rcases h with ⟨h1, h2⟩ | h1
    · obtain ⟨i', hi, e⟩ := List.mem_map.mp h2
      exact ⟨x, i', h1, e, bef_cons.mpr (.inl ⟨rfl, hi⟩)⟩
    · obtain ⟨j', i', a, b, c⟩ := bef_bwd h1
      exact ⟨j', i', a, b, bef_cons.mpr (.inr c)⟩
/-- two rows of cows lead to one -/
def JnC (L M : List Cow) : Prop := ∃ N, Steps L N ∧ Steps M N
theorem across_end {rs ss : HH.Row} {M1 M2 E E' : List Cow} (ht : ∀ b ∈ rs ++ ss, 0 ≤ b.2) (t1 : ∀ x ∈ M1, 0 ≤ x.2.2) (t2 : ∀ x ∈ M2, 0 ≤ x.2.2) (c1 : JnC (tag 0 rs) M1) (c2 : JnC (tag 0 ss) M2)
    (sE : Steps (tag 0 (rs ++ ss)) E) (nE : Nf E) (sE' : Steps (tag 0 (rowsOf M1 ++ rowsOf M2)) E') (nE' : Nf E') : E = rlL (HH.ixN ((M1 ++ rlL (rs.length + ·) M2).map (·.1))) E' := by
  obtain ⟨N1, a1, b1⟩ := c1
  obtain ⟨N2, a2, b2⟩ := c2
  have eT : tag 0 (rs ++ ss) = tag 0 rs ++ rlL (rs.length + ·) (tag 0 ss) := by
    rw [tag_app, Nat.zero_add, ← tag_rl 0 rs.length, Nat.add_zero]
  have two : ∀ {A B C D : List Cow}, Steps A B → Steps C D → Steps (A ++ C) (B ++ D) := fun {A B C D} h g => by
    have h1 := h.under [] C
    have g1 := g.under B []
    rw [List.nil_append, List.nil_append] at h1
    rw [List.append_nil, List.append_nil] at g1
    exact h1.trans g1
  have s1 := two a1 (a2.map (rs.length + ·))
  have s2 := two b1 (b2.map (rs.length + ·))
  rw [← eT] at s1
  generalize hM : M1 ++ rlL (rs.length + ·) M2 = M at s2 ⊢
  have tM : ∀ x ∈ M, 0 ≤ x.2.2 := by
    rw [← hM]
    intro x hx
    rcases List.mem_append.mp hx with h | h
    · exact t1 x h
    · obtain ⟨y, hy, rfl⟩ := List.mem_map.mp h
      exact t2 y hy
  have rM : rowsOf M = rowsOf M1 ++ rowsOf M2 := by rw [← hM, rowsOf_app, rl_rows]
  rw [← rM] at sE'
  have s3 := sE'.map (HH.ixN (M.map (·.1)))
  rw [rl_tag] at s3
  have tl0 := (good_tag ht).tl
  obtain ⟨Z, sZ, nZ⟩ := nf_is (s1.tl tl0)
  rw [nf_any tl0 sE nE (s1.trans sZ) nZ, nf_any tM s3 (nf_map nE') (s2.trans sZ) nZ]
theorem ixN_app_lt {a b : List Nat} {i : Nat} (h : i < a.length) : ixN (a ++ b) i = ixN a i := by
  unfold ixN
  rw [List.getElem?_append_left h]
theorem ixN_app_ge {a b : List Nat} {i : Nat} : ixN (a ++ b) (a.length + i) = ixN b i := by
  unfold ixN
  rw [List.getElem?_append_right (by omega), show a.length + i - a.length = i by omega]
theorem ixN_map_add {k : Nat} {b : List Nat} {i : Nat} (h : i < b.length) : ixN (b.map (k + ·)) i = k + ixN b i := by
  unfold ixN
  rw [List.getElem?_map, List.getElem?_eq_getElem h]
  rfl
theorem ixN_mem {l : List Nat} {i : Nat} (h : i < l.length) : ixN l i ∈ l := by
  unfold ixN
  rw [List.getElem?_eq_getElem h]
  exact List.getElem_mem h
theorem ixN_injL {l : List Nat} (nd : l.Nodup) {i j : Nat} (hi : i < l.length) (hj : j < l.length) (h : ixN l i = ixN l j) : i = j := by
  unfold ixN at h
  rw [List.getElem?_eq_getElem hi, List.getElem?_eq_getElem hj] at h
  exact (List.getElem_inj nd).mp h
theorem lex_ne {p q : Int × Int} (h : lexL p q) : p ≠ q := fun e => by
  subst e
  exact lex_asy p p h h
def byF (l1 l2 : List Nat) (p : Int × Int) : Int × Int := ((ixN l1 p.1.toNat : Int), (ixN l2 p.2.toNat : Int))
theorem across_by {m n : Nat} {l1 l2 le : List Nat} (p1 : l1.Perm (List.range m)) (p2 : l2.Perm (List.range n)) (pe : ∀ x ∈ le, x < m + n) :
    ((acrossF (tab le (m + n) (m + n)) (m : Int)).map (byF l1 l2)).Perm (acrossF (tab (le.map (ixN (l1 ++ l2.map (m + ·)))) (m + n) (m + n)) (m : Int)) := by
  have n1 : l1.length = m := by rw [p1.length_eq, List.length_range]
  have n2 : l2.length = n := by rw [p2.length_eq, List.length_range]
  have d1 : l1.Nodup := p1.nodup_iff.mpr List.nodup_range
  have d2 : l2.Nodup := p2.nodup_iff.mpr List.nodup_range
  have b1 : ∀ i, i < m → ixN l1 i < m := fun i hi => List.mem_range.mp (p1.mem_iff.mp (ixN_mem (by omega)))
  have b2 : ∀ i, i < n → ixN l2 i < n := fun i hi => List.mem_range.mp (p2.mem_iff.mp (ixN_mem (by omega)))
  have f1 : ∀ i, i < m → ixN (l1 ++ l2.map (m + ·)) i = ixN l1 i := fun i hi => ixN_app_lt (by omega)
  have f2 : ∀ i, i < n → ixN (l1 ++ l2.map (m + ·)) (m + i) = m + ixN l2 i := fun i hi => by
    rw [← n1, ixN_app_ge, n1, ixN_map_add (by omega)]
  refine (List.perm_ext_iff_of_nodup ?_ ?_).mpr fun x => ?_
  · show List.Pairwise (· ≠ ·) _
    rw [List.pairwise_map]
    refine List.Pairwise.imp_of_mem (fun {p q} hp hq z => ?_) (pw_across (m := (m : Int)) (pw_tab le (m + n) (m + n)))
    obtain ⟨a, b, ha, hb, rfl, _⟩ := mem_across.mp hp
    obtain ⟨c, d, hc, hd, rfl, _⟩ := mem_across.mp hq
    intro e
    refine lex_ne z ?_
    unfold byF at e
    dsimp only at e
    rw [Int.toNat_natCast, Int.toNat_natCast, Int.toNat_natCast, Int.toNat_natCast] at e
    injection e with e1 e2
    rw [ixN_injL d1 (by omega) (by omega) (Int.ofNat.inj e1), ixN_injL d2 (by omega) (by omega) (Int.ofNat.inj e2)]
  · exact (pw_across (pw_tab _ _ _)).imp fun z => lex_ne z
  · rw [List.mem_map]
    constructor
    · rintro ⟨p, hp, rfl⟩
      obtain ⟨a, b, ha, hb, rfl, h⟩ := mem_across.mp hp
      have z := bef_fwd (f := ixN (l1 ++ l2.map (m + ·))) h
      rw [f1 a ha, f2 b hb] at z
      refine mem_across.mpr ⟨ixN l1 a, ixN l2 b, b1 a ha, b2 b hb, ?_, z⟩
      unfold byF
      dsimp only
      rw [Int.toNat_natCast, Int.toNat_natCast]
    · intro h
      obtain ⟨a, b, ha, hb, rfl, h0⟩ := mem_across.mp h
      obtain ⟨j, i, ej, ei, h⟩ := bef_bwd h0
      have hj := pe j (bef_mem h).1
      have hi := pe i (bef_mem h).2
      have i1 : i < m := by
        by_cases z : i < m
        · exact z
        · obtain ⟨k, rfl⟩ : ∃ k, i = m + k := ⟨i - m, by omega⟩
          rw [f2 k (by omega)] at ei
          omega
      have j1 : ¬ j < m := fun z => by
        rw [f1 j z] at ej
        have := b1 j z
        omega
      obtain ⟨k, rfl⟩ : ∃ k, j = m + k := ⟨j - m, by omega⟩
      rw [f2 k (by omega)] at ej
      rw [f1 i i1] at ei
      refine ⟨((i : Int), (k : Int)), mem_across.mpr ⟨i, k, i1, by omega, rfl, h⟩, ?_⟩
      unfold byF
      dsimp only
      rw [Int.toNat_natCast, Int.toNat_natCast, ei, show ixN l2 k = b by omega]
/-! the passings of a join, split in three -/
theorem split_in {T : HH.Row} {m n : Nat} (hT : ∀ p ∈ T, 0 ≤ p.1 ∧ p.1 < p.2 ∧ p.2 < ((m + n : Nat) : Int)) :
    (amongF T 0 (m : Int) ++ (amongF T (m : Int) ((m + n : Nat) : Int)).map (fun p => (p.1 + (m : Int), p.2 + (m : Int))) ++ (acrossF T (m : Int)).map (fun p => (p.1, p.2 + (m : Int)))).Perm T := by
  have e1 : amongF T 0 (m : Int) = T.filter fun p => decide (p.2 < (m : Int)) := by
    unfold amongF
    rw [show (T.filter fun p => decide (0 ≤ p.1) && decide (p.2 < (m : Int))) = T.filter fun p => decide (p.2 < (m : Int)) from List.filter_congr fun p hp => by
      rw [decide_eq_true (hT p hp).1, Bool.true_and]]
    conv => rhs; rw [← List.map_id (T.filter fun p => decide (p.2 < (m : Int)))]
    refine List.map_congr_left fun p _ => ?_
    show (p.1 - 0, p.2 - 0) = p
    rw [Int.sub_zero, Int.sub_zero]
  have e2 : (amongF T (m : Int) ((m + n : Nat) : Int)).map (fun p => (p.1 + (m : Int), p.2 + (m : Int))) = (T.filter fun p => !decide (p.2 < (m : Int))).filter fun p => decide ((m : Int) ≤ p.1) := by
    unfold amongF
    rw [List.map_map, List.filter_filter]
    rw [show (T.filter fun p => decide ((m : Int) ≤ p.1) && decide (p.2 < ((m + n : Nat) : Int))) = T.filter fun p => decide ((m : Int) ≤ p.1) && !decide (p.2 < (m : Int)) from List.filter_congr fun p hp => by
      have := hT p hp
      by_cases z : (m : Int) ≤ p.1
      · rw [decide_eq_true z, decide_eq_true this.2.2, decide_eq_false (show ¬ p.2 < (m : Int) by omega)]
        rfl
      · rw [decide_eq_false z]
        rfl]
    conv => rhs; rw [← List.map_id (T.filter fun p => decide ((m : Int) ≤ p.1) && !decide (p.2 < (m : Int)))]
    refine List.map_congr_left fun p _ => ?_
    show (p.1 - (m : Int) + (m : Int), p.2 - (m : Int) + (m : Int)) = p
    rw [Int.sub_add_cancel, Int.sub_add_cancel]
  have e3 : (acrossF T (m : Int)).map (fun p => (p.1, p.2 + (m : Int))) = (T.filter fun p => !decide (p.2 < (m : Int))).filter fun p => !decide ((m : Int) ≤ p.1) := by
    unfold acrossF
    rw [List.map_map, List.filter_filter]
    rw [show (T.filter fun p => decide (p.1 < (m : Int)) && decide (p.2 ≥ (m : Int))) = T.filter fun p => !decide ((m : Int) ≤ p.1) && !decide (p.2 < (m : Int)) from List.filter_congr fun p hp => by
      by_cases z : (m : Int) ≤ p.1
      · rw [decide_eq_true z, decide_eq_false (show ¬ p.1 < (m : Int) by omega)]
        rfl
      · rw [decide_eq_false z, decide_eq_true (show p.1 < (m : Int) by omega)]
        by_cases y : p.2 < (m : Int)
        · rw [decide_eq_true y, decide_eq_false (show ¬ p.2 ≥ (m : Int) by omega)]
          rfl
        · rw [decide_eq_false y, decide_eq_true (show p.2 ≥ (m : Int) by omega)]
          rfl]
    conv => rhs; rw [← List.map_id (T.filter fun p => !decide ((m : Int) ≤ p.1) && !decide (p.2 < (m : Int)))]
    refine List.map_congr_left fun p _ => ?_
    show (p.1, p.2 - (m : Int) + (m : Int)) = p
    rw [Int.sub_add_cancel]
  rw [e1, e2, e3, List.append_assoc]
  refine List.Perm.trans (List.Perm.append_left _ ?_) (List.filter_append_perm (fun p : Int × Int => decide (p.2 < (m : Int))) T)
  exact List.filter_append_perm (fun p : Int × Int => decide ((m : Int) ≤ p.1)) _
theorem split_tab {rs ss : HH.Row} {L L1 L2' : List Cow} (ht : ∀ b ∈ rs ++ ss, 0 ≤ b.2) (st : Steps (tag 0 (rs ++ ss)) L) (nf : Nf L) (s1 : Steps (tag 0 rs) L1) (n1 : Nf L1) (s2 : Steps (tag 0 ss) L2') (n2 : Nf L2') :
    (tab (L1.map (·.1)) rs.length rs.length ++ (tab (L2'.map (·.1)) ss.length ss.length).map (fun p => (p.1 + (rs.length : Int), p.2 + (rs.length : Int))) ++ (acrossF (tab (L.map (·.1)) (rs ++ ss).length (rs ++ ss).length) (rs.length : Int)).map (fun p => (p.1, p.2 + (rs.length : Int)))).Perm (tab (L.map (·.1)) (rs ++ ss).length (rs ++ ss).length) := by
  have hl : (rs ++ ss).length = rs.length + ss.length := List.length_append
  have q1 : pieceR (rs ++ ss) 0 rs.length = rs := by
    unfold pieceR
    rw [List.drop_zero, Nat.sub_zero, List.take_left]
  have q2 : pieceR (rs ++ ss) rs.length (rs.length + ss.length) = ss := by
    unfold pieceR
    rw [List.drop_left, show rs.length + ss.length - rs.length = ss.length by omega, List.take_length]
  have a1 := among_tab (b := 0) (e := rs.length) ht (by omega) (by omega) st nf (by rw [q1]; exact s1) n1
  have a2 := among_tab (b := rs.length) (e := rs.length + ss.length) ht (by omega) (by omega) st nf (by rw [q2]; exact s2) n2
  have z := split_in (T := tab (L.map (·.1)) (rs ++ ss).length (rs ++ ss).length) (m := rs.length) (n := ss.length) fun p hp => by
    obtain ⟨i, j, hij, hj, rfl, _⟩ := mem_tab.mp hp
    dsimp only
    omega
  rw [show ((0 : Nat) : Int) = 0 from rfl, Nat.sub_zero] at a1
  rw [show rs.length + ss.length - rs.length = ss.length by omega] at a2
  rw [a1, a2] at z
  exact z
end HH
set_option maxHeartbeats 4000000
namespace HH
open PySem PySem.Spec PyProof.Rows L2 Evl RZ
theorem par_go {ta tb : TE} {i j : Nat} {tz : TS} {D : Ends} {σ : L2.St} {H : Hp} (h : ta σ H fun x H1 => tb σ H1 fun y H2 => ∃ v w, [x, y] = [v, w] ∧ tz D ((σ.set i (some v)).set j (some w)) H2) : tSeq (tPar i j (tCons ta (tCons tb tNil))) tz D σ H := h
/-- [te for row in rows], each a row; the box may be drawn from -/
theorem lc_rows {K : PySem.W.Frag} {σ : L2.St} {H : Hp} {a p : Addr} {us : List V} {rr : List HH.Row} {ia j n d : Nat} {vs : List Nat} {te : TE} {Q : VK} (J : HH.Row → HH.Row → Prop) (ha : H a = some (.lst us)) (ra : RowsA K H us rr) (hl : rr.length ≤ 1000) (hb : Bx H p n) (hap : a ≠ p) (sa : σ[ia]? = some (some (.ref a)))
    (hw : ∀ x, wipe ((wipe σ vs).set j (some x)) vs = wipe σ vs)
    (step : ∀ (i : Nat) (x : V) (r : HH.Row) (H1 : Hp) (Q1 : VK), rr[i]? = some r → RowAt K H1 x r → Bx H1 p (n + d * i) → (∀ v r' H2, ExB p H1 H2 → Bx H2 p (n + d * (i + 1)) → RowAt K H2 v r' → J r r' → Q1 v H2) → te ((wipe σ vs).set j (some x)) H1 Q1)
    (k : ∀ (D : Addr) (us' : List V) (rr' : List HH.Row) (H' : Hp), D ≠ p → ExB p H H' → Bx H' p (n + d * rr.length) → H' D = some (.lst us') → RowsA K H' us' rr' → rr'.length = rr.length → (∀ (i : Nat) (r r' : HH.Row), rr[i]? = some r → rr'[i]? = some r' → J r r') → Q (.ref D) H') :
    tLc (iList K (tVar ia)) (gName j) tYes te vs σ H Q := by
  have ul : us.length = rr.length := ra.len
  refine ⟨.ref a, sa, a, rfl, ⟨us, sq_of ha⟩, fun D hD => ?_⟩
  have hDp : D ≠ p := (hb.ne hD).symm
  refine in_it (walk_list (xs := us)) (fun i H2 => ExB p H H2 ∧ Bx H2 p (n + d * i) ∧ ∃ ws ss, H2 D = some (.lst ws) ∧ RowsA K H2 ws ss ∧ ss.length = i ∧ ∀ (k : Nat) (r r' : HH.Row), rr[k]? = some r → ss[k]? = some r' → J r r') ⟨.of (Ex.new hD), (hb.ex (Ex.new hD)).le (by omega), [], [], upd_same, .nil, rfl, fun k r r' _ h => by cases h⟩ (fun i H2 _ z => sq_of (z.1 _ _ hap ha)) (fun i x H2 H3 hi z y => ?_) (fun H2 z => ?_)
  · obtain ⟨rfl, hx⟩ := y
    obtain ⟨z1, z2, ws, ss, z3, z4, z5, z6⟩ := z
    obtain ⟨r, hr, hrow⟩ := ra.get hx
    obtain ⟨bl, hbl⟩ := hb.lst
    obtain ⟨bl2, hbl2⟩ := z2.lst
    refine ⟨hw _, t_yes (step i x r _ _ hr (hrow.exL z1 hbl) z2 fun v r' H4 e4 b4 hv hj => ?_)⟩
    have g4 := e4 _ _ hDp z3
    have xD : ExB D H4 (upd H4 D (.lst (ws ++ [v]))) := (ExB.refl _ _).upd
    refine ⟨ws, g4, sz_lt (by rw [z4.len, z5]; omega), (z1.trans e4).mut hD, b4.mut hDp.symm, ws ++ [v], ss ++ [r'], upd_same, RowsA.exB' (All2.app (z4.exB' e4 hbl2) (.cons hv .nil)) xD g4, by rw [List.length_append, z5]; rfl, fun k r1 r1' h1 h2 => ?_⟩
    by_cases hk : k < i
    · rw [List.getElem?_append_left (by omega)] at h2
      exact z6 k r1 r1' h1 h2
    · rw [List.getElem?_append_right (by omega), z5] at h2
      obtain ⟨m, hm⟩ : ∃ m, k - i = m := ⟨_, rfl⟩
      rw [hm] at h2
      cases m with
      | zero =>
        cases h2
        rw [show k = i by omega, hr] at h1
        cases h1
        exact hj
      | succ m => cases h2
  · obtain ⟨z1, z2, ws, ss, z3, z4, z5, z6⟩ := z
    rw [ul] at z2 z5
    exact k D ws ss H2 hDp z1 z2 z3 z4 z5 z6
/-- [(.., ..) for a, b in pairs] -/
theorem ep_mapP {K : PySem.W.Frag} {σ : L2.St} {H : Hp} {te ta tb : TE} {i j : Nat} {vs : List Nat} {ps : HH.Row} (f : Int × Int → Int × Int) (h : Src K (BeastAt K) te σ H ps) (hl : ps.length ≤ 2000) (hw : ∀ x y, wipe (((wipe σ vs).set i (some x)).set j (some y)) vs = wipe σ vs)
    (h1 : ∀ (b : Int × Int) H1, Ex H H1 → b ∈ ps → Ev ta (((wipe σ vs).set i (some (.int b.1))).set j (some (.int b.2))) H1 (.int (f b).1)) (h2 : ∀ (b : Int × Int) H1, Ex H H1 → b ∈ ps → Ev tb (((wipe σ vs).set i (some (.int b.1))).set j (some (.int b.2))) H1 (.int (f b).2)) :
    EvPr PairT (tLc (iList K te) (gTup K 2 (gCons (gName i) (gCons (gName j) gNil))) tYes (tTup (tCons ta (tCons tb tNil))) vs) σ H (ps.map f) := fun H0 e0 Q q => by
  refine h H0 e0 _ fun a us H1 e1 sq bs => ⟨a, rfl, ⟨us, sq H1 (Ex.refl H1)⟩, fun D hD => ?_⟩
  have ul : us.length = ps.length := bs.len
  have e01 := e0.trans e1
  refine in_it (walk_list (xs := us)) (fun k H2 => Ex H1 H2 ∧ ∃ ws, H2 D = some (.lst ws) ∧ All2 (PairT H2) ws ((ps.take k).map f)) ⟨Ex.new hD, [], upd_same, .nil⟩ (fun k H2 _ z => sq H2 z.1) (fun k x H2 H3 hk z y => ?_) (fun H2 z => ?_)
  · obtain ⟨rfl, hx⟩ := y
    obtain ⟨z1, ws, z2, z3⟩ := z
    obtain ⟨b, hb, pp, rfl, hpp⟩ := bs.get hx
    have hm := List.mem_of_getElem? hb
    refine ⟨pp, _, rfl, ex_t z1 hpp, rfl, _, _, rfl, _, _, rfl, rfl, hw _ _, ?_⟩
    refine t_yes ?_
    refine (h1 b _ (e01.trans z1) hm) _ (Ex.refl _) _ fun H4 e4 => ?_
    refine (h2 b H4 ((e01.trans z1).trans e4) hm) H4 (Ex.refl _) _ fun H5 e5 => ⟨by show 2 ≤ sizeLine; decide, fun T hT => ?_⟩
    have nT := Ex.new (o := .tup [V.int (f b).1, .int (f b).2]) hT
    have e25 := e4.trans e5
    refine ⟨ws, nT _ _ (e25 _ _ z2), sz_lt (by rw [All2.len z3, List.length_map, List.length_take]; omega), Ex.mut ((z1.trans e25).trans nT) hD, ws ++ [.ref T], upd_same, ?_⟩
    rw [List.take_add_one, hb, List.map_append]
    exact stb_T.allL (nT _ _ (e25 _ _ z2)) (All2.app (stb_T.all (e25.trans nT) z3) (.cons ⟨T, rfl, upd_same⟩ .nil))
  · obtain ⟨z1, ws, z2, z3⟩ := z
    rw [ul, List.take_length] at z3
    exact q D ws H2 (fresh_back e1 hD) (e1.trans z1) z2 z3
def spBy (K : PySem.W.Frag) : Sp := fun vs H Q _ => ∃ (a o1 o2 : Addr) (us : List V) (l m : List Nat) (ps qs : HH.Row), vs = [.ref a, .ref o1, .ref o2] ∧ H a = some (.lst us) ∧ Beasts K H us ps ∧ ps.length ≤ 2000 ∧ SqT K H o1 (natsV l) ∧ SqT K H o2 (natsV m) ∧ (∀ b ∈ ps, ∃ p q : Nat, b = ((p : Int), (q : Int)) ∧ p < l.length ∧ q < m.length) ∧ (ps.map (named2 l m)).Perm qs ∧ qs.Pairwise lexL ∧
  ∀ (q : Addr) (ws : List V) (H' : Hp), Ex H H' → H' q = some (.lst ws) → Beasts K H' ws qs → Q (.ref q) H'
/-- what is led on or back, with its names -/
structure Moved (K : PySem.W.Frag) (H : Hp) (q : Addr) (rs : HH.Row) (L : List Cow) : Prop where
  at_ : LastAt K H q L
  jn : JnC (tag 0 rs) L
  ids : (L.map (·.1)).Perm (List.range rs.length)
  tl : ∀ x ∈ L, 0 ≤ x.2.2
theorem Moved.ex {K : PySem.W.Frag} {H H' : Hp} {q : Addr} {rs : HH.Row} {L : List Cow} (h : Moved K H q rs L) (e : Ex H H') : Moved K H' q rs L := ⟨h.at_.mono e, h.jn, h.ids, h.tl⟩
theorem moved_last {K : PySem.W.Frag} {H : Hp} {q : Addr} {rs : HH.Row} {L : List Cow} (ht : ∀ b ∈ rs, 0 ≤ b.2) (h : LastAt K H q L) (s : Steps (tag 0 rs) L) : Moved K H q rs L := ⟨h, ⟨L, s, .refl _⟩, s.idsT, s.tl (good_tag ht).tl⟩
theorem moved_first {K : PySem.W.Frag} {H : Hp} {q : Addr} {rs : HH.Row} {L : List Cow} (ht : ∀ b ∈ rs, 0 ≤ b.2) (h : LastAt K H q L) (s : FSteps (tag 0 rs) L) : Moved K H q rs L := ⟨h, ⟨tag 0 rs, .refl _, s.back⟩, s.idsT, s.tl (good_tag ht).tl⟩
theorem byF_is (l m : List Nat) : byF l m = named2 l m := rfl
theorem et_neP2 {K : PySem.W.Frag} {H : Hp} {a b : Addr} {us ws : List V} {ps : HH.Row} {Q : VK} (ha : SqL K H a us) (hb : SqL K H b ws) (h : Beasts K H us ps) (g : Beasts K H ws ps) (q : Q (.bl false) H) : rNeD K (.ref a) (.ref b) H Q := by
  refine ⟨pairsD ps, pairsD ps, dp_pairs ha h, dp_pairs hb g, (nice_pairs ps).shaped (by decide), (nice_pairs ps).shaped (by decide), ?_⟩
  rw [SeqAt.eqv_refl _ (nice_pairs ps).1]
  exact q
end HH
set_option maxHeartbeats 4000000
namespace HH
open PySem PySem.Spec PyProof.Rows L2 Evl RZ
/-! ### one ahead of a row that is at its end: who passes it are the first of that row (k62) -/
def frontM (x : Cow) : List Cow → List Cow
  | [] => [x]
  | y :: r => if y.2.1 - x.2.2 > x.2.1 then (y.1, (y.2.1 - x.2.2, y.2.2)) :: frontM x r else x :: y :: r
def freeF (mine wanted : Int) : List Cow → List Nat
  | [] => []
  | y :: r => if y.2.1 - wanted > mine then y.1 :: freeF mine wanted r else []
theorem front_steps (x : Cow) : ∀ N : List Cow, Steps (x :: N) (frontM x N)
  | [] => .refl _
  | y :: r => by
    unfold frontM
    by_cases h : y.2.1 - x.2.2 > x.2.1
    · rw [if_pos h]
      have ih := (front_steps x r).under [(y.1, (y.2.1 - x.2.2, y.2.2))] []
      rw [List.append_nil, List.append_nil] at ih
      exact .head ⟨[], r, x, y, rfl, h, rfl⟩ ih
    · rw [if_neg h]
      exact .refl _
theorem front_nf {x : Cow} : ∀ {N : List Cow}, NfR N → (∀ y ∈ N, 0 ≤ y.2.2) → NfR (frontM x N)
  | [], _, _ => trivial
  | y :: r, h, ht => by
    have t0 := ht y List.mem_cons_self
    unfold frontM
    by_cases c : y.2.1 - x.2.2 > x.2.1
    · rw [if_pos c]
      have ih := front_nf (x := x) (nfr_tail h) fun z hz => ht z (List.mem_cons_of_mem _ hz)
      cases r with
      | nil =>
        refine ⟨?_, trivial⟩
        show ¬ (x.2.1 - y.2.2 > y.2.1 - x.2.2)
        omega
      | cons z r =>
        have hz : ¬ (z.2.1 - y.2.2 > y.2.1) := h.1
        unfold frontM at ih ⊢
        by_cases d : z.2.1 - x.2.2 > x.2.1
        · rw [if_pos d] at ih ⊢
          refine ⟨?_, ih⟩
          show ¬ (z.2.1 - x.2.2 - y.2.2 > y.2.1 - x.2.2)
          omega
        · rw [if_neg d] at ih ⊢
          refine ⟨?_, ih⟩
          show ¬ (x.2.1 - y.2.2 > y.2.1 - x.2.2)
          omega
    · rw [if_neg c]
      exact ⟨c, h⟩
theorem front_ids (x : Cow) : ∀ N : List Cow, ∃ B : List Nat, N.map (·.1) = freeF x.2.1 x.2.2 N ++ B ∧ (frontM x N).map (·.1) = freeF x.2.1 x.2.2 N ++ x.1 :: B
  | [] => ⟨[], rfl, rfl⟩
  | y :: r => by
    unfold frontM freeF
    by_cases h : y.2.1 - x.2.2 > x.2.1
    · rw [if_pos h, if_pos h]
      obtain ⟨B, h1, h2⟩ := front_ids x r
      refine ⟨B, ?_, ?_⟩
      · rw [List.map_cons, h1]
        rfl
      · rw [List.map_cons, h2]
        rfl
    · rw [if_neg h, if_neg h]
      exact ⟨y.1 :: r.map (·.1), rfl, rfl⟩
theorem bef_to {m j : Nat} {B : List Nat} (hB : m ∉ B) : ∀ A : List Nat, j ≠ m → (bef (A ++ m :: B) j m = true ↔ j ∈ A)
  | [], hj => by
    rw [List.nil_append, bef_cons]
    constructor
    · rintro (⟨h, _⟩ | h)
      · exact absurd h.symm hj
      · exact absurd (bef_mem h).2 hB
    · intro h
      cases h
  | a :: A, hj => by
    rw [List.cons_append, bef_cons, bef_to hB A hj, List.mem_cons]
    constructor
    · rintro (⟨h, _⟩ | h)
      · exact .inl h.symm
      · exact .inr h
    · rintro (h | h)
      · exact .inl ⟨h.symm, List.mem_append_right _ List.mem_cons_self⟩
      · exact .inr h
theorem nfr_rl (f : Nat → Nat) : ∀ {N : List Cow}, NfR N → NfR (rlL f N)
  | [], _ => trivial
  | [_], _ => trivial
  | _ :: b :: r, h => ⟨h.1, nfr_rl f (N := b :: r) h.2⟩
theorem freeF_rl (f : Nat → Nat) (mine wanted : Int) : ∀ N : List Cow, freeF mine wanted (rlL f N) = (freeF mine wanted N).map f
  | [] => rfl
  | y :: r => by
    show (if y.2.1 - wanted > mine then f y.1 :: freeF mine wanted (rlL f r) else []) = (if y.2.1 - wanted > mine then y.1 :: freeF mine wanted r else []).map f
    by_cases h : y.2.1 - wanted > mine
    · rw [if_pos h, if_pos h, freeF_rl f mine wanted r, List.map_cons]
    · rw [if_neg h, if_neg h]
      rfl
theorem free_iff {rs : HH.Row} (ht : ∀ b ∈ rs, 0 ≤ b.2) {i : Nat} {N : List Cow} (hi : i < rs.length) (st : Steps (tag 0 (rs.drop (i + 1))) N) (nf : Nf N) {j : Nat} (hij : i < j) (hj : j < rs.length) :
    (j - i - 1) ∈ freeF (sS rs i) (tS rs i) N ↔ barN rs i (j - i - 1) < sS rs j := by
  have htd : ∀ b ∈ rs.drop i, 0 ≤ b.2 := fun b hb => ht b (List.mem_of_mem_drop hb)
  have ed : rs.drop i = (sS rs i, tS rs i) :: rs.drop (i + 1) := by
    have e0 := List.drop_eq_getElem_cons hi
    have e1 := row_get hi
    rw [List.getElem?_eq_getElem hi] at e1
    rw [e0, Option.some.inj e1]
  have ix : ∀ k, sS (rs.drop i) k = sS rs (i + k) ∧ tS (rs.drop i) k = tS rs (i + k) := fun k => by
    unfold sS tS
    rw [List.getElem?_drop]
    exact ⟨rfl, rfl⟩
  have et : tag 0 (rs.drop i) = (0, (sS rs i, tS rs i)) :: rlL (1 + ·) (tag 0 (rs.drop (i + 1))) := by
    rw [ed]
    show (0, (sS rs i, tS rs i)) :: tag (0 + 1) (rs.drop (i + 1)) = _
    rw [show 0 + 1 = 1 + 0 from rfl, tag_rl]
  have tlN : ∀ y ∈ N, 0 ≤ y.2.2 := st.tl (good_tag fun b hb => ht b (List.mem_of_mem_drop hb)).tl
  have tlR : ∀ y ∈ rlL (1 + ·) N, 0 ≤ y.2.2 := fun y hy => by
    obtain ⟨z, hz, rfl⟩ := List.mem_map.mp hy
    exact tlN z hz
  have s1 : Steps (tag 0 (rs.drop i)) (frontM (0, (sS rs i, tS rs i)) (rlL (1 + ·) N)) := by
    rw [et]
    have u := (st.map (1 + ·)).under [(0, (sS rs i, tS rs i))] []
    rw [List.append_nil, List.append_nil] at u
    exact u.trans (front_steps _ _)
  have n1 : Nf (frontM (0, (sS rs i, tS rs i)) (rlL (1 + ·) N)) := nfr_nf (front_nf (nfr_rl _ (nfr_of nf)) tlR)
  have key := never_iff htd s1 n1 (i := 0) (j := j - i) (by omega) (by rw [List.length_drop]; omega)
  obtain ⟨B, h1, h2⟩ := front_ids (0, (sS rs i, tS rs i)) (rlL (1 + ·) N)
  have hB : (0 : Nat) ∉ B := fun z => by
    have : (0 : Nat) ∈ (rlL (1 + ·) N).map (·.1) := by
      rw [h1]
      exact List.mem_append_right _ z
    rw [rl_ids] at this
    obtain ⟨k, _, hk⟩ := List.mem_map.mp this
    omega
  rw [h2] at key
  rw [bef_to hB _ (by omega), freeF_rl, barN_shift (rs := rs) (b := i) (j - i - 0 - 1) (fun k _ => ix k), (ix (j - i)).1, show i + (j - i) = j by omega, show i + 0 = i from rfl, show j - i - 0 - 1 = j - i - 1 by omega] at key
  rw [← key, List.mem_map]
  constructor
  · intro h
    exact ⟨j - i - 1, h, by omega⟩
  · rintro ⟨k, hk, e⟩
    have : k = j - i - 1 := by omega
    rw [← this]
    exact hk
/-- the list of those who never pass, by the end of those behind -/
theorem nev_free {rs : HH.Row} (ht : ∀ b ∈ rs, 0 ≤ b.2) {i : Nat} {N : List Cow} (hi : i < rs.length) (st : Steps (tag 0 (rs.drop (i + 1))) N) (nf : Nf N) :
    ((List.range (rs.length - i - 1)).map (i + 1 + ·)).filter (fun j => !decide (j ∈ (freeF (sS rs i) (tS rs i) N).map (· + i + 1))) = nevL rs i (rs.length - i - 1) := by
  refine pw_eq (r := (· < ·)) Nat.lt_irrefl (fun a b h => Nat.lt_asymm h) (List.Pairwise.filter _ ?_) (pw_nevL _ _ _) fun q => ?_
  · rw [List.pairwise_map]
    exact List.pairwise_lt_range.imp fun {a b} h => by omega
  · rw [List.mem_filter, nevL_iff, List.mem_map]
    have side : ∀ q, i < q → q < rs.length → ((!decide (q ∈ (freeF (sS rs i) (tS rs i) N).map (· + i + 1))) = true ↔ nevP rs i (q - i - 1) = true) := fun q h1 h2 => by
      rw [nev_at h1, decide_eq_true_eq, Bool.not_eq_true', decide_eq_false_iff_not]
      have z := free_iff ht hi st nf h1 h2
      have y : q ∈ (freeF (sS rs i) (tS rs i) N).map (· + i + 1) ↔ (q - i - 1) ∈ freeF (sS rs i) (tS rs i) N := by
        rw [List.mem_map]
        constructor
        · rintro ⟨k, hk, rfl⟩
          rw [show k + i + 1 - i - 1 = k by omega]
          exact hk
        · intro h
          exact ⟨_, h, by omega⟩
      rw [y, z]
      omega
    constructor
    · rintro ⟨⟨k, hk, rfl⟩, h⟩
      have := List.mem_range.mp hk
      exact ⟨by omega, by omega, (side _ (by omega) (by omega)).mp h⟩
    · rintro ⟨h1, h2, h3⟩
      exact ⟨⟨q - i - 1, List.mem_range.mpr (by omega), by omega⟩, (side q h1 (by omega)).mpr h3⟩
end HH
set_option maxHeartbeats 4000000
namespace HH
open PySem PySem.Spec PyProof.Rows L2 Evl RZ
/-! ### a number among numbers; a table of those who never pass -/
theorem any_ints {ns : List Int} {n : Int} : ((ns.map PyData.int).any fun z => PyData.eqv z (.int n)) = decide (n ∈ ns) := by
  have e : ∀ a : Int, PyData.eqv (.int a) (.int n) = decide (a = n) := fun a => by
    simp [PyData.eqv]
    rfl
  rw [Bool.eq_iff_iff, List.any_eq_true, decide_eq_true_iff]
  constructor
  · rintro ⟨z, hz, h⟩
    obtain ⟨c, hc, rfl⟩ := List.mem_map.mp hz
    rw [e] at h
    rw [← of_decide_eq_true h]
    exact hc
  · intro h
    exact ⟨.int n, List.mem_map_of_mem h, by rw [e]; exact decide_eq_true rfl⟩
theorem mem_cast {l : List Nat} {k : Nat} : ((k : Int) ∈ l.map fun (x : Nat) => (x : Int)) ↔ k ∈ l := by
  rw [List.mem_map]
  constructor
  · rintro ⟨x, hx, e⟩
    have : x = k := by omega
    rw [← this]
    exact hx
  · intro h
    exact ⟨k, h, rfl⟩
section
variable {K : PySem.W.Frag} {σ : L2.St} {H H' : Hp} {ta tb te : TE} {v : V}
theorem ev_inN {l : List Nat} {k : Nat} {q : Addr} (h1 : Ev ta σ H (.int (k : Int))) (h2 : Ev tb σ H (.ref q)) (hq : SqL K H q (natsV l)) : Ev (tOp (rInD K) ta tb) σ H (.bl (decide (k ∈ l))) := fun H1 e1 Q k1 =>
  h1 H1 e1 _ fun H2 e2 => h2 H2 (e1.trans e2) _ fun H3 e3 => by
    have hs := ex_l ((e1.trans e2).trans e3) hq
    rw [natsV_ints] at hs
    have nn : Nice 1 (.list ((l.map fun (x : Nat) => (x : Int)).map PyData.int)) := nice_list (nice_ints _)
    refine ⟨.int (k : Int), (l.map fun (x : Nat) => (x : Int)).map PyData.int, .int _, .lst hs (dp_ints _), (nice_int 0 _).shaped (by decide), nn.shaped (by decide), ?_⟩
    rw [any_ints, decide_eq_decide.mpr mem_cast]
    exact k1 H3 (e2.trans e3)
theorem ev_notInN {l : List Nat} {k : Nat} {q : Addr} (h1 : Ev ta σ H (.int (k : Int))) (h2 : Ev tb σ H (.ref q)) (hq : SqL K H q (natsV l)) : Ev (tOp (rNotInD K) ta tb) σ H (.bl (!decide (k ∈ l))) := fun H1 e1 Q k1 =>
  h1 H1 e1 _ fun H2 e2 => h2 H2 (e1.trans e2) _ fun H3 e3 => by
    have hs := ex_l ((e1.trans e2).trans e3) hq
    rw [natsV_ints] at hs
    have nn : Nice 1 (.list ((l.map fun (x : Nat) => (x : Int)).map PyData.int)) := nice_list (nice_ints _)
    refine ⟨.int (k : Int), (l.map fun (x : Nat) => (x : Int)).map PyData.int, .int _, .lst hs (dp_ints _), (nice_int 0 _).shaped (by decide), nn.shaped (by decide), ?_⟩
    rw [any_ints, decide_eq_decide.mpr mem_cast]
    exact k1 H3 (e2.trans e3)
end
/-- the table at t -/
structure TabAt (K : PySem.W.Frag) (H : Hp) (t : Addr) (ll : List (List Nat)) : Prop where
  ex : ∃ (us : List V), SqL K H t us ∧ us.length = ll.length ∧ ∀ (i : Nat) (l : List Nat), ll[i]? = some l → ∃ p, us[i]? = some (.ref p) ∧ SqL K H p (natsV l)
theorem TabAt.mono {K : PySem.W.Frag} {H H' : Hp} {t : Addr} {ll : List (List Nat)} (h : TabAt K H t ll) (e : Ex H H') : TabAt K H' t ll := by
  obtain ⟨us, h1, h2, h3⟩ := h.ex
  exact ⟨us, ex_l e h1, h2, fun i l hl => by
    obtain ⟨p, g1, g2⟩ := h3 i l hl
    exact ⟨p, g1, ex_l e g2⟩⟩
theorem TabAt.of {K : PySem.W.Frag} {H0 H : Hp} {t : Addr} {us : List V} {ll : List (List Nat)} (h : SqL K H t us) (f : ListsF H0 H us ll) : TabAt K H t ll := ⟨us, h, f.len, fun i l hl => by
  obtain ⟨p, g1, _, g3⟩ := f.at' i l hl
  exact ⟨p, g1, sq_of g3⟩⟩
section
variable {K : PySem.W.Frag} {σ : L2.St} {H H' : Hp} {ta tb te : TE} {v : V}
theorem TabAt.row {t : Addr} {ll : List (List Nat)} {i : Nat} {l : List Nat} (h : TabAt K H t ll) (hl : ll[i]? = some l) (h1 : Ev ta σ H (.ref t)) (h2 : Ev tb σ H (.int (i : Int))) : ∃ p, Ev (tOp (rIxL K) ta tb) σ H (.ref p) ∧ SqL K H p (natsV l) := by
  obtain ⟨us, g1, g2, g3⟩ := h.ex
  obtain ⟨p, q1, q2⟩ := g3 i l hl
  exact ⟨p, ev_op h1 h2 (rv_ixL (K := K) g1 (atI_nat q1)), q2⟩
end
theorem nev_mem {rs : HH.Row} {i j : Nat} (h : i < j) (hj : j < rs.length) : decide (j ∈ nevL rs i (rs.length - i - 1)) = nevP rs i (j - i - 1) := by
  rw [Bool.eq_iff_iff, decide_eq_true_iff, nevL_iff]
  constructor
  · rintro ⟨_, _, h3⟩
    exact h3
  · intro h3
    exact ⟨h, by omega, h3⟩
def spClosed (K : PySem.W.Frag) : Sp := fun vs H Q _ => ∃ (t : Addr) (rs : HH.Row) (i j : Nat), vs = [.ref t, .int (i : Int), .int (j : Int)] ∧ TabAt K H t (nevT rs) ∧ rs.length ≤ 1000 ∧ (∀ b ∈ rs, 0 ≤ b.2) ∧ i < j ∧ j < rs.length ∧ RetV (.bl true) H Q
end HH
set_option maxHeartbeats 4000000
namespace HH
open PySem PySem.Spec PyProof.Rows L2 Evl RZ
def clsB : Stmt → List Stmt
  | .ClassDef (body := l) .. => l
  | _ => []
/-- a def that may raise -/
structure HasX (P : Program) (w : World) (K : PySem.W.Frag) (mg : Str → Option Value) (base : Heap) (k : Nat) (x : Str) (ps : List Str) (sp : Sp) (f : Addr) (fd : FuncData) : Prop where
  G : FnOk P w K mg base (L2.CX P w) k f fd ps sp
  g : mg x = some (.ref f)
  kp : PySem.W.keepIn K (.ref f) = true
  b : Binds K fd ps []
/-- a class of exceptions -/
structure HasE (P : Program) (w : World) (K : PySem.W.Frag) (mg : Str → Option Value) (base : Heap) (bk : Bk) (x f : Str) (C fI : Addr) (fd : FuncData) : Prop where
  T : ExcTy K bk f C fI
  F : FnOk P w K mg base CX0 1 fI fd ["self", f] (spIni C f)
  b : Binds K fd ["self", f] []
  g : mg x = some (.ref C)
theorem Has.imp {P : Program} {w : World} {K : PySem.W.Frag} {mg : Str → Option Value} {base : Heap} {k : Nat} {x : Str} {ps : List Str} {sp sp' : Sp} {f : Addr} {fd : FuncData} (h : Has P w K mg base k x ps sp f fd) (i : ∀ vs H Q E, sp' vs H Q E → sp vs H Q E) : Has P w K mg base k x ps sp' f fd := ⟨h.G.imp i, h.g, h.kp, h.b⟩
/-! places that may be any number -/
def letsZ (rs : Row) (p : Int) : Bool := decide (1 ≤ p ∧ p < (rs.length : Int)) && letsN rs p.toNat
def fallsZ (rs : Row) (p : Int) : Bool := decide (0 ≤ p ∧ p + 1 < (rs.length : Int)) && fallsN rs p.toNat
theorem letsZ_nat {rs : Row} {p : Nat} (h : p < rs.length) : letsZ rs (p : Int) = letsN rs p := by
  unfold letsZ
  rw [Int.toNat_natCast]
  by_cases h0 : 1 ≤ p
  · rw [decide_eq_true (by omega), Bool.true_and]
  · rw [decide_eq_false (by omega), Bool.false_and]
    unfold letsN
    rw [decide_eq_false (by omega), Bool.false_and]
theorem letsZ_at {rs : Row} {p : Int} (h : letsZ rs p = true) : ∃ j : Nat, p = (j : Int) ∧ 0 < j ∧ j < rs.length ∧ letsN rs j = true := by
  unfold letsZ at h
  obtain ⟨h1, h2⟩ := Bool.and_eq_true_iff.mp h
  have := of_decide_eq_true h1
  exact ⟨p.toNat, by omega, by omega, by omega, h2⟩
theorem fallsZ_nat {rs : Row} {p : Nat} : fallsZ rs (p : Int) = (decide (p + 1 < rs.length) && fallsN rs p) := by
  unfold fallsZ
  rw [Int.toNat_natCast]
  by_cases h0 : p + 1 < rs.length
  · rw [decide_eq_true (by omega), decide_eq_true h0]
  · rw [decide_eq_false (by omega), decide_eq_false h0]
theorem fallsZ_at {rs : Row} {p : Int} (h : fallsZ rs p = true) : ∃ j : Nat, p = (j : Int) ∧ j + 1 < rs.length ∧ fallsN rs j = true := by
  unfold fallsZ at h
  obtain ⟨h1, h2⟩ := Bool.and_eq_true_iff.mp h
  have := of_decide_eq_true h1
  exact ⟨p.toNat, by omega, by omega, h2⟩
def spCanPassZ (K : PySem.W.Frag) : Sp := fun vs H Q _ => ∃ (v : V) (rs : Row) (p : Int), vs = [v, .int p] ∧ RowAt K H v rs ∧ ∀ H', Ex H H' → Q (.bl (letsZ rs p)) H'
def spCanFallZ (K : PySem.W.Frag) : Sp := fun vs H Q _ => ∃ (v : V) (rs : Row) (p : Int), vs = [v, .int p] ∧ RowAt K H v rs ∧ ∀ H', Ex H H' → Q (.bl (fallsZ rs p)) H'
theorem canPass_of {K : PySem.W.Frag} {vs : List V} {H : Hp} {Q : VK} {E : XK} (h : spCanPass K vs H Q E) : spCanPassZ K vs H Q E := by
  obtain ⟨v, rs, p, rfl, hv, hp, q⟩ := h
  exact ⟨v, rs, p, rfl, hv, fun H' e => by rw [letsZ_nat hp]; exact q H' e⟩
theorem canFall_of {K : PySem.W.Frag} {vs : List V} {H : Hp} {Q : VK} {E : XK} (h : spCanFall K vs H Q E) : spCanFallZ K vs H Q E := by
  obtain ⟨v, rs, p, rfl, hv, hp, q⟩ := h
  exact ⟨v, rs, p, rfl, hv, fun H' e => by rw [fallsZ_nat]; exact q H' e⟩
theorem sv_canZ {K : PySem.W.Frag} {v : V} {rs : Row} {p : Int} {H : Hp} (hv : RowAt K H v rs) : SpV (spCanPassZ K) [v, .int p] H (.bl (letsZ rs p)) := fun H1 e Q q E => ⟨v, rs, p, rfl, hv.ex e, q⟩
theorem sv_canFZ {K : PySem.W.Frag} {v : V} {rs : Row} {p : Int} {H : Hp} (hv : RowAt K H v rs) : SpV (spCanFallZ K) [v, .int p] H (.bl (fallsZ rs p)) := fun H1 e Q q E => ⟨v, rs, p, rfl, hv.ex e, q⟩
/-- a deed at a place, or refused with the place -/
def spDoX (K : PySem.W.Frag) (may : Row → Int → Bool) (g : Row → Nat → Row) (C : Addr) : Sp := fun vs H Q E => ∃ (v : V) (rs : Row) (p : Int), vs = [v, .int p] ∧ RowAt K H v rs ∧ rs.length ≤ 1000 ∧ (may rs p = true → ∀ v' H', Ex H H' → RowAt K H' v' (g rs p.toNat) → Q v' H') ∧
  (may rs p = false → ∀ d H', Ex H H' → H' d = none → E (.ref C) (some d) (upd H' d (.xd [(("place" : Str), .int p)])))
/-- what is caught of it -/
def spBarZ (K : PySem.W.Frag) (may : Row → Int → Bool) : Sp := fun vs H Q _ => ∃ (v : V) (rs : Row) (p : Int), vs = [v, .int p] ∧ RowAt K H v rs ∧ rs.length ≤ 1000 ∧ may rs p = false ∧ RetV (.int p) H Q
section
variable {K : PySem.W.Frag} {σ : L2.St} {H : Hp} {ta : TA} {te : TE} {C a d : Addr} {fs : List (Str × V)}
theorem ev_isx {c : V} {u : Value} {r : Bool} (h : EvA ta σ H [.ref a, c]) (ha : H a = some (ExT (.ref C) (some d) a)) (hd : H d = some (.xd fs)) (k : ClsV c u) (e : PySem.W.kitOne K (.ref C) u = some r) : Ev (tCB (rIsX K C) ta) σ H (.bl r) := fun H1 e1 Q q =>
  h H1 e1 _ fun H2 e2 => .inr ⟨a, d, fs, c, u, r, rfl, (e1.trans e2) _ _ ha, (e1.trans e2) _ _ hd, k, e, q H2 e2⟩
theorem ev_isn {c : V} {u : Value} {r : Bool} (h : EvA ta σ H [.non, c]) (k : ClsV c u) (e : PySem.W.kitOne K (.type "NoneType") u = some r) : Ev (tCB (rIsX K C) ta) σ H (.bl r) := fun H1 e1 Q q =>
  h H1 e1 _ fun H2 e2 => .inl ⟨.non, c, _, u, r, rfl, k, .base .non, e, q H2 e2⟩
theorem ev_xat {f : Str} {v : V} (h : Ev te σ H (.ref a)) (ha : H a = some (ExT (.ref C) (some d) a)) (hd : H d = some (.xd fs)) (l : fs.lookup f = some v) : Ev (tXat C f te) σ H v := fun H1 e1 Q q =>
  h H1 e1 _ fun H2 e2 => ⟨a, d, fs, v, rfl, (e1.trans e2) _ _ ha, (e1.trans e2) _ _ hd, l, q H2 e2⟩
end
/-- x, y = (a new list, ..) -/
theorem qtl_run {ta tb : TE} {gg : TG} {tz : TS} {D : Ends} {σ : L2.St} {H : Hp} {xs : List V} (h : EvL ta σ H xs) (k : ∀ (c : Addr) (H1 : Hp), H c = none → Ex H H1 → H1 c = some (.lst xs) → tb σ H1 fun y H2 => 2 ≤ sizeLine ∧ ∀ p, H2 p = none → gg (.ref p) σ (upd H2 p (.tup [.ref c, y])) fun σ2 H3 => tz D σ2 H3) : tSeq (tAsg (tTup (tCons ta (tCons tb tNil))) gg) tz D σ H := h H (Ex.refl H) _ k
theorem q_setR {K : PySem.W.Frag} {te : TE} {i : Nat} {tz : TS} {D : Ends} {σ : L2.St} {H : Hp} {rs : HH.Row} (h : EvR K te σ H rs) (k : ∀ v H1, Ex H H1 → RowAt K H1 v rs → tz D (σ.set i (some v)) H1) : tSeq (tAsg te (gName i)) tz D σ H := h H (Ex.refl H) _ k
/-- a number among the numbers that a call tells -/
theorem ev_inMay {K : PySem.W.Frag} {σ : L2.St} {H : Hp} {ta tb : TE} {l : List Nat} {k : Nat} (h1 : Ev ta σ H (.int (k : Int))) (h2 : EvL tb σ H (natsV l)) : Ev (tOp (rInD K) ta tb) σ H (.bl (decide (k ∈ l))) := fun H1 e1 Q k1 =>
  h1 H1 e1 _ fun H2 e2 => h2 H2 (e1.trans e2) _ fun q H3 _ e3 g3 => by
    have hs : SqL K H3 q _ := sq_of g3
    rw [natsV_ints] at hs
    have nn : Nice 1 (.list ((l.map fun (x : Nat) => (x : Int)).map PyData.int)) := nice_list (nice_ints _)
    refine ⟨.int (k : Int), (l.map fun (x : Nat) => (x : Int)).map PyData.int, .int _, .lst hs (dp_ints _), (nice_int 0 _).shaped (by decide), nn.shaped (by decide), ?_⟩
    rw [any_ints, decide_eq_decide.mpr mem_cast]
    exact k1 H3 (e2.trans e3)
theorem sS_of {rs : HH.Row} {i : Nat} {b : Int × Int} (h : rs[i]? = some b) : sS rs i = b.1 := by
  unfold sS
  rw [h]
  rfl
theorem tS_of {rs : HH.Row} {i : Nat} {b : Int × Int} (h : rs[i]? = some b) : tS rs i = b.2 := by
  unfold tS
  rw [h]
  rfl
theorem sS_cong {rs os : HH.Row} {i j : Nat} (h : os[i]? = rs[j]?) : sS os i = sS rs j := by
  unfold sS
  rw [h]
theorem tS_cong {rs os : HH.Row} {i j : Nat} (h : os[i]? = rs[j]?) : tS os i = tS rs j := by
  unfold tS
  rw [h]
theorem lk_one {f : Str} {v : V} : List.lookup f [(f, v)] = some v := by simp [List.lookup]
end HH
set_option maxHeartbeats 4000000
namespace HH
open PySem PySem.Spec PyProof.Rows L2 Evl RZ
/-! a passing fallen back, a falling passed again -/
theorem fall_then {rs : HH.Row} {k : Nat} (hk : k + 1 < rs.length) (h : fallsN rs k = true) : letsN (fallR rs k) (k + 1) = true ∧ passR (fallR rs k) (k + 1) = rs ∧ (fallR rs k).length = rs.length := by
  refine ⟨?_, ?_, fallR_len hk⟩
  · obtain ⟨pre, x, y, post, rfl, rfl⟩ := row_split hk
    rw [falls_split] at h
    rw [fall_split, lets_split]
    have := of_decide_eq_true h
    exact decide_eq_true (by dsimp only; omega)
  · obtain ⟨pre, x, y, post, rfl, rfl⟩ := row_split hk
    rw [fall_split, pass_split]
    obtain ⟨x1, x2⟩ := x
    dsimp only
    rw [Int.add_sub_cancel]
theorem pass_then {rs : HH.Row} {k : Nat} (h0 : 0 < k) (hk : k < rs.length) (h : letsN rs k = true) : fallsN (passR rs k) (k - 1) = true ∧ fallR (passR rs k) (k - 1) = rs ∧ (passR rs k).length = rs.length := by
  obtain ⟨j, rfl⟩ : ∃ j, k = j + 1 := ⟨k - 1, by omega⟩
  refine ⟨?_, ?_, passR_len h0 hk⟩
  · obtain ⟨pre, x, y, post, rfl, rfl⟩ := row_split hk
    rw [lets_split] at h
    rw [pass_split, Nat.add_sub_cancel, falls_split]
    have := of_decide_eq_true h
    exact decide_eq_true (by dsimp only; omega)
  · obtain ⟨pre, x, y, post, rfl, rfl⟩ := row_split hk
    rw [pass_split, Nat.add_sub_cancel, fall_split]
    obtain ⟨y1, y2⟩ := y
    dsimp only
    rw [Int.sub_add_cancel]
def spOneR (K : PySem.W.Frag) : Sp := fun vs H Q _ => ∃ (v : V) (rs : HH.Row), vs = [v] ∧ RowAt K H v rs ∧ 0 < rs.length ∧ rs.length ≤ 30 ∧ (∀ b ∈ rs, Low b) ∧ RetV (.bl true) H Q
theorem fallN (rs : HH.Row) : HH.fallL rs = natsV ((List.range rs.length).filter fun p => decide (p + 1 < rs.length) && fallsN rs p) := rfl
theorem fallL_flat (rs : HH.Row) : ∀ x ∈ HH.fallL rs, Flat x := fun x hx => by
  obtain ⟨i, _, rfl⟩ := List.mem_map.mp hx
  exact True.intro
theorem fallL_short (rs : HH.Row) (h : 0 < rs.length) : HH.fallL rs = given (rs.length - 1) (fallsN rs) (fun i => .int (i : Int)) := by
  obtain ⟨n, hn⟩ : ∃ n, rs.length = n + 1 := ⟨rs.length - 1, by omega⟩
  unfold HH.fallL given
  rw [hn, List.range_succ, List.filter_append, Nat.add_sub_cancel]
  have e1 : [n].filter (fun p => decide (p + 1 < n + 1) && fallsN rs p) = [] := by
    rw [List.filter_cons, if_neg (by rw [decide_eq_false (by omega), Bool.false_and]; decide)]
    rfl
  have e2 : (List.range n).filter (fun p => decide (p + 1 < n + 1) && fallsN rs p) = (List.range n).filter (fallsN rs) := List.filter_congr fun p hp => by
    have := List.mem_range.mp hp
    rw [decide_eq_true (by omega), Bool.true_and]
  rw [e1, e2, List.append_nil]
/-- a number that a call does not tell -/
theorem ev_notInMay {K : PySem.W.Frag} {σ : L2.St} {H : Hp} {ta tb : TE} {l : List Nat} {k : Nat} {c : Int} (h1 : Ev ta σ H (.int c)) (hc : c = (k : Int)) (h2 : EvL tb σ H (natsV l)) : Ev (tOp (rNotInD K) ta tb) σ H (.bl (!decide (k ∈ l))) := fun H1 e1 Q k1 =>
  h1 H1 e1 _ fun H2 e2 => h2 H2 (e1.trans e2) _ fun q H3 _ e3 g3 => by
    subst hc
    have hs : SqL K H3 q _ := sq_of g3
    rw [natsV_ints] at hs
    have nn : Nice 1 (.list ((l.map fun (x : Nat) => (x : Int)).map PyData.int)) := nice_list (nice_ints _)
    refine ⟨.int (k : Int), (l.map fun (x : Nat) => (x : Int)).map PyData.int, .int _, .lst hs (dp_ints _), (nice_int 0 _).shaped (by decide), nn.shaped (by decide), ?_⟩
    rw [any_ints, decide_eq_decide.mpr mem_cast]
    exact k1 H3 (e2.trans e3)
end HH
set_option maxHeartbeats 4000000
namespace HH
open PySem PySem.Spec PyProof.Rows L2 Evl RZ
theorem mul_none (l : Addr) (its : Array Value) (m : Nat) (dc : Option Addr) (sl : Array (Option Value)) (u : Tok) (hn : its.isEmpty = false) :
    Meets (Builtin.«tuple.__mul__» ⟨[.ref l, .int 0 u], []⟩) (fun _ R s => s.heap.get? l = some { cls := .type "tuple", dict := dc, data := .seq its m, slots := sl } ∧ R (.ok (.ret (.ref s.heap.objs.size))) { s with heap := s.heap.push { cls := .type "tuple", data := .seq #[] } }) :=
  .of_wp fun prog w A R s h => by
    obtain ⟨hp, g, d, tk, os⟩ := s
    obtain ⟨hl, h⟩ := h
    have f1 := AutoSeq1.idx_int
    wp_walk using wpAny_loadPart' hl
    exact ⟨_, rfl, h⟩
def rNil (K : PySem.W.Frag) : R2 := fun x y H Q => ∃ l xs, x = .ref l ∧ y = .int 0 ∧ SqT K H l xs ∧ xs ≠ [] ∧ ∀ p, H p = none → Q (.ref p) (upd H p (.tup []))
theorem op_nil {X : Cx} : OpR X (binaryOp .Mult) (rNil X.K) := by
  intro held st τ G x y v u Q I rx ry h
  obtain ⟨l, xs, rfl, rfl, hT, ne, q⟩ := h
  cases rx
  obtain ⟨t, rfl⟩ := ry
  obtain ⟨its, r, ⟨ob, ho, hc, m, hd⟩, _⟩ := I.tuple hT
  obtain ⟨cl, dc, da, sl⟩ := ob
  dsimp only at hc hd
  subst hc hd
  have ty : st.TypeIs (.ref l) "tuple" := ⟨_, ho, rfl⟩
  have hne : its.toArray.isEmpty = false := by
    have := r.length
    cases its with
    | nil =>
      cases xs with
      | nil => exact absurd rfl ne
      | cons a b => cases this
    | cons a b => rfl
  refine wpAny_binaryOp_repeat_ref (T := "tuple") (U := "int") (by decide) ty (fun s' => typeIs_int s' 0 t) noFill_tuple_mul F.fills_int_mul F.slot_int_rmul repeat_tuple F.slot_int_index.lookup ?_
  refine call_meets F.slot_int_rmul (typeIs_int st 0 t) F.entry_int_rmul (F.args_int_rmul_2 _ _) (int_rmul_tuple 0 t l its.toArray m dc sl) ⟨ho, rfl, ty, ?_⟩
  refine call_meets F.slot_tuple_mul ty F.entry_tuple_mul (F.args_tuple_mul_2 _ _) (mul_none l its.toArray m dc sl t hne) ⟨ho, ?_⟩
  have hf : G st.heap.objs.size = none := I.hok.fresh (Nat.le_refl _)
  refine ⟨.ref st.heap.objs.size, upd G st.heap.objs.size (.tup []), I.laid (t' := st.toks) (fun b u e => Heap.get?_push_of_some _ e) (Nat.le_refl _) ?_, rfl, q _ hf⟩
  exact ⟨by show 0 ≤ sizeLine; decide, [], .nil, ⟨_, Heap.get?_push_size _ rfl, rfl, _, rfl⟩⟩
def rRep01 (K : PySem.W.Frag) : R2 := fun x y H Q => rOnce K x y H Q ∨ rNil K x y H Q
theorem op_rep01 {X : Cx} : OpR X (binaryOp .Mult) (rRep01 X.K) := by
  intro held st τ G x y v u Q I rx ry h
  rcases h with h | h
  · exact op_once held st τ G x y v u Q I rx ry h
  · exact op_nil held st τ G x y v u Q I rx ry h
theorem rep01_run {K : PySem.W.Frag} {H : Hp} {v : V} {b : Int × Int} {n : Nat} {Q : VK} (hv : RowAt K H v [b]) (hn : n ≤ 1) (q : ∀ z H', Ex H H' → RowAt K H' z (List.replicate n b) → Q z H') : rRep01 K v (.int (n : Int)) H Q := by
  obtain ⟨a, us, rfl, ha, bs⟩ := hv
  match n, hn with
  | 0, _ =>
    refine .inr ⟨a, us, rfl, rfl, ha, fun z => ?_, fun p hp => ?_⟩
    · rw [z] at bs
      cases bs.1
    · exact q _ _ (Ex.new hp) ⟨p, [], rfl, st_of upd_same, Beasts.nil⟩
  | 1, _ => exact .inl ⟨a, us, rfl, rfl, ha, q _ H (Ex.refl H) ⟨a, us, rfl, ha, bs⟩⟩
theorem er_rep01 {K : PySem.W.Frag} {σ : L2.St} {H : Hp} {ta tb : TE} {b : Int × Int} {n : Nat} (h1 : EvR K ta σ H [b]) (h2 : Ev tb σ H (.int (n : Int))) (hn : n ≤ 1) : EvR K (tOp (rRep01 K) ta tb) σ H (List.replicate n b) := fun H1 e Q q =>
  h1 H1 e _ fun v H2 e2 hv => h2 H2 (e.trans e2) _ fun H3 e3 => by
    obtain ⟨a, us, rfl, ha, bs⟩ := hv.ex e3
    match n, hn with
    | 0, _ =>
      refine .inr ⟨a, us, rfl, rfl, ha, fun z => ?_, fun p hp => ?_⟩
      · rw [z] at bs
        cases bs.1
      · exact q _ _ ((e2.trans e3).trans (Ex.new hp)) ⟨p, [], rfl, st_of upd_same, Beasts.nil⟩
    | 1, _ => exact .inl ⟨a, us, rfl, rfl, ha, q _ H3 (e2.trans e3) ⟨a, us, rfl, ha, bs⟩⟩
end HH
set_option maxHeartbeats 4000000
namespace HH
open PySem PySem.Spec PyProof.Rows L2 Evl RZ
/-! what is written of data, and how long that is -/
def Shw (n : Nat) (d : PyData) : Prop := d.showable = true ∧ d.shown.length ≤ n
theorem Shw.le {n m : Nat} {d : PyData} (h : Shw n d) (e : n ≤ m) : Shw m d := ⟨h.1, Nat.le_trans h.2 e⟩
theorem shw_int {i : Int} (h : i.natAbs < 10 ^ 18) : Shw 19 (.int i) := ⟨by simp only [PyData.showable]; exact decide_eq_true (small_log h), shown_le18 h⟩
theorem shw_all {n : Nat} : ∀ {ds : List PyData}, (∀ d ∈ ds, Shw n d) → PyData.showableAll ds = true ∧ ((PyData.shownAll ds).map (·.length)).sum ≤ n * ds.length ∧ (PyData.shownAll ds).length = ds.length
  | [], _ => ⟨by simp [PyData.showableAll], by simp [PyData.shownAll], by simp [PyData.shownAll]⟩
  | d :: r, h => by
    obtain ⟨a1, a2⟩ := h d (List.mem_cons_self ..)
    obtain ⟨b1, b2, b3⟩ := shw_all (ds := r) fun c hc => h c (List.mem_cons_of_mem _ hc)
    refine ⟨by simp only [PyData.showableAll, a1, b1]; rfl, ?_, ?_⟩
    · simp only [List.map_cons, PyData.shownAll, List.sum_cons, List.length_cons]
      rw [Nat.mul_succ]
      omega
    · simp only [PyData.shownAll, List.length_cons]
      omega
theorem shw_tuple {n : Nat} {ds : List PyData} (h : ∀ d ∈ ds, Shw n d) : Shw ((n + 2) * ds.length + 10) (.tuple ds) := by
  obtain ⟨a, b, c⟩ := shw_all h
  refine ⟨by simp only [PyData.showable]; exact a, ?_⟩
  have e : (PyData.tuple ds).shown = tupleText (PyData.shownAll ds) := by simp only [PyData.shown]
  rw [e]
  have := tupleText_len_le (PyData.shownAll ds)
  rw [Nat.add_mul]
  omega
theorem shw_list {n : Nat} {ds : List PyData} (h : ∀ d ∈ ds, Shw n d) : Shw ((n + 2) * ds.length + 10) (.list ds) := by
  obtain ⟨a, b, c⟩ := shw_all h
  refine ⟨by simp only [PyData.showable]; exact a, ?_⟩
  have e : (PyData.list ds).shown = listText (PyData.shownAll ds) := by simp only [PyData.shown]
  rw [e]
  have := listText_len_le (PyData.shownAll ds)
  rw [Nat.add_mul]
  omega
theorem shw_row {rs : HH.Row} (h : ∀ b ∈ rs, Low b) : Shw (52 * rs.length + 10) (rowD rs) := by
  have := shw_tuple (n := 50) (ds := rs.map beastD) fun d hd => by
    obtain ⟨b, hb, rfl⟩ := List.mem_map.mp hd
    exact show_beast (h b hb)
  rw [List.length_map] at this
  exact this
theorem shw_nats {l : List Nat} (h : ∀ x ∈ l, x < 1000000) : Shw (21 * l.length + 10) (natsD l) := by
  have := shw_tuple (n := 19) (ds := (l.map fun (x : Nat) => (x : Int)).map PyData.int) fun d hd => by
    obtain ⟨i, hi, rfl⟩ := List.mem_map.mp hd
    obtain ⟨x, hx, rfl⟩ := List.mem_map.mp hi
    refine shw_int ?_
    have := h x hx
    show ((x : Int)).natAbs < 10 ^ 18
    omega
  rw [List.length_map, List.length_map] at this
  exact this
/-- repr of anything that can be read as data -/
theorem rc_reprD {K : PySem.W.Frag} {H : Hp} {a : Addr} {d : PyData} {n : Nat} (hd : Dp K H (.ref a) d) (hn : Nice 60 d) (hs : Shw n d) (hl : n ≤ 100000) : RC (fun xs H Q => ∃ (a : Addr) (d : PyData), xs = [.ref a] ∧ Dp K H (.ref a) d ∧ Nice 60 d ∧ d.showable = true ∧ d.shown.length ≤ sizeLine ∧ Q (.str d.shown) H) [.ref a] H (.str d.shown) := fun H1 e1 Q q =>
  ⟨a, d, rfl, dp_ex e1 hd, hn, hs.1, sz_of (Nat.le_trans hs.2 hl), q H1 (Ex.refl H1)⟩
/-- repr([row, order]) -/
def twoD (rs : HH.Row) (l : List Nat) : PyData := .list [rowD rs, natsD l]
theorem ev_repr2 {K : PySem.W.Frag} {σ : L2.St} {H : Hp} {ta tb : TE} {v : V} {o : Addr} {rs : HH.Row} {l : List Nat} (h1 : Ev ta σ H v) (hv : RowAt K H v rs) (h2 : Ev tb σ H (.ref o)) (ho : SqT K H o (natsV l)) (low : ∀ b ∈ rs, Low b) (hl : rs.length ≤ 100) (hx : ∀ x ∈ l, x < 1000000) (hy : l.length ≤ 100) :
    Ev (tCB (fun xs H Q => ∃ (a : Addr) (d : PyData), xs = [.ref a] ∧ Dp K H (.ref a) d ∧ Nice 60 d ∧ d.showable = true ∧ d.shown.length ≤ sizeLine ∧ Q (.str d.shown) H) (tCons (tLst (tCons ta (tCons tb tNil))) tNil)) σ H (.str (twoD rs l).shown) := fun H1 e1 Q q =>
  h1 H1 e1 _ fun H2 e2 => h2 H2 (e1.trans e2) _ fun H3 e3 => ⟨by show 2 ≤ sizeLine; decide, fun c hc => by
    have nc := Ex.new (o := .lst [v, .ref o]) hc
    have e := ((e1.trans e2).trans e3).trans nc
    obtain ⟨a, rfl, hd⟩ := (hv.ex e).dp
    have ho' := ex_t e ho
    have n1 : Nice 3 (twoD rs l) := nice_list fun d hd => by
      rcases List.mem_cons.mp hd with rfl | hd
      · exact nice_row rs
      · cases List.mem_singleton.mp hd
        exact nice_mono (nice_tuple (nice_ints _)) (by decide)
    have s1 : Shw 11000 (twoD rs l) := (shw_list (n := 5300) fun d hd => by
      rcases List.mem_cons.mp hd with rfl | hd
      · exact (shw_row low).le (by omega)
      · cases List.mem_singleton.mp hd
        exact (shw_nats hx).le (by omega)).le (by show (5300 + 2) * 2 + 10 ≤ 11000; decide)
    refine ⟨c, twoD rs l, rfl, .lst (sq_of upd_same) (.cons hd (.cons (dp_nats ho') .nil)), nice_mono n1 (by decide), s1.1, sz_of (Nat.le_trans s1.2 (by decide)), ?_⟩
    exact q _ ((e2.trans e3).trans nc)⟩
theorem repr2_is {K : PySem.W.Frag} {rs : HH.Row} {l : List Nat} (low : ∀ b ∈ rs, Low b) (hl : rs.length ≤ 100) (hx : ∀ x ∈ l, x < 1000000) (hy : l.length ≤ 100) :
    ∃ txt : Str, ∀ {σ : L2.St} {H : Hp} {ta tb : TE} {v : V} {o : Addr}, Ev ta σ H v → RowAt K H v rs → Ev tb σ H (.ref o) → SqT K H o (natsV l) → Ev (tCB (fun xs H Q => ∃ (a : Addr) (d : PyData), xs = [.ref a] ∧ Dp K H (.ref a) d ∧ Nice 60 d ∧ d.showable = true ∧ d.shown.length ≤ sizeLine ∧ Q (.str d.shown) H) (tCons (tLst (tCons ta (tCons tb tNil))) tNil)) σ H (.str txt) :=
  ⟨(twoD rs l).shown, fun h1 hv h2 ho => ev_repr2 h1 hv h2 ho low hl hx hy⟩
end HH
set_option maxHeartbeats 4000000
namespace HH
open PySem PySem.Spec PyProof.Rows L2 Evl
/-! list(zip(xs, ys)), xs and ys lists -/
theorem zip_no_len : typeLookup (.type "zip") "__len__" = pure none := by rw [typeLookup_type, builtinLookup_eq_fast]; kernel_rfl
theorem zip_no_hint : typeLookup (.type "zip") "__length_hint__" = pure none := by rw [typeLookup_type, builtinLookup_eq_fast]; kernel_rfl
/-- the pairs ps stand at us -/
def ZipA (H : Hp) (us : List V) (ps : List (V × V)) : Prop := All2 (fun u p => ∃ T, u = .ref T ∧ H T = some (.tup [p.1, p.2])) us ps
theorem ZipA.ex {H H' : Hp} {us : List V} {ps : List (V × V)} (h : ZipA H us ps) (e : Ex H H') : ZipA H' us ps := All2.mono (fun _ _ ⟨T, a, b⟩ => ⟨T, a, e _ _ b⟩) h
theorem ZipA.put {H : Hp} {q : Addr} {xs ys : List V} {us : List V} {ps : List (V × V)} (h : ZipA H us ps) (hq : H q = some (.lst xs)) : ZipA (upd H q (.lst ys)) us ps := All2.mono (fun _ _ ⟨T, a, b⟩ => ⟨T, a, by
  rw [upd_ne (fun z => by rw [z, hq] at b; cases b)]
  exact b⟩) h
/-- a zip after i items, its tuple given out -/
def ZS (h : Heap) (H : Hp) (z TI TO i1 i2 a b : Addr) (i : Nat) : Prop := IsPair h TI (.ref i1) (.ref i2) ∧ h.IsListIter i1 a i ∧ h.IsListIter i2 b i ∧
  ((IsZip h z TI TO .none ∧ ∃ x y, IsPair h TO x y) ∨ ∃ (T : Addr) (f : Bool) (p q : V), IsZipHeld h z TI TO T f ∧ H T = some (.tup [p, q]) ∧ ∃ o, h.get? TO = some o)
section
variable {X : Cx} {pins : List (Addr × Obj)} {σ : L2.St} {H H0 : Hp} {s : Shared} {z TI TO i1 i2 a b q : Addr} {xs ys : List V} {A A1 : Around} {E : Value → Shared → Prop}
abbrev FpL (X : Cx) (pins : List (Addr × Obj)) (H : Hp) (l : List Addr) : Prop := ∀ c ∈ l, FpOk X pins H c
theorem FpL.up {l : List Addr} {T : Addr} {o : HO} (h : FpL X pins H l) (ne : ∀ c ∈ l, c ≠ T) : FpL X pins (upd H T o) l := fun c hc => by
  obtain ⟨f0, f1⟩ := h c hc
  exact ⟨by rw [upd_ne (ne c hc)]; exact f0, f1⟩
theorem ZS.type {i : Nat} (h : ZS s.heap H z TI TO i1 i2 a b i) : s.TypeIs (.ref z) "zip" := by
  obtain ⟨_, _, _, h | h⟩ := h
  · exact ⟨_, h.1, rfl⟩
  · obtain ⟨_, _, _, _, h, _⟩ := h
    exact ⟨_, h, rfl⟩
theorem ZS.keep {h h' : Heap} {H' : Hp} {i : Nat} (st : ZS h H z TI TO i1 i2 a b i) (k : ∀ c ∈ [z, TI, TO, i1, i2], ∀ o, h.get? c = some o → h'.get? c = some o) (kH : ∀ T p q, H T = some (.tup [p, q]) → H' T = some (.tup [p, q])) : ZS h' H' z TI TO i1 i2 a b i := by
  obtain ⟨t, a1, a2, g⟩ := st
  refine ⟨k TI (by simp) _ t, a1.at fun o e => k i1 (by simp) o e, a2.at fun o e => k i2 (by simp) o e, ?_⟩
  rcases g with ⟨g1, x, y, g2⟩ | ⟨T, f, p, q, g1, g2, o, g3⟩
  · exact .inl ⟨k z (by simp) _ g1, x, y, k TO (by simp) _ g2⟩
  · exact .inr ⟨T, f, p, q, k z (by simp) _ g1, kH _ _ _ g2, o, k TO (by simp) _ g3⟩
/-- the next pair -/
theorem zip_turn {i : Nat} {x y : V} {Q : Option Value → Shared → Prop} (D : ZipApart z TI TO i1 i2 a b) (I : Inv X pins σ H s) (hf : FpL X pins H [z, TI, TO, i1, i2]) (st : ZS s.heap H z TI TO i1 i2 a b i)
    (hqx : SqL X.K H a xs) (hqy : SqL X.K H b ys) (hx : xs[i]? = some x) (hy : ys[i]? = some y)
    (k : ∀ (T : Addr) (h' : Heap), H T = none → Inv X pins σ (upd H T (.tup [x, y])) { s with heap := h' } → FpL X pins (upd H T (.tup [x, y])) [z, TI, TO, i1, i2] → ZS h' (upd H T (.tup [x, y])) z TI TO i1 i2 a b (i + 1) → Q (some (.ref T)) { s with heap := h' }) :
    wpAny (model X.prog X.w) A (pyNext (.ref z)) Q E s := by
  obtain ⟨its, rv, p, _⟩ := I.list hqx
  obtain ⟨its2, rv2, p2, _⟩ := I.list hqy
  obtain ⟨u, hu, ru⟩ := rv.get hx
  obtain ⟨u2, hu2, ru2⟩ := rv2.get hy
  obtain ⟨hTI, h1, h2, g⟩ := st
  have fr : H s.heap.objs.size = none := I.hok.fresh (Nat.le_refl _)
  have li1 : i1 < s.heap.objs.size := by obtain ⟨_, e1, _⟩ := h1; exact Heap.lt_size e1
  have li2 : i2 < s.heap.objs.size := by obtain ⟨_, e1, _⟩ := h2; exact Heap.lt_size e1
  have lTI : TI < s.heap.objs.size := Heap.lt_size hTI
  have fin : ∀ (h' : Heap), z < s.heap.objs.size → TO < s.heap.objs.size → IsPair h' s.heap.objs.size u u2 → (∀ c o, c ∉ [z, TI, TO, i1, i2] → s.heap.get? c = some o → h'.get? c = some o) → ZS h' (upd H s.heap.objs.size (.tup [x, y])) z TI TO i1 i2 a b (i + 1) → Q (some (.ref s.heap.objs.size)) { s with heap := h' } := fun h' lz lTO hT hk hz => by
    have new : ObjOk X.prog X.w (upd H s.heap.objs.size (.tup [x, y])) h' s.heap.objs.size (.tup [x, y]) :=
      ⟨by show 2 ≤ sizeLine; decide, [u, u2], .cons ru (.cons ru2 .nil), ⟨_, hT, rfl, _, rfl⟩⟩
    refine k _ h' fr (I.turnedNew (t' := s.toks) (ch := [z, TI, TO, i1, i2]) hk hf (Nat.le_refl _) new) (hf.up fun c hc => ?_) hz
    have e' : c = z ∨ c = TI ∨ c = TO ∨ c = i1 ∨ c = i2 := by simpa using hc
    rcases e' with q | q | q | q | q <;> rw [q] <;> first | exact Nat.ne_of_lt lz | exact Nat.ne_of_lt lTI | exact Nat.ne_of_lt lTO | exact Nat.ne_of_lt li1 | exact Nat.ne_of_lt li2
  rcases g with ⟨hz, x0, y0, hTO⟩ | ⟨T, f, p0, q0, hz, hT, o0, hTO⟩
  · refine wpAny_pyNext_zip_item D hz hTI hTO h1 h2 p.isList p2.isList (x := u) (y := u2) (by simpa using hu) (by simpa using hu2) fun h' z' TO' h1' h2' hT hsz hk => ?_
    exact fin h' (Heap.lt_size hz) (Heap.lt_size hTO) hT (fun c o hc e => hk c o (fun q' => hc (by simp [q'])) (fun q' => hc (by simp [q'])) (fun q' => hc (by simp [q'])) (fun q' => hc (by simp [q'])) e) ⟨hk _ _ D.TIz D.TITO D.TIi1 D.TIi2 hTI, h1', h2', .inr ⟨_, false, x, y, z', upd_same, _, TO'⟩⟩
  · obtain ⟨_, itsT, _, oT, hoT, _⟩ := I.hok T _ hT
    refine wpAny_pyNext_zip_item_held D hz hoT hTI h1 h2 p.isList p2.isList (x := u) (y := u2) (by simpa using hu) (by simpa using hu2) fun h' z' h1' h2' hT2 hsz hk => ?_
    have neT : T ≠ s.heap.objs.size := ne_of_none hT fr
    exact fin h' (Heap.lt_size hz) (Heap.lt_size hTO) hT2 (fun c o hc e => hk c o (fun q' => hc (by simp [q'])) (fun q' => hc (by simp [q'])) (fun q' => hc (by simp [q'])) e) ⟨hk _ _ D.TIz D.TIi1 D.TIi2 hTI, h1', h2', .inr ⟨T, true, p0, q0, z', by rw [upd_ne neT]; exact hT, o0, hk _ _ D.TOz D.TOi1 D.TOi2 hTO⟩⟩
/-- no further pair -/
theorem zip_stop {i : Nat} {Q : Option Value → Shared → Prop} (hh : A.handled = none) (D : ZipApart z TI TO i1 i2 a b) (I : Inv X pins σ H s) (hf : FpL X pins H [z, TI, TO, i1, i2]) (st : ZS s.heap H z TI TO i1 i2 a b i)
    (hqx : SqL X.K H a xs) (hqy : SqL X.K H b ys) (hx : xs.length ≤ i) (k : ∀ h' : Heap, Inv X pins σ H { s with heap := h' } → Q none { s with heap := h' }) :
    wpAny (model X.prog X.w) A (pyNext (.ref z)) Q E s := by
  obtain ⟨its, rv, p, _⟩ := I.list hqx
  obtain ⟨its2, rv2, p2, _⟩ := I.list hqy
  have l1 := rv.length
  have he : its.toArray[i]? = none := by simp; omega
  obtain ⟨hTI, h1, h2, g⟩ := st
  rcases g with ⟨hz, x0, y0, hTO⟩ | ⟨T, f, p0, q0, hz, hT, o0, hTO⟩
  · exact wpAny_pyNext_zip_end hh D hz hTI hTO h1 h2 p.isList p2.isList (.inl he) fun h' hk => k h' (I.turnedL (t' := s.toks) (ch := [z, TI, TO, i1, i2]) (fun c o hb q => hk c o (fun q' => hb (by simp [q'])) (fun q' => hb (by simp [q'])) (fun q' => hb (by simp [q'])) (fun q' => hb (by simp [q'])) q) hf)
  · obtain ⟨_, itsT, _, oT, hoT, _⟩ := I.hok T _ hT
    exact wpAny_pyNext_zip_end_held hh D hz hoT hTI h1 h2 p.isList p2.isList (.inl he) fun h' hk => k h' (I.turnedL (t' := s.toks) (ch := [z, TI, TO, i1, i2]) (fun c o hb q => hk c o (fun q' => hb (by simp [q'])) (fun q' => hb (by simp [q'])) (fun q' => hb (by simp [q'])) q) hf)
/-- the list at q is rewritten -/
theorem ZS.put {its its' : List Value} {n i : Nat} {us vs : List V} {f : Array Value → Array Value} (hf : FpL X pins H [z, TI, TO, i1, i2]) (hq : H q = some (.lst us)) (st : ZS s.heap H z TI TO i1 i2 a b i) :
    ZS (s.heap.update q (Obj.mapSeq f)) (upd H q (.lst vs)) z TI TO i1 i2 a b i :=
  st.keep (fun c hc o e => (Heap.get?_update_other s.heap (Obj.mapSeq f) (fun w => by
    have := (hf c hc).1
    rw [← w, hq] at this
    cases this)).trans e) (fun T p r hT => by
      rw [upd_ne (fun w => by rw [w, hq] at hT; cases hT)]
      exact hT)
theorem FpL.put {us vs : List V} (hf : FpL X pins H [z, TI, TO, i1, i2]) (hq : H q = some (.lst us)) : FpL X pins (upd H q (.lst vs)) [z, TI, TO, i1, i2] := hf.up fun c hc w => by
  have := (hf c hc).1
  rw [w, hq] at this
  cases this
theorem zip_loop {Rs : Result → Shared → Prop} (hh : A1.handled = none) (D : ZipApart z TI TO i1 i2 a b) (hqx : SqL X.K H0 a xs) (hqy : SqL X.K H0 b ys) (hl : xs.length = ys.length) (hz : xs.length ≤ 1000) (h0 : H0 q = none)
    (hdone : ∀ us H' s', Inv X pins σ H' s' → Ex H0 H' → H' q = some (.lst us) → ZipA H' us (xs.zip ys) → Rs (.ok (.ret .none)) s') :
    ∀ (m i : Nat) (us : List V) (H : Hp) (s : Shared), i + m = xs.length → Inv X pins σ H s → FpL X pins H [z, TI, TO, i1, i2] → ZS s.heap H z TI TO i1 i2 a b i → Ex H0 H → H q = some (.lst us) → ZipA H us ((xs.zip ys).take i) →
      codeAny (model X.prog X.w) A1 (.builtin "list.extend.loop" ⟨[.ref q, .ref z, .none], []⟩) Rs s := by
  intro m
  induction m with
  | zero =>
    intro i us H s hi I hf st e hq za
    refine codeAny_builtin PySem.F.entry_extend_loop ?_
    rw [Around.under_plainId PySem.F.plain_extend_loop _]
    show wpAny _ A1.in1 (pyNext (.ref z) >>= _) _ _ s
    refine wpAny_bind (zip_stop (by exact hh) D I hf st (ex_l e hqx) (ex_l e hqy) (by omega) fun h' I' => wpAny_pure (hdone us H _ I' e hq ?_))
    rw [List.take_of_length_le (by rw [List.length_zip]; omega)] at za
    exact za
  | succ m ih =>
    intro i us H s hi I hf st e hq za
    refine codeAny_builtin PySem.F.entry_extend_loop ?_
    rw [Around.under_plainId PySem.F.plain_extend_loop _]
    show wpAny _ A1.in1 (pyNext (.ref z) >>= _) _ _ s
    have ix : i < xs.length := by omega
    have iy : i < ys.length := by omega
    refine wpAny_bind (zip_turn D I hf st (ex_l e hqx) (ex_l e hqy) (List.getElem?_eq_getElem ix) (List.getElem?_eq_getElem iy) fun T h' fT I' hf' st' => ?_)
    have hq' : upd H T (.tup [xs[i], ys[i]]) q = some (.lst us) := by rw [upd_ne (ne_of_none hq fT)]; exact hq
    have eT := Ex.new (o := .tup [xs[i], ys[i]]) fT
    have gT : upd H T (.tup [xs[i], ys[i]]) T = some (.tup [xs[i], ys[i]]) := upd_same
    have za' := za.ex eT
    have e' := e.trans eT
    generalize upd H T (.tup [xs[i], ys[i]]) = H1 at I' hf' st' hq' gT za' e'
    show wpAny _ A1.in1 (updateSeq q (·.push (.ref T)) >>= _) _ _ _
    obtain ⟨w1, its, k, r2, hl2, eq⟩ := I'.lstM hq'
    have lus : us.length = i := by rw [All2.len za, List.length_take, List.length_zip]; omega
    refine wpAny_bind (wpAny_updateSeq eq rfl (wpAny_pure ⟨plainId_quiet PySem.F.plain_extend_loop _, ?_⟩) (by rw [List.size_toArray]; omega) (by show (its.toArray.push _).size ≤ sizeLine + 1; rw [Array.size_push, List.size_toArray]; omega))
    have lz : us.length + 1 ≤ sizeLine := by rw [sizeLine_eq]; omega
    refine ih (i + 1) (us ++ [.ref T]) _ _ (by omega) (I'.lset (its' := its ++ [.ref T]) (t' := s.toks) hq' eq (by simp) (r2.append (.cons (show L2.RelV (.ref T) (.ref T) from rfl) .nil)) (by rw [List.length_append]; exact lz)) (hf'.put hq') (ZS.put (its := its) (its' := its) (n := k) hf' hq' st') (Ex.mut e' h0) upd_same ?_
    rw [List.take_add_one, List.getElem?_eq_getElem (by rw [List.length_zip]; omega)]
    refine ZipA.put (All2.app za' (.cons ⟨T, rfl, ?_⟩ .nil)) hq'
    rw [gT, List.getElem_zip]
theorem zip_extend {Rs : Result → Shared → Prop} (hh : A1.handled = none) (D : ZipApart z TI TO i1 i2 a b) (hqx : SqL X.K H0 a xs) (hqy : SqL X.K H0 b ys) (hl : xs.length = ys.length) (hz : xs.length ≤ 1000) (h0 : H0 q = none)
    (hdone : ∀ us H' s', Inv X pins σ H' s' → Ex H0 H' → H' q = some (.lst us) → ZipA H' us (xs.zip ys) → Rs (.ok (.ret .none)) s')
    (I : Inv X pins σ (upd H0 q (.lst [])) s) (hf : FpL X pins (upd H0 q (.lst [])) [z, TI, TO, i1, i2]) (st : ZS s.heap (upd H0 q (.lst [])) z TI TO i1 i2 a b 0) (hz0 : IsZip s.heap z TI TO .none) :
    wpAny (model X.prog X.w) A1.in1 (Builtin.List.listExtendWith (.ref q) (.ref z) .none)
      (fun fin s' => match fin with | .done f => Rs (.ok f) s' | .again c' => c'.quiet = true ∧ codeAny (model X.prog X.w) A1 c' Rs s') (fun e s' => Rs (.error e) s') s := by
  have hq : upd H0 q (.lst []) q = some (.lst []) := upd_same
  have hne : q ≠ z := fun w => by
    have := (hf z (by simp)).1
    rw [← w, hq] at this
    cases this
  have hT : s.TypeIs (.ref z) "zip" := st.type
  unfold Builtin.List.listExtendWith
  refine wpAny_bind (wpAny_typeOf hT ?_)
  have h1 : Builtin.List.listSameRef (.ref q) (.ref z) = false := by simp [Builtin.List.listSameRef, hne]
  have h2 : (Value.type "zip" == Value.type "list") = false := by decide
  have h3 : (Value.type "zip" == Value.type "tuple") = false := by decide
  simp only [h1, h2, h3, Bool.or_false, Bool.false_eq_true, if_false]
  refine wpAny_bind (wpAny_pyIter_zip hz0 ?_)
  refine wpAny_bind (wpAny_holding ?_)
  unfold Builtin.List.listLengthHint
  refine wpAny_bind (wpAny_specialOf hT zip_no_len ?_)
  show wpAny _ A1.in1 (specialOf (Value.ref z) (Str.ofString "__length_hint__") >>= _) _ _ _
  refine wpAny_bind (wpAny_specialOf hT zip_no_hint ?_)
  refine wpAny_pure ?_
  show wpAny _ A1.in1 (rule "list.extend.makes-room" >>= fun _ => Builtin.List.listTouch (.ref q) >>= fun _ =>
    again (.builtin "list.extend.loop" ⟨[.ref q, .ref z, .none], []⟩)) _ _ _
  refine wpAny_bind (wpAny_rule ?_)
  refine wpAny_bind ?_
  show wpAny _ A1.in1 (updateSeq q (·.push .none) >>= fun _ => updateSeq q (·.pop)) _ _ _
  obtain ⟨w3, its, k, r3, hl3, e3⟩ := I.lstM hq
  cases r3
  refine wpAny_bind (wpAny_updateSeq e3 rfl ?_)
  have I2 := I.lset (f := (·.push Value.none)) (its' := [Value.none]) (ys := [.non]) (t' := s.toks) hq e3 (by simp) (.cons rfl .nil) (by rw [List.length_singleton, sizeLine_eq]; decide)
  have hf2 := hf.put (vs := [.non]) hq
  have st2 := ZS.put (f := (·.push Value.none)) (vs := [.non]) (its := []) (its' := []) (n := 0) hf hq st
  obtain ⟨z4, its4, k4, r4, hl4, e4⟩ := I2.lstM upd_same
  obtain ⟨u4, rfl, ru4⟩ := r4.one
  refine wpAny_updateSeq e4 rfl ?_ (by show 1 ≤ sizeLine; rw [sizeLine_eq]; decide) (by show 0 ≤ sizeLine + 1; exact Nat.zero_le _)
  have I3 := I2.lset (f := (·.pop)) (its := [u4]) (its' := []) (ys := []) (t' := s.toks) upd_same e4 (by rfl) .nil (Nat.zero_le _)
  have hf3 := hf2.put (vs := []) upd_same
  have st3 := ZS.put (s := { s with heap := s.heap.update q (Obj.mapSeq (·.push Value.none)) }) (f := (·.pop)) (vs := []) (its := []) (its' := []) (n := 0) hf2 upd_same st2
  refine wpAny_pure ⟨plainId_quiet PySem.F.plain_extend_loop _, zip_loop hh D hqx hqy hl hz h0 hdone xs.length 0 [] _ _ (by omega) I3 hf3 st3 ?_ upd_same .nil⟩
  rw [upd_upd, upd_upd]
  exact Ex.new h0
theorem fiveN {p : Addr → Prop} {n : Nat} (f : ∀ k : Nat, k < 5 → p (n + k)) : ∀ c ∈ [n + 4, n + 2, n + 3, n, n + 1], p c := by
  intro c hc
  simp only [List.mem_cons, List.not_mem_nil, or_false] at hc
  rcases hc with rfl | rfl | rfl | rfl | rfl
  · exact f 4 (by decide)
  · exact f 2 (by decide)
  · exact f 3 (by decide)
  · exact f 0 (by decide)
  · exact f 1 (by decide)
def tListZip (K : PySem.W.Frag) (ta : TA) : TE := fun σ H Q => ta σ H fun vs H1 => ∃ (a b : Addr) (xs ys : List V), vs = [.ref a, .ref b] ∧ SqL K H1 a xs ∧ SqL K H1 b ys ∧ xs.length = ys.length ∧ xs.length ≤ 1000 ∧
  ∀ (q : Addr) (us : List V) (H2 : Hp), H1 q = none → Ex H1 H2 → H2 q = some (.lst us) → ZipA H2 us (xs.zip ys) → Q (.ref q) H2
theorem pe_listZip {e e2 : Expr} {ta : TA} {p p2 q pos : Pos} (hc : X.calm = true) (hg : Gl X "list") (hm : X.mg "list" = none) (hg2 : Gl X "zip") (hm2 : X.mg "zip" = none) (ha : PA X [e, e2] ta)
    (hs : starEach [e, e2] X.env = (false, eval e X.env) :: starEach [e2] X.env := by rfl) (hpl : (backTo q (starEach [e2] X.env)).any (·.1) = false := by rfl) :
    PE X (.Call (.Name "list" p) [.Call (.Name "zip" p2) [e, e2] [] q] [] pos) (tListZip X.K ta) := by
  refine ⟨fun pins s σ H Q I0 hq => ?_⟩
  refine Call_ (ld_blt I0 hg hm PyProof.Rows.boot_list ?_)
  refine PyProof.Rows.callWith_type1 (args_cons ?_ rfl) rfl rfl
  refine Call_ (ld_blt I0 hg2 hm2 PyProof.Rows.boot_zip (PyProof.Rows.callWith_type1 (thn (ha.run q pins s σ H _ I0 hq) fun us s1 ⟨vs, H1, I1, r1, q1⟩ => ?_) hs hpl))
  obtain ⟨a, b, xs, ys, ex, hqx, hqy, hl, hz, k⟩ := q1
  subst ex
  cases r1 with
  | cons r rr =>
    cases rr with
    | cons r' rr =>
      cases rr
      cases r
      cases r'
      obtain ⟨ix, rx, lx, _⟩ := I1.list hqx
      obtain ⟨iy, ry, ly, _⟩ := I1.list hqy
      have D := PySem.W.ktu_apart s1.heap.objs.size a b lx.lt ly.lt
      refine call_zip_2 lx.isList ly.isList fun h' hz0 hTI hTO h1 h2 hsz hk => args_nil ?_
      have I2 : Inv X pins σ H1 { heap := h', gens := s1.gens, drawn := s1.drawn, toks := s1.toks, os := s1.os } := I1.kept hk
      have hf : FpL X pins H1 [s1.heap.objs.size + 4, s1.heap.objs.size + 2, s1.heap.objs.size + 3, s1.heap.objs.size, s1.heap.objs.size + 1] := fiveN (p := FpOk X pins H1) fun k _ => I1.fpOk (Nat.le_add_right _ k) (I1.hok.fresh (Nat.le_add_right _ k))
      have st : ZS h' H1 (s1.heap.objs.size + 4) (s1.heap.objs.size + 2) (s1.heap.objs.size + 3) s1.heap.objs.size (s1.heap.objs.size + 1) a b 0 := ⟨hTI, h1, h2, .inl ⟨hz0, _, _, hTO⟩⟩
      have hne := fiveN (n := s1.heap.objs.size) (p := fun c => c ≠ h'.objs.size) fun k hk => by
        have e : h'.objs.size = s1.heap.objs.size + 5 := hsz
        rw [e]
        exact Nat.ne_of_lt (Nat.add_lt_add_left hk _)
      generalize s1.heap.objs.size + 4 = z at hf st D hz0 hne ⊢
      generalize s1.heap.objs.size + 2 = TI at hf st D hz0 hne
      generalize s1.heap.objs.size + 3 = TO at hf st D hz0 hne
      generalize s1.heap.objs.size + 1 = i2 at hf st D hne
      generalize s1.heap.objs.size = i1 at hf st D hne
      refine callType_codes (Q₁ := fun obj s₁ => obj = .ref h'.objs.size ∧ s₁ = { s1 with heap := h'.push { cls := .type "list", data := .seq #[] } }) PySem.F.called_list (PySem.F.typeCall_list_1 _) PySem.F.entry_list_init
        (code_list_new (s := { s1 with heap := h' }) _ ⟨rfl, rfl⟩) fun obj s₁ h₁ => ?_
      obtain ⟨rfl, rfl⟩ := h₁
      have hS : (h'.push { cls := .type "list", data := .seq #[] }).get? h'.objs.size = some { cls := .type "list", data := .seq #[] } := Heap.get?_push_size _ rfl
      refine ⟨⟨_, hS, rfl⟩, PySem.F.args_list_init_2 _ _, ?_⟩
      have fr : H1 h'.objs.size = none := I2.hok.fresh (Nat.le_refl _)
      have I3 : Inv X pins σ (upd H1 h'.objs.size (.lst [])) { s1 with heap := h'.push { cls := .type "list", data := .seq #[] } } := I2.lnew (its := []) (t' := s1.toks) .nil (Nat.zero_le _)
      have hf3 : FpL X pins (upd H1 h'.objs.size (.lst [])) [z, TI, TO, i1, i2] := hf.up hne
      have st3 : ZS (h'.push { cls := .type "list", data := .seq #[] }) (upd H1 h'.objs.size (.lst [])) z TI TO i1 i2 a b 0 := st.keep (fun c _ o e => Heap.get?_push_of_some _ e) fun T p r hT => by
        rw [upd_ne (ne_of_none hT fr)]
        exact hT
      show wpAny _ _ (do let old ← Builtin.List.listItems (.ref h'.objs.size); Builtin.List.listUpdate (.ref h'.objs.size) (fun _ => #[]); letGo old.toList.reverse; Builtin.List.listExtendWith (.ref h'.objs.size) (.ref z) .none) _ _ _
      refine wpAny_bind ?_
      unfold Builtin.List.listItems
      refine wpAny_bind (wpAny_seqItems hS rfl (wpAny_pure ?_))
      show wpAny _ _ (updateSeq h'.objs.size (fun _ => #[]) >>= fun _ => letGo (#[] : Array Value).toList.reverse >>= fun _ => Builtin.List.listExtendWith (.ref h'.objs.size) (.ref z) .none) _ _ _
      refine wpAny_bind (wpAny_updateSeq hS rfl ?_)
      have I4 := I3.lset (f := fun _ => #[]) (its := []) (its' := []) (ys := []) (t' := s1.toks) upd_same hS rfl .nil (Nat.zero_le _)
      have hf4 := hf3.put (vs := []) upd_same
      have st4 := ZS.put (s := { s1 with heap := h'.push { cls := .type "list", data := .seq #[] } }) (f := fun _ => #[]) (vs := []) (its := []) (its' := []) (n := 0) hf3 upd_same st3
      rw [upd_upd] at I4 hf4 st4
      refine wpAny_bind (wpAny_letGo ?_)
      have hz4 : IsZip ((h'.push { cls := .type "list", data := .seq #[] }).update h'.objs.size (Obj.mapSeq fun _ => #[])) z TI TO .none := (Heap.get?_update_other _ _ (Ne.symm (hne z (by simp)))).trans (Heap.get?_push_of_some _ hz0)
      exact zip_extend (A1 := X.A.in1) (Rs := wants (fun r s₂ => r = .none ∧ EP X pins σ Q (.ref h'.objs.size) s₂) X.xe) (by exact I1.ok.hd hc) D hqx hqy hl hz fr
        (fun us H' s' I' e' g' za => ⟨rfl, .ref h'.objs.size, H', I', rfl, k _ us H' fr e' g' za⟩) I4 hf4 st4 hz4
end
end HH
set_option maxHeartbeats 4000000
namespace HH
open PySem PySem.Spec PyProof.Rows L2 Evl
/-! hay: what the pairs turned about have given and taken -/
def tlN (rs : HH.Row) (i : Nat) : Int := ((rs[i]?).getD (0, 0)).2
def ctT (e : List Nat) (rs : HH.Row) (p : Int × Int) (k : Nat) : Int := if bef e p.2.toNat p.1.toNat = true then (if k = p.1.toNat then tlN rs p.1.toNat else 0) else (if k = p.2.toNat then - tlN rs p.2.toNat else 0)
def ctP (e : List Nat) (rs : HH.Row) (p : Int × Int) (k : Nat) : Int := if bef e p.2.toNat p.1.toNat = true then (if k = p.2.toNat then tlN rs p.1.toNat else 0) else (if k = p.1.toNat then - tlN rs p.2.toNat else 0)
def sT (e : List Nat) (rs : HH.Row) (ps : HH.Row) (k : Nat) : Int := (ps.map fun p => ctT e rs p k).sum
def sP (e : List Nat) (rs : HH.Row) (ps : HH.Row) (k : Nat) : Int := (ps.map fun p => ctP e rs p k).sum
theorem sum_perm {xs ys : List Int} (h : xs.Perm ys) : xs.sum = ys.sum := by
  induction h with
  | nil => rfl
  | cons x _ ih => rw [List.sum_cons, List.sum_cons, ih]
  | swap x y l => rw [List.sum_cons, List.sum_cons, List.sum_cons, List.sum_cons]; omega
  | trans _ _ a b => rw [a, b]
theorem sum_snoc (xs : List Int) (x : Int) : (xs ++ [x]).sum = xs.sum + x := by
  induction xs with
  | nil => rw [List.nil_append, List.sum_cons, List.sum_nil]; omega
  | cons y r ih => rw [List.cons_append, List.sum_cons, List.sum_cons, ih]; omega
theorem sT_perm {e : List Nat} {rs ps qs : HH.Row} (h : ps.Perm qs) (k : Nat) : sT e rs ps k = sT e rs qs k := sum_perm (h.map _)
theorem sP_perm {e : List Nat} {rs ps qs : HH.Row} (h : ps.Perm qs) (k : Nat) : sP e rs ps k = sP e rs qs k := sum_perm (h.map _)
theorem sT_snoc (e : List Nat) (rs ps : HH.Row) (p : Int × Int) (k : Nat) : sT e rs (ps ++ [p]) k = sT e rs ps k + ctT e rs p k := by
  unfold sT
  rw [List.map_append]
  exact sum_snoc _ _
theorem sP_snoc (e : List Nat) (rs ps : HH.Row) (p : Int × Int) (k : Nat) : sP e rs (ps ++ [p]) k = sP e rs ps k + ctP e rs p k := by
  unfold sP
  rw [List.map_append]
  exact sum_snoc _ _
theorem tab_told {l : List Nat} {n : Nat} (hl : ∀ x ∈ l, x < n) : Told n l (tab l n n) := ⟨fun p => by
  rw [mem_tab]
  constructor
  · rintro ⟨i, j, h1, h2, h3, h4⟩
    exact ⟨i, j, h1, h3, h4⟩
  · rintro ⟨i, j, h1, h2, h3⟩
    exact ⟨i, j, h1, hl _ (bef_mem h3).1, h2, h3⟩, nd_tab _ _ _⟩
/-- one more pair is turned about -/
theorem tab_swap {n a b : Nat} {A B : List Nat} (hab : a < b) (nd : (A ++ a :: b :: B).Nodup) (hl : ∀ x ∈ A ++ a :: b :: B, x < n) : (tab (A ++ a :: b :: B) n n ++ [((a : Int), (b : Int))]).Perm (tab (A ++ b :: a :: B) n n) := by
  refine told_tab (told_swap (tab_told hl) hab nd) fun x hx => hl x ?_
  have : (A ++ b :: a :: B).Perm (A ++ a :: b :: B) := List.Perm.append_left A (List.Perm.swap ..)
  exact this.mem_iff.mp hx
theorem bef_asy {l : List Nat} (nd : l.Nodup) {i j : Nat} (h : bef l i j = true) : bef l j i = false := by
  obtain ⟨p, q, hpq, h1, h2⟩ := bef_get h
  rw [bef_iff nd h2 h1]
  exact decide_eq_false (by omega)
theorem bef_totl {l : List Nat} (nd : l.Nodup) {i j : Nat} (hi : i ∈ l) (hj : j ∈ l) (ne : i ≠ j) : bef l i j = true ∨ bef l j i = true := by
  obtain ⟨p, hp⟩ := List.getElem?_of_mem hi
  obtain ⟨q, hq⟩ := List.getElem?_of_mem hj
  rw [bef_iff nd hp hq, bef_iff nd hq hp]
  have : p ≠ q := fun z => by
    rw [z, hq] at hp
    exact ne (Option.some.inj hp).symm
  rcases Nat.lt_or_gt_of_ne this with h | h
  · exact .inl (decide_eq_true h)
  · exact .inr (decide_eq_true h)
theorem bef_adj {A B : List Nat} {a b : Nat} (nd : (A ++ a :: b :: B).Nodup) : bef (A ++ a :: b :: B) a b = true := by
  have g1 : (A ++ a :: b :: B)[A.length]? = some a := by simp
  have g2 : (A ++ a :: b :: B)[A.length + 1]? = some b := by
    rw [List.getElem?_append_right (by omega), show A.length + 1 - A.length = 1 by omega]
    rfl
  rw [bef_iff nd g1 g2]
  exact decide_eq_true (by omega)
/-- who has passed another is ahead of it at last -/
theorem pass_ahead {pre post E : List Cow} {a b : Cow} (t : ∀ x ∈ pre ++ a :: b :: post, 0 ≤ x.2.2) (nd : ((pre ++ a :: b :: post).map (·.1)).Nodup) (hp : b.2.1 - a.2.2 > a.2.1) (sE : Steps (pre ++ (b.1, (b.2.1 - a.2.2, b.2.2)) :: a :: post) E) : bef (E.map (·.1)) b.1 a.1 = true := by
  have s : Step (pre ++ a :: b :: post) (pre ++ (b.1, (b.2.1 - a.2.2, b.2.2)) :: a :: post) := ⟨_, _, _, _, rfl, hp, rfl⟩
  have idE := ((Steps.head s sE).ids)
  have ndE : (E.map (·.1)).Nodup := idE.nodup_iff.mpr nd
  have e1 : (pre ++ a :: b :: post).map (·.1) = pre.map (·.1) ++ a.1 :: b.1 :: post.map (·.1) := by rw [List.map_append]; rfl
  have e2 : (pre ++ (b.1, (b.2.1 - a.2.2, b.2.2)) :: a :: post).map (·.1) = pre.map (·.1) ++ b.1 :: a.1 :: post.map (·.1) := by rw [List.map_append]; rfl
  have nd1 := nd
  rw [e1] at nd1
  have ne : a.1 ≠ b.1 := by
    have := (List.nodup_append.mp nd1).2.1
    intro z
    exact (List.nodup_cons.mp this).1 (by rw [z]; exact List.mem_cons_self ..)
  have ma : a.1 ∈ E.map (·.1) := idE.mem_iff.mpr (by rw [e1]; simp)
  have mb : b.1 ∈ E.map (·.1) := idE.mem_iff.mpr (by rw [e1]; simp)
  rcases bef_totl ndE mb ma (Ne.symm ne) with h | h
  · exact h
  · exfalso
    have := mid_keeps t nd (.one s) sE (a := a.1) (b := b.1) (by rw [e1]; exact bef_adj nd1) h
    have nd2 : (pre.map (·.1) ++ b.1 :: a.1 :: post.map (·.1)).Nodup := by
      rw [← e2]
      exact (s.ids).nodup_iff.mpr nd
    rw [e2] at this
    have z := bef_asy nd2 this
    rw [bef_adj nd2] at z
    cases z
/-- x stood ahead of y, y stands ahead of x; the taker is who is passed at last -/
theorem hay_swap {n x y : Nat} {A B e : List Nat} {rs : HH.Row} (nde : e.Nodup) (nd : (A ++ x :: y :: B).Nodup) (hl : ∀ z ∈ A ++ x :: y :: B, z < n) :
    (bef e y x = true → ∀ k, sT e rs (tab (A ++ y :: x :: B) n n) k = sT e rs (tab (A ++ x :: y :: B) n n) k + (if k = x then tlN rs x else 0) ∧ sP e rs (tab (A ++ y :: x :: B) n n) k = sP e rs (tab (A ++ x :: y :: B) n n) k + (if k = y then tlN rs x else 0)) ∧
    (bef e x y = true → ∀ k, sT e rs (tab (A ++ y :: x :: B) n n) k = sT e rs (tab (A ++ x :: y :: B) n n) k - (if k = y then tlN rs y else 0) ∧ sP e rs (tab (A ++ y :: x :: B) n n) k = sP e rs (tab (A ++ x :: y :: B) n n) k - (if k = x then tlN rs y else 0)) := by
  have ne : x ≠ y := by
    have := (List.nodup_append.mp nd).2.1
    intro z
    exact (List.nodup_cons.mp this).1 (by rw [z]; exact List.mem_cons_self ..)
  have pm : (A ++ y :: x :: B).Perm (A ++ x :: y :: B) := List.Perm.append_left A (List.Perm.swap ..)
  rcases Nat.lt_or_gt_of_ne ne with h | h
  · have p := tab_swap h nd hl
    have t := fun k => (sT_perm (e := e) (rs := rs) p k).symm.trans (sT_snoc e rs _ _ k)
    have u := fun k => (sP_perm (e := e) (rs := rs) p k).symm.trans (sP_snoc e rs _ _ k)
    constructor
    · intro hb k
      rw [t, u]
      unfold ctT ctP
      simp only [Int.toNat_natCast, hb, if_true]
      exact ⟨trivial, trivial⟩
    · intro hb k
      rw [t, u]
      unfold ctT ctP
      simp only [Int.toNat_natCast, bef_asy nde hb, Bool.false_eq_true, if_false]
      constructor <;> split <;> omega
  · have p := tab_swap h (pm.nodup_iff.mpr nd) (fun z hz => hl z (pm.mem_iff.mp hz))
    have t := fun k => (sT_perm (e := e) (rs := rs) p k).symm.trans (sT_snoc e rs _ _ k)
    have u := fun k => (sP_perm (e := e) (rs := rs) p k).symm.trans (sP_snoc e rs _ _ k)
    constructor
    · intro hb k
      rw [t, u]
      unfold ctT ctP
      simp only [Int.toNat_natCast, bef_asy nde hb, Bool.false_eq_true, if_false]
      constructor <;> split <;> omega
    · intro hb k
      rw [t, u]
      unfold ctT ctP
      simp only [Int.toNat_natCast, hb, if_true]
      constructor <;> split <;> omega
/-! a run, state by state -/
def MStep (M N : List Cow) (d : Deed) : Prop := ∃ (pre post : List Cow) (a b : Cow), M = pre ++ a :: b :: post ∧ ((d = (true, pre.length + 1) ∧ b.2.1 - a.2.2 > a.2.1 ∧ N = pre ++ (b.1, (b.2.1 - a.2.2, b.2.2)) :: a :: post) ∨ (d = (false, pre.length) ∧ a.2.1 > b.2.1 ∧ N = pre ++ b :: (a.1, (a.2.1 + b.2.2, a.2.2)) :: post))
theorem run_states {L0 L : List Cow} {ds : List Deed} (r : MRun L0 L ds) : ∃ Ms : Nat → List Cow, Ms 0 = L0 ∧ Ms ds.length = L ∧ (∀ k d, ds[k]? = some d → MStep (Ms k) (Ms (k + 1)) d) ∧ ∀ k, k ≤ ds.length → ∃ ds', MRun L0 (Ms k) ds' := by
  have ext : ∀ {M N : List Cow} {d : Deed} {ds : List Deed}, MRun L0 M ds → MStep M N d → MRun L0 N (ds ++ [d]) → (∃ Ms : Nat → List Cow, Ms 0 = L0 ∧ Ms ds.length = M ∧ (∀ k d, ds[k]? = some d → MStep (Ms k) (Ms (k + 1)) d) ∧ ∀ k, k ≤ ds.length → ∃ ds', MRun L0 (Ms k) ds') →
      ∃ Ms : Nat → List Cow, Ms 0 = L0 ∧ Ms (ds ++ [d]).length = N ∧ (∀ k d', (ds ++ [d])[k]? = some d' → MStep (Ms k) (Ms (k + 1)) d') ∧ ∀ k, k ≤ (ds ++ [d]).length → ∃ ds', MRun L0 (Ms k) ds' := by
    intro M N d ds r st rN ⟨Ms, h0, h1, h2, h3⟩
    refine ⟨fun k => if k ≤ ds.length then Ms k else N, ?_, ?_, fun k d' hk => ?_, fun k hk => ?_⟩
    · show (if 0 ≤ ds.length then Ms 0 else N) = L0
      rw [if_pos (Nat.zero_le _), h0]
    · show (if (ds ++ [d]).length ≤ ds.length then _ else N) = N
      rw [if_neg (by rw [List.length_append]; show ¬ ds.length + 1 ≤ _; omega)]
    · show MStep (if k ≤ ds.length then Ms k else N) (if k + 1 ≤ ds.length then Ms (k + 1) else N) d'
      by_cases c : k < ds.length
      · rw [List.getElem?_append_left c] at hk
        rw [if_pos (by omega), if_pos (by omega)]
        exact h2 k d' hk
      · have hlt : k < (ds ++ [d]).length := (List.getElem?_eq_some_iff.mp hk).1
        rw [List.length_append] at hlt
        have hlt : k < ds.length + 1 := hlt
        have e : k = ds.length := by omega
        subst e
        rw [List.getElem?_append_right (Nat.le_refl _), Nat.sub_self] at hk
        cases hk
        rw [if_pos (Nat.le_refl _), if_neg (by omega), h1]
        exact st
    · show ∃ ds', MRun L0 (if k ≤ ds.length then Ms k else N) ds'
      by_cases c : k ≤ ds.length
      · rw [if_pos c]
        exact h3 k c
      · rw [if_neg c]
        exact ⟨_, rN⟩
  induction r with
  | nil => exact ⟨fun _ => L0, rfl, rfl, (fun k d h => by simp at h), fun k _ => ⟨[], .nil⟩⟩
  | pass r hp ih => exact ext r ⟨_, _, _, _, rfl, .inl ⟨rfl, hp, rfl⟩⟩ (.pass r hp) ih
  | fall r hp ih => exact ext r ⟨_, _, _, _, rfl, .inr ⟨rfl, hp, rfl⟩⟩ (.fall r hp) ih
/-- a row and where its beasts stand after a walk -/
structure Went (K : PySem.W.Frag) (H : Hp) (v : V) (o : Addr) (rs : HH.Row) (L : List Cow) : Prop where
  row : RowAt K H v rs
  len : rs.length ≤ 30
  tl : ∀ b ∈ rs, 0 ≤ b.2
  ord : SqT K H o (natsV (L.map (·.1)))
  run : ∃ ds, MRun (tag 0 rs) L ds
theorem Went.ex {K : PySem.W.Frag} {H H' : Hp} {v : V} {o : Addr} {rs : HH.Row} {L : List Cow} (h : Went K H v o rs L) (e : Ex H H') : Went K H' v o rs L := ⟨h.row.ex e, h.len, h.tl, ex_t e h.ord, h.run⟩
theorem run_ids {rs : HH.Row} {L : List Cow} {ds : List Deed} (tl : ∀ b ∈ rs, 0 ≤ b.2) (r : MRun (tag 0 rs) L ds) : (L.map (·.1)).Perm (List.range rs.length) := by
  obtain ⟨E, sE, nE⟩ := nf_is (good_tag tl).tl
  obtain ⟨B, sB, nB⟩ := ff_is (good_tag tl).tl
  exact ((r.both (good_tag tl).tl sE nE sB nB).2.1).ids.symm.trans sE.idsT
theorem Went.ids {K : PySem.W.Frag} {H : Hp} {v : V} {o : Addr} {rs : HH.Row} {L : List Cow} (h : Went K H v o rs L) : (L.map (·.1)).Perm (List.range rs.length) := by
  obtain ⟨ds, r⟩ := h.run
  exact run_ids h.tl r
theorem Went.nd {K : PySem.W.Frag} {H : Hp} {v : V} {o : Addr} {rs : HH.Row} {L : List Cow} (h : Went K H v o rs L) : (L.map (·.1)).Nodup := h.ids.nodup_iff.mpr List.nodup_range
theorem Went.lenL {K : PySem.W.Frag} {H : Hp} {v : V} {o : Addr} {rs : HH.Row} {L : List Cow} (h : Went K H v o rs L) : (L.map (·.1)).length = rs.length := by rw [h.ids.length_eq, List.length_range]
theorem Went.all {K : PySem.W.Frag} {H : Hp} {v : V} {o : Addr} {rs : HH.Row} {L : List Cow} (h : Went K H v o rs L) (x : Nat) (hx : x < (L.map (·.1)).length) : x ∈ L.map (·.1) := h.ids.mem_iff.mpr (List.mem_range.mpr (by rw [← h.lenL]; exact hx))
def hayL (e : List Nat) (rs ps : HH.Row) (n : Nat) : HH.Row := (List.range n).map fun k => (sT e rs ps k, sP e rs ps k)
def spNone (K : PySem.W.Frag) : Sp := fun vs H Q _ => ∃ (v : V) (o : Addr) (rs : HH.Row) (L : List Cow), vs = [v, .ref o] ∧ Went K H v o rs L ∧ ∀ H', Ex H H' → Q .non H'
def spHayB (K : PySem.W.Frag) : Sp := fun vs H Q _ => ∃ (v : V) (o : Addr) (rs : HH.Row) (L E : List Cow), vs = [v, .ref o] ∧ Went K H v o rs L ∧ Steps (tag 0 rs) E ∧ Nf E ∧ ∀ (q : Addr) (us : List V) (H' : Hp), H q = none → Ex H H' → H' q = some (.lst us) → BeastsT H' us (hayL (E.map (·.1)) rs (tab (L.map (·.1)) rs.length rs.length) rs.length) → Q (.ref q) H'
def spHay (K : PySem.W.Frag) : Sp := fun vs H Q _ => ∃ (v : V) (rs : HH.Row) (E : List Cow), vs = [v] ∧ RowAt K H v rs ∧ rs.length ≤ 30 ∧ (∀ b ∈ rs, 0 ≤ b.2) ∧ Steps (tag 0 rs) E ∧ Nf E ∧ ∀ (q : Addr) (us : List V) (H' : Hp), H q = none → Ex H H' → H' q = some (.lst us) → BeastsT H' us (hayL (E.map (·.1)) rs (tab (E.map (·.1)) rs.length rs.length) rs.length) → Q (.ref q) H'
/-- a kept pair stands as it stood -/
theorem kept_stays {rs : HH.Row} {L E B : List Cow} {ds : List Deed} (tl : ∀ b ∈ rs, 0 ≤ b.2) (r : MRun (tag 0 rs) L ds) (sE : Steps (tag 0 rs) E) (nE : Nf E) (sB : FSteps (tag 0 rs) B) (nB : Ff B) {i j : Nat} (h1 : i < j) (h2 : j < rs.length) (hE : bef (E.map (·.1)) j i = false) (hB : bef (B.map (·.1)) j i = false) : bef (L.map (·.1)) j i = false := by
  have t0 : ∀ x ∈ tag 0 rs, 0 ≤ x.2.2 := (good_tag tl).tl
  obtain ⟨tL, sLE, sLB⟩ := r.both t0 sE nE sB nB
  have tB := sB.tl t0
  have ndL : (L.map (·.1)).Nodup := (run_ids tl r).nodup_iff.mpr List.nodup_range
  have mem : ∀ {M : List Cow}, (M.map (·.1)).Perm (L.map (·.1)) → ∀ x, x < rs.length → x ∈ M.map (·.1) := fun p x hx => p.mem_iff.mpr ((run_ids tl r).mem_iff.mpr (List.mem_range.mpr hx))
  have pB := sLB.ids
  have pE := sLE.ids
  have b1 := bef_tot (mem pB j h2) (mem pB i (by omega)) (by omega) hB
  have e1 := bef_tot (mem pE j h2) (mem pE i (by omega)) (by omega) hE
  exact bef_asym ndL (mid_keeps tB (pB.nodup_iff.mpr ndL) sLB.back sLE b1 e1)
end HH
set_option maxHeartbeats 4000000
namespace HH
open PySem PySem.Spec PyProof.Rows L2 Evl
/-! numbers by place -/
def vec (n : Nat) (f : Nat → Int) : List V := (List.range n).map fun k => V.int (f k)
theorem vec_len (n : Nat) (f : Nat → Int) : (vec n f).length = n := by unfold vec; rw [List.length_map, List.length_range]
theorem vec_get {n : Nat} {f : Nat → Int} {i : Nat} (h : i < n) : (vec n f)[i]? = some (.int (f i)) := by
  unfold vec
  rw [List.getElem?_map, List.getElem?_range h]
  rfl
theorem vec_set {n : Nat} {f : Nat → Int} {i : Nat} {x : Int} : (vec n f).set i (.int x) = vec n (fun k => if k = i then x else f k) := by
  refine List.ext_getElem? fun k => ?_
  by_cases hk : k < n
  · rw [vec_get hk]
    by_cases c : i = k
    · subst c
      rw [List.getElem?_set_self (by rw [vec_len]; exact hk), if_pos rfl]
    · rw [List.getElem?_set_ne c, vec_get hk, if_neg (Ne.symm c)]
  · rw [List.getElem?_eq_none (by rw [List.length_set, vec_len]; omega), List.getElem?_eq_none (by rw [vec_len]; omega)]
theorem vec_add {n : Nat} {f : Nat → Int} {i : Nat} {t : Int} : (vec n f).set i (.int (f i + t)) = vec n (fun k => f k + (if k = i then t else 0)) := by
  rw [vec_set]
  congr 1
  funext k
  by_cases c : k = i
  · rw [if_pos c, if_pos c, c]
  · rw [if_neg c, if_neg c, Int.add_zero]
theorem vec_sub {n : Nat} {f : Nat → Int} {i : Nat} {t : Int} : (vec n f).set i (.int (f i - t)) = vec n (fun k => f k + (if k = i then -t else 0)) := by
  rw [← vec_add]
  rfl
theorem vec_zero (n : Nat) : List.replicate n (V.int 0) = vec n (fun _ => 0) := by
  refine List.ext_getElem? fun k => ?_
  by_cases hk : k < n
  · rw [vec_get hk, List.getElem?_replicate, if_pos hk]
  · rw [List.getElem?_eq_none (by rw [List.length_replicate]; omega), List.getElem?_eq_none (by rw [vec_len]; omega)]
theorem el_zeros {σ : L2.St} {H : Hp} {ta : TE} {n : Nat} (h : Ev ta σ H (.int (n : Int))) (hn : n ≤ 1000) : EvL (tOp rRep (tLst (tCons (tC (.int 0)) tNil)) ta) σ H (vec n (fun _ => 0)) := fun H1 e Q q => by
  refine ⟨by show 1 ≤ sizeLine; decide, fun l0 hl0 => ?_⟩
  have n1 := Ex.new (o := .lst [V.int 0]) hl0
  refine h _ (e.trans n1) _ fun H2 e2 => ?_
  refine ⟨l0, (n : Int), [V.int 0], rfl, rfl, e2 _ _ upd_same, by omega, by omega, sz_of (by rw [Int.toNat_natCast]; show 1 * n ≤ _; omega), fun c hc => ?_⟩
  refine q c _ (fresh_back (n1.trans e2) hc) ((n1.trans e2).trans (Ex.new hc)) ?_
  have fl : ∀ m : Nat, (List.replicate m [V.int 0]).flatten = List.replicate m (V.int 0) := fun m => by
    induction m with
    | zero => rfl
    | succ m ih =>
      rw [List.replicate_succ, List.flatten_cons, ih]
      rfl
  rw [upd_same, ← vec_zero, Int.toNat_natCast, fl]
theorem zip_vec (n : Nat) (f g : Nat → Int) : (vec n f).zip (vec n g) = (List.range n).map fun k => (V.int (f k), V.int (g k)) := by
  unfold vec
  rw [List.zip_map']
theorem zipA_pairs {H : Hp} {f g : Nat → Int} : ∀ {ks : List Nat} {us : List V}, ZipA H us (ks.map fun k => (V.int (f k), V.int (g k))) → BeastsT H us (ks.map fun k => (f k, g k))
  | [], us, h => by
    cases h
    exact .nil
  | k :: r, us, h => by
    cases h with
    | cons a b =>
      obtain ⟨T, rfl, hT⟩ := a
      exact .cons ⟨T, rfl, hT⟩ (zipA_pairs b)
theorem tlN_eq (rs : HH.Row) (i : Nat) : tlN rs i = tS rs i := rfl
/-! x = {k: v for ..}, x a local -/
theorem sw_trueD {kx vx : Expr} {gs : List Comprehension} {scope : Scope} {pos py : Pos} {y : Str} {l : Nat} {env : Env} (hk : env.scope.kind = .function) (hy : env.scope.names.lookup y = some .local) (hl : (py.line == pos.line) = true)
    (ha : (scope.names.any fun (n, k) => n == y && (k == .local || k == .cell)) = false) : swapsWith (.DictComp kx vx gs scope pos) (some (.Name y py)) l env = pure true := by
  have e1 : env.blockKind = .function := by rw [Env.blockKind, hk]; rfl
  have e2 : env.kindOf y = some .local := hy
  simp only [swapsWith, e1, e2, ha, hl, Expr.pos]
  rfl
theorem ps_setDcT {X : Cx} {i : Nat} {y : Str} {py spos : Pos} {kx vx tg it : Expr} {ifs : List Expr} {scp : Scope} {own : List (Str × Nat)} {pos : Pos} {wi : TI} {g : TG} {tt : TT} {tk tv : TE} (rm : X.A.units < cLine) (calm : X.calm = true) (nd : X.N.Nodup) (pi : PI X tg it wi) (ok : BlkOk X.N X.env.scope scp own)
    (pg : ∀ (s : Shared) (G : Hp) (c : Addr) (cl : List (Str × Addr)) (fp : List Addr), PG (X.blk s G scp (compEnvC scp cl c X.env) fp) tg g)
    (pt : ∀ (s : Shared) (G : Hp) (c : Addr) (cl : List (Str × Addr)) (fp : List Addr), PTs (X.blk s G scp (compEnvC scp cl c X.env) fp) ifs tt)
    (pk : ∀ (s : Shared) (G : Hp) (c : Addr) (cl : List (Str × Addr)) (fp : List Addr), PE (X.blk s G scp (compEnvC scp cl c X.env) fp) kx tk)
    (pv : ∀ (s : Shared) (G : Hp) (c : Addr) (cl : List (Str × Addr)) (fp : List Addr), PE (X.blk s G scp (compEnvC scp cl c X.env) fp) vx tv)
    (hy : X.N[i]? = some y) (hyl : X.env.scope.names.lookup y = some .local) (hsw : swapsWith (.DictComp kx vx [⟨tg, it, ifs, 0⟩] scp pos) (some (.Name y py)) spos.line X.env = pure true) (fold : ∀ x, foldedSetIterable it X.env x = pure x := by intro _; rfl) :
    PS X (.Assign [.Name y py] (.DictComp kx vx [⟨tg, it, ifs, 0⟩] scp pos) spos) (tAsg (tDcT wi g tt tk tv (own.map (·.2))) (gName i)) := by
  constructor
  intro ps t τ G D inv told
  have told : tDcT wi g tt tk tv (own.map (·.2)) τ G (fun x G1 => gName i x τ G1 D.nx) := told
  rw [exec_Assign_Name_used y py _ spos hsw]
  refine wpAny_bind <| wpAny_standAt <| wpAny_bind ?_
  show wpAny _ X.A (comprehension (.DictComp kx vx [⟨tg, it, ifs, 0⟩] scp pos) scp X.env (firstIterPos [⟨tg, it, ifs, 0⟩] pos) newDict false (eval it X.env) (some (assign (.Name y py) X.env)) >>= fun _ => pure ()) _ _ t
  refine wpAny_bind <| thn (core_dcT (Fin := fun _ t' => SP X ps D .next t') calm rm nd inv pi ok pg pt pk pv fold told fun d c t' m G' inv' qd ns fpo => ?_) fun _ t' done => wpAny_pure (wpAny_pure done)
  obtain ⟨a0, a1, _, a3, a4, a5⟩ := fpo
  show wpAny _ _ (assign (.Name y py) X.env (.ref d)) _ _ t'
  refine wpAny_assign_Name (store_ok2 (v := V.ref d) inv' nd hy (.inl hyl) rfl (fun t2 inv2 put => ?_) (.inr hyl))
  obtain ⟨ad, same, wh⟩ := put
  have apart : c ≠ ad := wh.elim (fun z w => a1 (w.trans z)) fun z w => a4 y ad z w.symm
  exact ⟨m, ns.sameBut same apart, fun h3 same3 => ⟨_, G', inv2.turned (t' := t2.toks) (fun b o nb eo => (same3.2 b nb).trans eo) a0 a1 a3 a4 a5, qd⟩⟩
theorem steps_run {L0 M L : List Cow} (h : Steps M L) : ∀ {ds : List Deed}, MRun L0 M ds → ∃ ds', MRun L0 L ds' := by
  induction h with
  | refl => exact fun r => ⟨_, r⟩
  | head s _ ih =>
    intro ds r
    obtain ⟨pre, post, a, b, rfl, hp, rfl⟩ := s
    exact ih (.pass r hp)
section
variable {e : List Nat} {rs ps : HH.Row} {i j n : Nat}
theorem sT_in (hm : bef e j i = true) : (vec n (sT e rs ps)).set i (.int (sT e rs ps i + tS rs i)) = vec n (sT e rs (ps ++ [((i : Int), (j : Int))])) := by
  rw [vec_add]
  congr 1
  funext m
  rw [sT_snoc]
  unfold ctT
  simp only [Int.toNat_natCast, hm, if_true]
  rfl
theorem sP_in (hm : bef e j i = true) : (vec n (sP e rs ps)).set j (.int (sP e rs ps j + tS rs i)) = vec n (sP e rs (ps ++ [((i : Int), (j : Int))])) := by
  rw [vec_add]
  congr 1
  funext m
  rw [sP_snoc]
  unfold ctP
  simp only [Int.toNat_natCast, hm, if_true]
  rfl
theorem sT_out (hm : bef e j i = false) : (vec n (sT e rs ps)).set j (.int (sT e rs ps j - tS rs j)) = vec n (sT e rs (ps ++ [((i : Int), (j : Int))])) := by
  rw [vec_sub]
  congr 1
  funext m
  rw [sT_snoc]
  unfold ctT
  simp only [Int.toNat_natCast, hm, Bool.false_eq_true, if_false]
  rfl
theorem sP_out (hm : bef e j i = false) : (vec n (sP e rs ps)).set i (.int (sP e rs ps i - tS rs j)) = vec n (sP e rs (ps ++ [((i : Int), (j : Int))])) := by
  rw [vec_sub]
  congr 1
  funext m
  rw [sP_snoc]
  unfold ctP
  simp only [Int.toNat_natCast, hm, Bool.false_eq_true, if_false]
  rfl
end
end HH
set_option maxHeartbeats 4000000
namespace HH
open PySem PySem.Spec PyProof.Rows L2 Evl
/-! what a row comes to: neighbours that are not kept may move, so each order that keeps them is come to -/
theorem ids_split (pre post : List Cow) (a b : Cow) : (pre ++ a :: b :: post).map (·.1) = pre.map (·.1) ++ a.1 :: b.1 :: post.map (·.1) := by rw [List.map_append]; rfl
theorem rows_split (pre post : List Cow) (a b : Cow) : rowsOf (pre ++ a :: b :: post) = rowsOf pre ++ a.2 :: b.2 :: rowsOf post := by unfold rowsOf; rw [List.map_append]; rfl
theorem ixN_split {A B : List Nat} {a b : Nat} : ixN (A ++ a :: b :: B) A.length = a ∧ ixN (A ++ a :: b :: B) (A.length + 1) = b := by
  unfold ixN
  constructor
  · rw [List.getElem?_append_right (Nat.le_refl _), Nat.sub_self]
    rfl
  · rw [List.getElem?_append_right (by omega), show A.length + 1 - A.length = 1 by omega]
    rfl
theorem adj_last {pre post E : List Cow} {a b : Cow} (t : ∀ x ∈ pre ++ a :: b :: post, 0 ≤ x.2.2) (nd : ((pre ++ a :: b :: post).map (·.1)).Nodup) (sE : Steps (pre ++ a :: b :: post) E) (nE : Nf E) : bef (E.map (·.1)) b.1 a.1 = true ↔ b.2.1 - a.2.2 > a.2.1 := by
  obtain ⟨Y, sY, rfl⟩ := sE.unmap (rl_tag (pre ++ a :: b :: post)).symm
  have nY := nf_un nE
  have tr := tolls_rows t
  have idY := sY.idsT
  have len : (rowsOf (pre ++ a :: b :: post)).length = pre.length + (post.length + 2) := by
    unfold rowsOf
    rw [List.length_map, List.length_append]
    rfl
  have key := never_iff tr sY nY (i := pre.length) (j := pre.length + 1) (by omega) (by omega)
  rw [show pre.length + 1 - pre.length - 1 = 0 by omega] at key
  have e1 : ixN ((pre ++ a :: b :: post).map (·.1)) pre.length = a.1 ∧ ixN ((pre ++ a :: b :: post).map (·.1)) (pre.length + 1) = b.1 := by
    have := ixN_split (A := pre.map (·.1)) (B := post.map (·.1)) (a := a.1) (b := b.1)
    rw [List.length_map] at this
    rw [ids_split]
    exact this
  have lenI : ((pre ++ a :: b :: post).map (·.1)).length = pre.length + (post.length + 2) := by
    rw [List.length_map, List.length_append]
    rfl
  have inj : ∀ k, k < pre.length + (post.length + 2) → ∀ x ∈ Y.map (·.1), ixN ((pre ++ a :: b :: post).map (·.1)) x = ixN ((pre ++ a :: b :: post).map (·.1)) k → x = k := fun k hk x hx e => by
    have := List.mem_range.mp (idY.mem_iff.mp hx)
    exact ixN_inj nd (by omega) (by omega) e
  have bm := bef_map (f := ixN ((pre ++ a :: b :: post).map (·.1))) (j := pre.length + 1) (i := pre.length) (l := Y.map (·.1)) (inj _ (by omega)) (inj _ (by omega))
  rw [e1.1, e1.2, ← rl_ids] at bm
  rw [bm, key]
  have bar : barN (rowsOf (pre ++ a :: b :: post)) pre.length 0 = sS (rowsOf (pre ++ a :: b :: post)) pre.length + tS (rowsOf (pre ++ a :: b :: post)) pre.length := rfl
  have at' := sS_at (pre := rowsOf pre) (post := rowsOf post) (x := a.2) (y := b.2)
  have lp : (rowsOf pre).length = pre.length := List.length_map ..
  rw [lp, ← rows_split] at at'
  rw [bar, at'.1, at'.2.1, at'.2.2.1]
  omega
theorem turnC_split (pre post : List Cow) (a b : Cow) : turnC 0 (pre ++ a :: b :: post) = turnC 0 pre ++ (a.1, (-(a.2.1 - tsumC pre), a.2.2)) :: (b.1, (-(b.2.1 - (tsumC pre + a.2.2)), b.2.2)) :: turnC (tsumC pre + a.2.2 + b.2.2) post := by
  rw [turnC_app, Int.zero_add]
  rfl
theorem turnC_tl {c : Int} : ∀ {L : List Cow}, (∀ x ∈ L, 0 ≤ x.2.2) → ∀ x ∈ turnC c L, 0 ≤ x.2.2
  | [], _, x, hx => by cases hx
  | y :: L, h, x, hx => by
    have hx : x ∈ (y.1, (-(y.2.1 - c), y.2.2)) :: turnC (c + y.2.2) L := hx
    rcases List.mem_cons.mp hx with rfl | hx
    · exact h y (List.mem_cons_self ..)
    · exact turnC_tl (fun z hz => h z (List.mem_cons_of_mem _ hz)) x hx
theorem adj_first {pre post B : List Cow} {a b : Cow} (t : ∀ x ∈ pre ++ a :: b :: post, 0 ≤ x.2.2) (nd : ((pre ++ a :: b :: post).map (·.1)).Nodup) (sB : FSteps (pre ++ a :: b :: post) B) (nB : Ff B) : bef (B.map (·.1)) b.1 a.1 = true ↔ a.2.1 > b.2.1 := by
  have s := fsteps_turn 0 sB
  have n := ff_turn nB
  have t2 := turnC_tl (c := 0) t
  have nd2 : ((turnC 0 (pre ++ a :: b :: post)).map (·.1)).Nodup := by rw [turnC_ids]; exact nd
  rw [turnC_split] at s t2 nd2
  have key := adj_last t2 nd2 s n
  rw [turnC_ids] at key
  rw [key]
  dsimp only
  omega
theorem fsteps_run {L0 M L : List Cow} (h : FSteps M L) : ∀ {ds : List Deed}, MRun L0 M ds → ∃ ds', MRun L0 L ds' := by
  induction h with
  | refl => exact fun r => ⟨_, r⟩
  | head s _ ih =>
    intro ds r
    obtain ⟨pre, post, a, b, rfl, hp, rfl⟩ := s
    exact ih (.fall r hp)
/-- neighbours of whom the hinder one is ahead in some row that is come to may move -/
theorem move_of {rs : HH.Row} {pre post M : List Cow} {a b : Cow} {ds ds' : List Deed} (tl : ∀ x ∈ rs, 0 ≤ x.2) (r : MRun (tag 0 rs) (pre ++ a :: b :: post) ds) (r' : MRun (tag 0 rs) M ds') (h : bef (M.map (·.1)) b.1 a.1 = true) : b.2.1 - a.2.2 > a.2.1 ∨ a.2.1 > b.2.1 := by
  have t0 : ∀ x ∈ tag 0 rs, 0 ≤ x.2.2 := (good_tag tl).tl
  obtain ⟨E, sE, nE⟩ := nf_is t0
  obtain ⟨B, sB, nB⟩ := ff_is t0
  obtain ⟨tL, sLE, sLB⟩ := r.both t0 sE nE sB nB
  obtain ⟨tM, sME, sMB⟩ := r'.both t0 sE nE sB nB
  have idL := run_ids tl r
  have idM := run_ids tl r'
  have ndL : ((pre ++ a :: b :: post).map (·.1)).Nodup := idL.nodup_iff.mpr List.nodup_range
  have ndM : (M.map (·.1)).Nodup := idM.nodup_iff.mpr List.nodup_range
  have tB := sB.tl t0
  have idB : (B.map (·.1)).Perm (M.map (·.1)) := sMB.ids
  have idE : (E.map (·.1)).Perm (M.map (·.1)) := sME.ids
  cases hE : bef (E.map (·.1)) b.1 a.1 with
  | true => exact .inl ((adj_last tL ndL sLE nE).mp hE)
  | false =>
    cases hB : bef (B.map (·.1)) b.1 a.1 with
    | true => exact .inr ((adj_first tL ndL sLB nB).mp hB)
    | false =>
      exfalso
      obtain ⟨mb, ma⟩ := bef_mem h
      have ne : b.1 ≠ a.1 := fun z => by
        rw [z] at h
        have := bef_asym ndM h
        rw [h] at this
        cases this
      have e1 := bef_tot (idE.mem_iff.mpr mb) (idE.mem_iff.mpr ma) ne hE
      have b1 := bef_tot (idB.mem_iff.mpr mb) (idB.mem_iff.mpr ma) ne hB
      have z := mid_keeps tB (idB.nodup_iff.mpr ndM) sMB.back sME b1 e1
      rw [bef_asym ndM h] at z
      cases z
/-- an order of all places that keeps each kept pair -/
structure Keeps (rs : HH.Row) (o : List Nat) : Prop where
  ids : o.Perm (List.range rs.length)
  kp : ∀ E B, Steps (tag 0 rs) E → Nf E → FSteps (tag 0 rs) B → Ff B → ∀ i j, i < j → j < rs.length → bef (E.map (·.1)) j i = false → bef (B.map (·.1)) j i = false → bef o j i = false
theorem Keeps.nd {rs : HH.Row} {o : List Nat} (k : Keeps rs o) : o.Nodup := k.ids.nodup_iff.mpr List.nodup_range
theorem Keeps.len {rs : HH.Row} {o : List Nat} (k : Keeps rs o) : o.length = rs.length := by rw [k.ids.length_eq, List.length_range]
theorem run_keeps {rs : HH.Row} {L : List Cow} {ds : List Deed} (tl : ∀ x ∈ rs, 0 ≤ x.2) (r : MRun (tag 0 rs) L ds) : Keeps rs (L.map (·.1)) := ⟨run_ids tl r, fun E B sE nE sB nB i j h1 h2 h3 h4 => kept_stays tl r sE nE sB nB h1 h2 h3 h4⟩
/-- two that stand otherwise in a row that is come to than in an order that keeps them stand so in some row that is come to -/
theorem seen {rs : HH.Row} {o : List Nat} {L : List Cow} {ds : List Deed} {x y : Nat} (tl : ∀ x ∈ rs, 0 ≤ x.2) (k : Keeps rs o) (r : MRun (tag 0 rs) L ds) (h1 : bef (L.map (·.1)) y x = true) (h2 : bef o x y = true) : ∃ M ds', MRun (tag 0 rs) M ds' ∧ bef (M.map (·.1)) x y = true := by
  have t0 : ∀ x ∈ tag 0 rs, 0 ≤ x.2.2 := (good_tag tl).tl
  obtain ⟨E, sE, nE⟩ := nf_is t0
  obtain ⟨B, sB, nB⟩ := ff_is t0
  obtain ⟨dE, rE⟩ := steps_run sE (.nil (L0 := tag 0 rs))
  obtain ⟨dB, rB⟩ := fsteps_run sB (.nil (L0 := tag 0 rs))
  obtain ⟨mx, my⟩ := bef_mem h2
  have hx := List.mem_range.mp (k.ids.mem_iff.mp mx)
  have hy := List.mem_range.mp (k.ids.mem_iff.mp my)
  have ne : x ≠ y := fun z => by
    rw [z] at h2
    have := bef_asym k.nd h2
    rw [h2] at this
    cases this
  rcases Nat.lt_or_gt_of_ne ne with h | h
  · refine ⟨tag 0 rs, [], .nil, ?_⟩
    rw [tag_ids]
    exact bef_range h hy
  · cases cE : bef (E.map (·.1)) x y with
    | true => exact ⟨E, dE, rE, cE⟩
    | false =>
      cases cB : bef (B.map (·.1)) x y with
      | true => exact ⟨B, dB, rB, cB⟩
      | false =>
        have := k.kp E B sE nE sB nB y x h hx cE cB
        rw [h2] at this
        cases this
theorem bef_front {A : List Nat} {x y : Nat} {B : List Nat} (nd : (A ++ x :: B).Nodup) (hy : y ∈ B) : bef (A ++ x :: B) x y = true := by
  obtain ⟨q, hq⟩ := List.getElem?_of_mem hy
  have g1 : (A ++ x :: B)[A.length]? = some x := by simp
  have g2 : (A ++ x :: B)[A.length + 1 + q]? = some y := by
    rw [List.getElem?_append_right (by omega), show A.length + 1 + q - A.length = q + 1 by omega]
    exact hq
  rw [bef_iff nd g1 g2]
  exact decide_eq_true (by omega)
/-- one more comes ahead -/
theorem bring {rs : HH.Row} {o : List Nat} (tl : ∀ x ∈ rs, 0 ≤ x.2) (k : Keeps rs o) : ∀ (n : Nat) (A u v : List Cow) (c : Cow) (ds : List Deed), u.length = n → MRun (tag 0 rs) (A ++ u ++ c :: v) ds → (∀ y ∈ u, bef o c.1 y.1 = true) → ∃ (u' : List Cow) (c' : Cow) (ds' : List Deed), MRun (tag 0 rs) (A ++ c' :: u' ++ v) ds' ∧ c'.1 = c.1 ∧ u'.map (·.1) = u.map (·.1)
  | 0, A, u, v, c, ds, hn, r, _ => by
    have : u = [] := List.length_eq_zero_iff.mp hn
    subst this
    exact ⟨[], c, ds, by simpa using r, rfl, rfl⟩
  | n + 1, A, u, v, c, ds, hn, r, hb => by
    obtain ⟨u1, y, rfl⟩ : ∃ u1 y, u = u1 ++ [y] := by
      rcases List.eq_nil_or_concat u with rfl | ⟨u1, y, rfl⟩
      · cases hn
      · exact ⟨u1, y, by rw [List.concat_eq_append]⟩
    have hn1 : u1.length = n := by
      rw [List.length_append] at hn
      have : u1.length + 1 = n + 1 := hn
      omega
    have e0 : A ++ (u1 ++ [y]) ++ c :: v = (A ++ u1) ++ y :: c :: v := by simp
    rw [e0] at r
    have nd := (run_ids tl r).nodup_iff.mpr List.nodup_range
    have b1 : bef (((A ++ u1) ++ y :: c :: v).map (·.1)) y.1 c.1 = true := by
      rw [ids_split] at nd ⊢
      exact bef_adj nd
    obtain ⟨M, dM, rM, hM⟩ := seen tl k r b1 (hb y (by simp))
    rcases move_of tl r rM hM with mv | mv
    · obtain ⟨u', c', ds', r', e1, e2⟩ := bring tl k n A u1 (y :: v) (c.1, (c.2.1 - y.2.2, c.2.2)) _ hn1 (.pass r mv) (fun z hz => hb z (by simp [hz]))
      exact ⟨u' ++ [y], c', ds', by simpa using r', e1, by rw [List.map_append, List.map_append, e2]⟩
    · obtain ⟨u', c', ds', r', e1, e2⟩ := bring tl k n A u1 ((y.1, (y.2.1 + c.2.2, y.2.2)) :: v) c _ hn1 (.fall r mv) (fun z hz => hb z (by simp [hz]))
      exact ⟨u' ++ [(y.1, (y.2.1 + c.2.2, y.2.2))], c', ds', by simpa using r', e1, by rw [List.map_append, List.map_append, e2]; rfl⟩
theorem reach_from {rs : HH.Row} {o : List Nat} (tl : ∀ x ∈ rs, 0 ≤ x.2) (k : Keeps rs o) : ∀ (todo done : List Nat) (A R : List Cow) (ds : List Deed), o = done ++ todo → MRun (tag 0 rs) (A ++ R) ds → A.map (·.1) = done → (R.map (·.1)).Perm todo → ∃ L ds', MRun (tag 0 rs) L ds' ∧ L.map (·.1) = o
  | [], done, A, R, ds, ho, r, hA, hR => by
    have : R = [] := by
      have := hR.length_eq
      rw [List.length_map] at this
      exact List.length_eq_zero_iff.mp this
    subst this
    exact ⟨A, ds, by simpa using r, by rw [hA, ho, List.append_nil]⟩
  | x :: todo, done, A, R, ds, ho, r, hA, hR => by
    have mx : x ∈ R.map (·.1) := hR.mem_iff.mpr (List.mem_cons_self ..)
    obtain ⟨c, hc, rfl⟩ := List.mem_map.mp mx
    obtain ⟨u, v, rfl⟩ := List.append_of_mem hc
    have nd := k.nd
    rw [ho] at nd
    have ndR : ((u ++ c :: v).map (·.1)).Nodup := hR.nodup_iff.mpr (List.nodup_append.mp nd).2.1
    have hb : ∀ y ∈ u, bef o c.1 y.1 = true := fun y hy => by
      rw [ho]
      refine bef_front nd ?_
      have my : y.1 ∈ c.1 :: todo := hR.mem_iff.mp (List.mem_map_of_mem (List.mem_append_left _ hy))
      rcases List.mem_cons.mp my with z | z
      · exfalso
        rw [List.map_append, List.nodup_append] at ndR
        exact ndR.2.2 y.1 (List.mem_map_of_mem hy) c.1 (List.mem_map_of_mem (List.mem_cons_self ..)) z
      · exact z
    obtain ⟨u', c', ds', r', e1, e2⟩ := bring tl k u.length A u v c ds rfl (by rw [List.append_assoc]; exact r) hb
    refine reach_from tl k todo (done ++ [c.1]) (A ++ [c']) (u' ++ v) ds' (by rw [ho, List.append_assoc]; rfl) (by simpa using r') (by rw [List.map_append, hA]; show done ++ [c'.1] = _; rw [e1]) ?_
    have p : ((u ++ c :: v).map (·.1)).Perm (c.1 :: (u ++ v).map (·.1)) := (List.perm_middle (l₁ := u) (l₂ := v) (a := c)).map _
    have p2 := p.symm.trans hR
    have p3 := List.Perm.cons_inv p2
    rw [List.map_append, e2, ← List.map_append]
    exact p3
/-- each order that keeps them is come to -/
theorem reach {rs : HH.Row} {o : List Nat} (tl : ∀ x ∈ rs, 0 ≤ x.2) (k : Keeps rs o) : ∃ L ds, MRun (tag 0 rs) L ds ∧ L.map (·.1) = o := reach_from tl k o [] [] (tag 0 rs) [] rfl .nil rfl (by rw [tag_ids]; exact k.ids.symm)
/-! the row by its order -/
def standC (e : List Nat) (rs : HH.Row) (o : List Nat) : List Cow := o.map fun x => (x, (sS rs x - sP e rs (tab o rs.length rs.length) x, tS rs x))
theorem tab_none {rs : HH.Row} : tab ((tag 0 rs).map (·.1)) rs.length rs.length = [] := by
  rw [tag_ids]
  exact List.perm_nil.mp (told_tab (told_nil rs.length) (fun x hx => List.mem_range.mp hx)).symm
theorem run_row {rs : HH.Row} {E L : List Cow} {ds : List Deed} (tl : ∀ x ∈ rs, 0 ≤ x.2) (sE : Steps (tag 0 rs) E) (nE : Nf E) (r : MRun (tag 0 rs) L ds) : ∀ c ∈ L, c.2.1 = sS rs c.1 - sP (E.map (·.1)) rs (tab (L.map (·.1)) rs.length rs.length) c.1 ∧ c.2.2 = tS rs c.1 := by
  have t0 : ∀ x ∈ tag 0 rs, 0 ≤ x.2.2 := (good_tag tl).tl
  obtain ⟨B, sB, nB⟩ := ff_is t0
  have ndE : (E.map (·.1)).Nodup := sE.idsT.nodup_iff.mpr List.nodup_range
  induction r with
  | nil =>
    intro c hc
    obtain ⟨i, hi⟩ := List.getElem?_of_mem hc
    rw [tag_at] at hi
    cases hg : rs[i]? with
    | none =>
      rw [hg] at hi
      cases hi
    | some b =>
      rw [hg] at hi
      cases hi
      rw [tab_none, Nat.zero_add]
      have : sS rs i = b.1 ∧ tS rs i = b.2 := by
        unfold sS tS
        rw [hg]
        exact ⟨rfl, rfl⟩
      rw [this.1, this.2]
      exact ⟨(Int.sub_zero _).symm, rfl⟩
  | @pass pre post a b ds r hp ih =>
    have rN := MRun.pass r hp
    obtain ⟨tL, sLE, _⟩ := r.both t0 sE nE sB nB
    obtain ⟨_, sNE, _⟩ := rN.both t0 sE nE sB nB
    have idL := run_ids tl r
    have ndL := idL.nodup_iff.mpr List.nodup_range
    have ba := pass_ahead tL ndL hp sNE
    have lt : ∀ z ∈ (pre ++ a :: b :: post).map (·.1), z < rs.length := fun z hz => List.mem_range.mp (idL.mem_iff.mp hz)
    rw [ids_split] at ndL lt
    have hs := (hay_swap (n := rs.length) (rs := rs) ndE ndL lt).1 ba
    intro c hc
    have e2 : (pre ++ (b.1, (b.2.1 - a.2.2, b.2.2)) :: a :: post).map (·.1) = pre.map (·.1) ++ b.1 :: a.1 :: post.map (·.1) := by rw [List.map_append]; rfl
    rw [e2, (hs c.1).2]
    rw [ids_split] at ih
    have other : ∀ c ∈ pre ++ a :: b :: post, c.1 ≠ b.1 → c.2.1 = sS rs c.1 - (sP (E.map (·.1)) rs (tab (pre.map (·.1) ++ a.1 :: b.1 :: post.map (·.1)) rs.length rs.length) c.1 + (if c.1 = b.1 then tlN rs a.1 else 0)) ∧ c.2.2 = tS rs c.1 := fun c hc hn => by
      rw [if_neg hn]
      have := ih c hc
      exact ⟨by omega, this.2⟩
    have nb : ∀ c ∈ pre ++ a :: post, c.1 ≠ b.1 := fun c hc z => by
      have mem : c.1 ∈ pre.map (·.1) ++ a.1 :: post.map (·.1) := by
        rw [show pre.map (·.1) ++ a.1 :: post.map (·.1) = (pre ++ a :: post).map (·.1) by rw [List.map_append]; rfl]
        exact List.mem_map_of_mem hc
      have p : (pre.map (·.1) ++ a.1 :: b.1 :: post.map (·.1)).Perm (b.1 :: (pre.map (·.1) ++ a.1 :: post.map (·.1))) := by
        have := List.perm_middle (l₁ := pre.map (·.1) ++ [a.1]) (l₂ := post.map (·.1)) (a := b.1)
        simpa using this
      have ndp := p.nodup_iff.mp ndL
      rw [z] at mem
      exact (List.nodup_cons.mp ndp).1 mem
    rcases List.mem_append.mp hc with hc | hc
    · exact other c (List.mem_append_left _ hc) (nb c (List.mem_append_left _ hc))
    · rcases List.mem_cons.mp hc with rfl | hc
      · have ib := ih b (by simp)
        have ia := ih a (by simp)
        dsimp only
        rw [if_pos rfl, tlN_eq]
        exact ⟨by omega, ib.2⟩
      · refine other c ?_ (nb c (List.mem_append_right _ hc))
        rcases List.mem_cons.mp hc with rfl | hc
        · simp
        · simp [hc]
  | @fall pre post a b ds r hp ih =>
    have rN := MRun.fall r hp
    obtain ⟨tL, sLE, _⟩ := r.both t0 sE nE sB nB
    obtain ⟨tN, sNE, _⟩ := rN.both t0 sE nE sB nB
    have idL := run_ids tl r
    have ndL := idL.nodup_iff.mpr List.nodup_range
    have ndN := (run_ids tl rN).nodup_iff.mpr List.nodup_range
    have ba : bef (E.map (·.1)) a.1 b.1 = true := pass_ahead (a := b) (b := (a.1, (a.2.1 + b.2.2, a.2.2))) tN ndN (by dsimp only; omega) (by
      have e : (a.1, (a.2.1 + b.2.2 - b.2.2, a.2.2)) = a := by rw [Int.add_sub_cancel]
      dsimp only
      rw [e]
      exact sLE)
    have lt : ∀ z ∈ (pre ++ a :: b :: post).map (·.1), z < rs.length := fun z hz => List.mem_range.mp (idL.mem_iff.mp hz)
    rw [ids_split] at ndL lt
    have hs := (hay_swap (n := rs.length) (rs := rs) ndE ndL lt).2 ba
    intro c hc
    have e2 : (pre ++ b :: (a.1, (a.2.1 + b.2.2, a.2.2)) :: post).map (·.1) = pre.map (·.1) ++ b.1 :: a.1 :: post.map (·.1) := by rw [List.map_append]; rfl
    rw [e2, (hs c.1).2]
    rw [ids_split] at ih
    have other : ∀ c ∈ pre ++ a :: b :: post, c.1 ≠ a.1 → c.2.1 = sS rs c.1 - (sP (E.map (·.1)) rs (tab (pre.map (·.1) ++ a.1 :: b.1 :: post.map (·.1)) rs.length rs.length) c.1 - (if c.1 = a.1 then tlN rs b.1 else 0)) ∧ c.2.2 = tS rs c.1 := fun c hc hn => by
      rw [if_neg hn]
      have := ih c hc
      exact ⟨by omega, this.2⟩
    have na : ∀ c ∈ pre ++ b :: post, c.1 ≠ a.1 := fun c hc z => by
      have mem : c.1 ∈ pre.map (·.1) ++ b.1 :: post.map (·.1) := by
        rw [show pre.map (·.1) ++ b.1 :: post.map (·.1) = (pre ++ b :: post).map (·.1) by rw [List.map_append]; rfl]
        exact List.mem_map_of_mem hc
      have p : (pre.map (·.1) ++ a.1 :: b.1 :: post.map (·.1)).Perm (a.1 :: (pre.map (·.1) ++ b.1 :: post.map (·.1))) := List.perm_middle
      have ndp := p.nodup_iff.mp ndL
      rw [z] at mem
      exact (List.nodup_cons.mp ndp).1 mem
    rcases List.mem_append.mp hc with hc | hc
    · exact other c (List.mem_append_left _ hc) (na c (List.mem_append_left _ hc))
    · rcases List.mem_cons.mp hc with rfl | hc
      · exact other _ (by simp) (na _ (by simp))
      · rcases List.mem_cons.mp hc with rfl | hc
        · have ib := ih b (by simp)
          have ia := ih a (by simp)
          dsimp only
          rw [if_pos rfl, tlN_eq]
          exact ⟨by omega, ia.2⟩
        · exact other c (by simp [hc]) (na c (by simp [hc]))
theorem run_is {rs : HH.Row} {E L : List Cow} {ds : List Deed} (tl : ∀ x ∈ rs, 0 ≤ x.2) (sE : Steps (tag 0 rs) E) (nE : Nf E) (r : MRun (tag 0 rs) L ds) : L = standC (E.map (·.1)) rs (L.map (·.1)) := by
  unfold standC
  rw [List.map_map]
  refine (List.map_id L).symm.trans (List.map_congr_left fun c hc => ?_)
  obtain ⟨h1, h2⟩ := run_row tl sE nE r c hc
  obtain ⟨x, s, t⟩ := c
  dsimp only at h1 h2
  show (x, (s, t)) = (x, (_, _))
  rw [h1, h2]
end HH
set_option maxHeartbeats 4000000
namespace HH
open PySem PySem.Spec PyProof.Rows L2 Evl
/-- new lists of two numbers, still written -/
structure CellP (H0 H : Hp) (as : List Addr) (t p : Nat → Int) : Prop where
  nd : as.Nodup
  old : ∀ a ∈ as, H0 a = none
  at' : ∀ (i : Nat) (a : Addr), as[i]? = some a → H a = some (.lst [.int (t i), .int (p i)])
theorem CellP.ex {H0 H H' : Hp} {as : List Addr} {t p : Nat → Int} (h : CellP H0 H as t p) (e : Ex H H') : CellP H0 H' as t p := ⟨h.nd, h.old, fun i a ha => e _ _ (h.at' i a ha)⟩
theorem CellP.off {H0 H : Hp} {as : List Addr} {t p : Nat → Int} {D : Addr} {o : HO} (h : CellP H0 H as t p) (n : D ∉ as) : CellP H0 (upd H D o) as t p := ⟨h.nd, h.old, fun i a ha => by
  rw [upd_ne (fun z => n (by rw [← z]; exact List.mem_of_getElem? ha))]
  exact h.at' i a ha⟩
theorem CellP.app {H0 H : Hp} {as : List Addr} {T : Addr} (h : CellP H0 H as (fun _ => 0) (fun _ => 0)) (h0 : H0 T = none) (hT : H T = none) : CellP H0 (upd H T (.lst [.int 0, .int 0])) (as ++ [T]) (fun _ => 0) (fun _ => 0) := by
  have nT : T ∉ as := fun m => by
    obtain ⟨i, hi⟩ := List.getElem?_of_mem m
    rw [h.at' i T hi] at hT
    cases hT
  refine ⟨List.nodup_append.mpr ⟨h.nd, by simp, fun x hx y hy e => nT (by rw [List.mem_singleton] at hy; rw [← hy, ← e]; exact hx)⟩, fun a ha => ?_, fun i a ha => ?_⟩
  · rcases List.mem_append.mp ha with m | m
    · exact h.old a m
    · rw [List.mem_singleton.mp m]
      exact h0
  · by_cases c : i < as.length
    · rw [List.getElem?_append_left c] at ha
      rw [upd_ne (fun z => nT (by rw [← z]; exact List.mem_of_getElem? ha))]
      exact h.at' i a ha
    · have hlt : i < (as ++ [T]).length := (List.getElem?_eq_some_iff.mp ha).1
      rw [List.length_append] at hlt
      have hlt : i < as.length + 1 := hlt
      have e : i = as.length := by omega
      rw [e, List.getElem?_append_right (Nat.le_refl _), Nat.sub_self] at ha
      cases ha
      exact upd_same
theorem CellP.ne {H0 H : Hp} {as : List Addr} {t p : Nat → Int} (h : CellP H0 H as t p) {i k : Nat} {a c : Addr} (ha : as[i]? = some a) (hc : as[k]? = some c) (n : k ≠ i) : c ≠ a := fun z => by
  subst z
  have h1 := (List.getElem?_eq_some_iff.mp ha).1
  exact n ((List.getElem?_inj h1 h.nd).mp (ha.trans hc.symm)).symm
theorem CellP.put0 {H0 H : Hp} {as : List Addr} {t p : Nat → Int} {i : Nat} {a : Addr} {d : Int} (h : CellP H0 H as t p) (ha : as[i]? = some a) : CellP H0 (upd H a (.lst [.int (t i + d), .int (p i)])) as (fun k => t k + (if k = i then d else 0)) p := ⟨h.nd, h.old, fun k c hc => by
  by_cases e : k = i
  · subst e
    rw [ha] at hc
    cases hc
    rw [upd_same, if_pos rfl]
  · rw [upd_ne (h.ne ha hc e), if_neg e, Int.add_zero]
    exact h.at' k c hc⟩
theorem CellP.put1 {H0 H : Hp} {as : List Addr} {t p : Nat → Int} {i : Nat} {a : Addr} {d : Int} (h : CellP H0 H as t p) (ha : as[i]? = some a) : CellP H0 (upd H a (.lst [.int (t i), .int (p i + d)])) as t (fun k => p k + (if k = i then d else 0)) := ⟨h.nd, h.old, fun k c hc => by
  by_cases e : k = i
  · subst e
    rw [ha] at hc
    cases hc
    rw [upd_same, if_pos rfl]
  · rw [upd_ne (h.ne ha hc e), if_neg e, Int.add_zero]
    exact h.at' k c hc⟩
section
variable {K : PySem.W.Frag} {σ : L2.St} {H : Hp} {te : TE} {v : V} {Q : VK} {j : Nat} {vs : List Nat}
/-- [[0, 0] for x in row] -/
theorem cells_new {rs : HH.Row} (h : Ev te σ H v) (hv : RowAt K H v rs) (hl : rs.length ≤ 1000) (hw : ∀ x, wipe ((wipe σ vs).set j (some x)) vs = wipe σ vs)
    (q : ∀ (fa : Addr) (as : List Addr) (H2 : Hp), H fa = none → Ex H H2 → H2 fa = some (.lst (as.map V.ref)) → fa ∉ as → CellP H H2 as (fun _ => 0) (fun _ => 0) → as.length = rs.length → Q (.ref fa) H2) :
    tLc (iTup K te) (gName j) tYes (tLst (tCons (tC (.int 0)) (tCons (tC (.int 0)) tNil))) vs σ H Q := by
  obtain ⟨ra, ru, rfl, sq, bs⟩ := hv
  refine h H (Ex.refl H) _ fun H1 e1 => ⟨ra, rfl, ⟨ru, ex_t e1 sq⟩, fun D hD => ?_⟩
  refine in_it (walk_tup (xs := ru)) (fun k H2 => Ex H1 H2 ∧ ∃ as : List Addr, H2 D = some (.lst (as.map V.ref)) ∧ D ∉ as ∧ CellP H H2 as (fun _ => 0) (fun _ => 0) ∧ as.length = k) ⟨Ex.new hD, [], upd_same, by simp, ⟨.nil, (fun a h => nomatch h), (fun i a h => by simp at h)⟩, rfl⟩ (fun k H2 _ z => ex_t (e1.trans z.1) sq) (fun k x H2 H3 hk z y => ?_) (fun H2 z => ?_)
  · obtain ⟨rfl, hx⟩ := y
    obtain ⟨z1, as, z2, z3, z4, z5⟩ := z
    refine ⟨hw _, t_yes ⟨by show 2 ≤ sizeLine; decide, fun T hT => ?_⟩⟩
    have nT := Ex.new (o := .lst [V.int 0, .int 0]) hT
    have neT : T ≠ D := fun w => by rw [w, z2] at hT; cases hT
    have hk : k < ru.length := hk
    refine ⟨as.map V.ref, nT _ _ z2, sz_lt (by rw [List.length_map, z5, ]; rw [bs.1] at hk; omega), Ex.mut (z1.trans nT) hD, as ++ [T], ?_, ?_, ?_, ?_⟩
    · rw [upd_same, List.map_append]
      rfl
    · intro m
      rcases List.mem_append.mp m with m | m
      · exact z3 m
      · exact neT (List.mem_singleton.mp m).symm
    · refine (z4.app (fresh_back (e1.trans z1) hT) hT).off fun m => ?_
      rcases List.mem_append.mp m with m | m
      · exact z3 m
      · exact neT (List.mem_singleton.mp m).symm
    · rw [List.length_append, z5]
      rfl
  · obtain ⟨z1, as, z2, z3, z4, z5⟩ := z
    exact q D as H2 (fresh_back e1 hD) (e1.trans z1) z2 z3 z4 (by rw [z5, bs.1])
/-- [tuple(x) for x in found] -/
theorem tups_of {fa : Addr} {as : List Addr} {H0 : Hp} {t p : Nat → Int} (h : Ev te σ H (.ref fa)) (g : H fa = some (.lst (as.map V.ref))) (c : CellP H0 H as t p) (hl : as.length ≤ 1000) (hw : ∀ x, wipe ((wipe σ vs).set j (some x)) vs = wipe σ vs) (hj : ∀ x : V, ((wipe σ vs).set j (some x))[j]? = some (some x))
    (q : ∀ (D : Addr) (us : List V) (H2 : Hp), H D = none → Ex H H2 → H2 D = some (.lst us) → BeastsT H2 us ((List.range as.length).map fun k => (t k, p k)) → Q (.ref D) H2) :
    tLc (iList K te) (gName j) tYes (tThen (tVar j) (kTup K)) vs σ H Q := by
  refine h H (Ex.refl H) _ fun H1 e1 => ⟨fa, rfl, ⟨_, sq_of (e1 _ _ g)⟩, fun D hD => ?_⟩
  refine in_it (walk_list (xs := as.map V.ref)) (fun k H2 => Ex H1 H2 ∧ ∃ us, H2 D = some (.lst us) ∧ BeastsT H2 us ((List.range k).map fun k => (t k, p k))) ⟨Ex.new hD, [], upd_same, .nil⟩ (fun k H2 _ z => sq_of ((e1.trans z.1) _ _ g)) (fun k x H2 H3 hk z y => ?_) (fun H2 z => ?_)
  · obtain ⟨rfl, hx⟩ := y
    obtain ⟨z1, us, z2, z3⟩ := z
    rw [List.length_map] at hk
    have hx : (as.map V.ref)[k]? = some x := hx
    rw [List.getElem?_map, List.getElem?_eq_getElem hk] at hx
    cases hx
    have ga := (e1.trans z1) _ _ (c.at' k _ (List.getElem?_eq_getElem hk))
    refine ⟨hw _, t_yes ⟨_, hj _, .inl ⟨_, _, rfl, sq_of ga, fun T hT => ?_⟩⟩⟩
    have nT := Ex.new (o := .tup [V.int (t k), .int (p k)]) hT
    refine ⟨us, nT _ _ z2, sz_lt (by rw [All2.len z3, List.length_map, List.length_range]; omega), Ex.mut (z1.trans nT) hD, us ++ [.ref T], upd_same, ?_⟩
    rw [List.range_succ, List.map_append]
    exact BeastsT.exB' (All2.app (BeastsT.ex' z3 nT) (.cons ⟨T, rfl, upd_same⟩ .nil)) (ExB.refl _ _).upd (nT _ _ z2)
  · obtain ⟨z1, us, z2, z3⟩ := z
    rw [List.length_map] at z3
    exact q D us H2 (fresh_back e1 hD) (e1.trans z1) z2 z3
end
def spTolls (K : PySem.W.Frag) : Sp := fun vs H Q _ => ∃ (v : V) (ga ba : Addr) (us : List V) (rs ps : HH.Row) (e : List Nat), vs = [v, .ref ga, .ref ba] ∧ RowAt K H v rs ∧ rs.length ≤ 30 ∧ SqL K H ga us ∧ Beasts K H us ps ∧ SqL K H ba [] ∧ (∀ p ∈ ps, ∃ i j : Nat, i < rs.length ∧ j < rs.length ∧ p = ((i : Int), (j : Int)) ∧ bef e j i = true) ∧
  ∀ (q : Addr) (ws : List V) (H' : Hp), H q = none → Ex H H' → H' q = some (.lst ws) → BeastsT H' ws (hayL e rs ps rs.length) → Q (.ref q) H'
def spWTolls (K : PySem.W.Frag) : Sp := fun vs H Q _ => ∃ (v : V) (da : Addr) (us : List V) (rs : HH.Row) (L E : List Cow) (ds : List Deed), vs = [v, .ref da] ∧ RowAt K H v rs ∧ rs.length ≤ 30 ∧ (∀ b ∈ rs, 0 ≤ b.2) ∧ SqL K H da us ∧ All2 (DeedAt K H) us ds ∧ MRun (tag 0 rs) L ds ∧ Steps (tag 0 rs) E ∧ Nf E ∧
  ∀ (q : Addr) (ws : List V) (H' : Hp), H q = none → Ex H H' → H' q = some (.lst ws) → BeastsT H' ws (hayL (E.map (·.1)) rs (tab (L.map (·.1)) rs.length rs.length) rs.length) → Q (.ref q) H'
theorem ret_run2 {te : TE} {D : Ends} {σ : L2.St} {H : Hp} (h : te σ H D.rt) : tRet te D σ H := h
theorem qs_run {t1 tz : TS} {D : Ends} {σ : L2.St} {H : Hp} (h : t1 { D with nx := tz D } σ H) : tSeq t1 tz D σ H := h
section
variable {K : PySem.W.Frag} {σ : L2.St} {H H0 : Hp} {tf tx tv : TE} {D : Ends} {fa a : Addr} {as : List Addr} {t p : Nat → Int} {i : Nat} {d : Int}
theorem atR {as : List Addr} {i : Nat} {a : Addr} (ha : as[i]? = some a) : atI (as.map V.ref) (i : Int) = some (.ref a) := atI_nat (by rw [List.getElem?_map, ha]; rfl)
/-- found[x][0] = found[x][0] + d -/
theorem cell0 (h3 : Ev tf σ H (.ref fa)) (hx : Ev tx σ H (.int (i : Int))) (hv : Ev tv σ H (.int d)) (g : H fa = some (.lst (as.map V.ref))) (c : CellP H0 H as t p) (ha : as[i]? = some a)
    (k : ∀ H', (∀ b o, b ∉ as → H b = some o → H' b = some o) → CellP H0 H' as (fun k => t k + (if k = i then d else 0)) p → D.nx σ H') :
    tAsg (tOp (rI0 fun i j => .int (i + j)) (tOp (rIxL K) (tOp (rIxL K) tf tx) (tC (.int 0))) tv) (gSub (tOp (rIxL K) tf tx) (tC (.int 0)) rSetL) D σ H := by
  have e0 := ev_op h3 hx (rv_ixL (K := K) (sq_of g) (atR ha))
  refine (ev_op (ev_op e0 ev_c (rv_ixL (K := K) (sq_of (c.at' i a ha)) rfl)) hv rv_I0) H (Ex.refl H) _ fun H1 e1 => ?_
  refine e0 H1 e1 _ fun H2 e2 => ?_
  refine ⟨a, _, 0, 0, rfl, rfl, (e1.trans e2) _ _ (c.at' i a ha), rfl, ?_⟩
  refine k _ (fun b o hb h => ?_) ((c.ex (e1.trans e2)).put0 ha)
  rw [upd_ne (fun z => hb (by rw [z]; exact List.mem_of_getElem? ha))]
  exact (e1.trans e2) _ _ h
/-- found[x][1] = found[x][1] + d -/
theorem cell1 (h3 : Ev tf σ H (.ref fa)) (hx : Ev tx σ H (.int (i : Int))) (hv : Ev tv σ H (.int d)) (g : H fa = some (.lst (as.map V.ref))) (c : CellP H0 H as t p) (ha : as[i]? = some a)
    (k : ∀ H', (∀ b o, b ∉ as → H b = some o → H' b = some o) → CellP H0 H' as t (fun k => p k + (if k = i then d else 0)) → D.nx σ H') :
    tAsg (tOp (rI0 fun i j => .int (i + j)) (tOp (rIxL K) (tOp (rIxL K) tf tx) (tC (.int 1))) tv) (gSub (tOp (rIxL K) tf tx) (tC (.int 1)) rSetL) D σ H := by
  have e0 := ev_op h3 hx (rv_ixL (K := K) (sq_of g) (atR ha))
  refine (ev_op (ev_op e0 ev_c (rv_ixL (K := K) (sq_of (c.at' i a ha)) rfl)) hv rv_I0) H (Ex.refl H) _ fun H1 e1 => ?_
  refine e0 H1 e1 _ fun H2 e2 => ?_
  refine ⟨a, _, 1, 1, rfl, rfl, (e1.trans e2) _ _ (c.at' i a ha), rfl, ?_⟩
  refine k _ (fun b o hb h => ?_) ((c.ex (e1.trans e2)).put1 ha)
  rw [upd_ne (fun z => hb (by rw [z]; exact List.mem_of_getElem? ha))]
  exact (e1.trans e2) _ _ h
end
/-- what is old stays -/
theorem old_ex {H0 H H' : Hp} {as : List Addr} {t p : Nat → Int} (c : CellP H0 H as t p) (e : Ex H0 H) (x : ∀ b o, b ∉ as → H b = some o → H' b = some o) : Ex H0 H' := fun b o h => x b o (fun m => by rw [c.old b m] at h; cases h) (e _ _ h)
theorem sT_pass {e : List Nat} {rs ps : HH.Row} {i j : Nat} (hm : bef e j i = true) (k : Nat) : sT e rs (ps ++ [((i : Int), (j : Int))]) k = sT e rs ps k + (if k = i then tS rs i else 0) := by
  rw [sT_snoc]
  unfold ctT
  simp only [Int.toNat_natCast, hm, if_true]
  rfl
theorem sP_pass {e : List Nat} {rs ps : HH.Row} {i j : Nat} (hm : bef e j i = true) (k : Nat) : sP e rs (ps ++ [((i : Int), (j : Int))]) k = sP e rs ps k + (if k = j then tS rs i else 0) := by
  rw [sP_snoc]
  unfold ctP
  simp only [Int.toNat_natCast, hm, if_true]
  rfl
end HH
set_option maxHeartbeats 4000000
namespace HH
open PySem PySem.Spec PyProof.Rows L2 Evl
/-- the row in which they stand so -/
def spStands (K : PySem.W.Frag) : Sp := fun vs H Q _ => ∃ (v : V) (o : Addr) (rs : HH.Row) (L : List Cow), vs = [v, .ref o] ∧ Went K H v o rs L ∧ ∀ z H', Ex H H' → RowAt K H' z (rowsOf L) → Q z H'
/-- the same by own sums, with draws -/
def spDueS (K : PySem.W.Frag) : Sp := fun vs H Q _ => ∃ (p : Addr) (v : V) (o : Addr) (rs : HH.Row) (L : List Cow) (n : Nat), vs = [.ref p, v, .ref o] ∧ Went K H v o rs L ∧ Bx H p n ∧ n + 1000 < Lim ∧ ∀ z H', ExB p H H' → Bx H' p (n + 1000) → RowAt K H' z (rowsOf L) → Q z H'
/-- neighbours exchanged, but for some pairs -/
def spNear (K : PySem.W.Frag) : Sp := fun vs H Q _ => ∃ (p q kp : Addr) (l : List Nat) (ks : HH.Row) (us : List V) (m n : Nat) (G : List Nat → Prop), vs = [.ref p, .ref q, .ref kp, .int (m : Int)] ∧ (SqL K H q (natsV l) ∨ SqT K H q (natsV l)) ∧ H kp = some (.lst us) ∧ BeastsT H us ks ∧ kp ≠ p ∧ 0 < l.length ∧ l.length ≤ 30 ∧ m ≤ 1000 ∧ Bx H p n ∧ n + m < Lim ∧ G l ∧
  (∀ A a b B, G (A ++ a :: b :: B) → (¬ (((if a ≤ b then a else b : Nat) : Int), ((if a ≤ b then b else a : Nat) : Int)) ∈ ks) → G (A ++ b :: a :: B)) ∧
  ∀ (o : Addr) (l' : List Nat) (H' : Hp), ExB p H H' → Bx H' p (n + m) → H o = none → H' o = some (.tup (natsV l')) → l'.length = l.length → G l' → Q (.ref o) H'
theorem merge_places {l : List Nat} (nd : l.Nodup) : ∀ k, k ≤ l.length → PlacesD l k (mergeK [] (((List.range k).map fun i => ((.inl (ixN l i : Int), .int (i : Int)) : Key × V))))
  | 0, _ => ⟨fun i x h => absurd h (Nat.not_lt_zero _), Nat.le_refl _⟩
  | k + 1, h => by
    have ih := merge_places nd k (by omega)
    rw [List.range_succ, List.map_append]
    unfold mergeK at ih ⊢
    rw [List.foldl_append]
    exact ih.put nd (ixN_at (by omega))
theorem str_vec (rs : HH.Row) : (rs.map (·.1)).map V.int = vec rs.length (sS rs) := by
  refine List.ext_getElem? fun k => ?_
  by_cases hk : k < rs.length
  · rw [vec_get hk, List.getElem?_map, List.getElem?_map, row_get hk]
    rfl
  · rw [List.getElem?_eq_none (by rw [List.length_map, List.length_map]; omega), List.getElem?_eq_none (by rw [vec_len]; omega)]
section
variable {e : List Nat} {rs ps : HH.Row} {i j n : Nat}
theorem st_in (hm : bef e j i = true) : (vec n fun k => sS rs k - sP e rs ps k).set j (.int (sS rs j - sP e rs ps j - tS rs i)) = vec n fun k => sS rs k - sP e rs (ps ++ [((i : Int), (j : Int))]) k := by
  have := vec_sub (n := n) (f := fun k => sS rs k - sP e rs ps k) (i := j) (t := tS rs i)
  rw [this]
  congr 1
  funext m
  rw [sP_snoc]
  unfold ctP
  simp only [Int.toNat_natCast, hm, if_true]
  rw [tlN_eq]
  split <;> omega
theorem st_out (hm : bef e j i = false) : (vec n fun k => sS rs k - sP e rs ps k).set i (.int (sS rs i - sP e rs ps i + tS rs j)) = vec n fun k => sS rs k - sP e rs (ps ++ [((i : Int), (j : Int))]) k := by
  have := vec_add (n := n) (f := fun k => sS rs k - sP e rs ps k) (i := i) (t := tS rs j)
  rw [this]
  congr 1
  funext m
  rw [sP_snoc]
  unfold ctP
  simp only [Int.toNat_natCast, hm, Bool.false_eq_true, if_false]
  rw [tlN_eq]
  split <;> omega
end
section
variable {K : PySem.W.Frag} {σ : L2.St} {H : Hp} {te t1 t2 : TE} {o : Addr} {l : List Nat} {j : Nat} {vs : List Nat}
/-- [(.., ..) for who in order] -/
theorem ep_ordT (f g : Nat → Int) (ho : Ev te σ H (.ref o)) (hs : SqT K H o (natsV l)) (hl : l.length ≤ 1000) (hw : ∀ x, wipe ((wipe σ vs).set j (some x)) vs = wipe σ vs)
    (h1 : ∀ x ∈ l, ∀ H1, Ex H H1 → Ev t1 ((wipe σ vs).set j (some (.int (x : Int)))) H1 (.int (f x))) (h2 : ∀ x ∈ l, ∀ H1, Ex H H1 → Ev t2 ((wipe σ vs).set j (some (.int (x : Int)))) H1 (.int (g x))) {H0 : Hp} (e : Ex H H0) (Q : VK)
    (q : ∀ (d : Addr) (us : List V) (H2 : Hp), H0 d = none → Ex H0 H2 → H2 d = some (.lst us) → BeastsT H2 us (l.map fun x => (f x, g x)) → Q (.ref d) H2) : tLc (iTup K te) (gName j) tYes (tTup (tCons t1 (tCons t2 tNil))) vs σ H0 Q :=
  ho H0 e _ fun H1 e1 => ⟨o, rfl, ⟨_, ex_t (e.trans e1) hs⟩, fun Dl hD => by
    refine lc_it (walk_tup (xs := natsV l)) (fun k H2 => Ex H1 H2 ∧ ∃ us, H2 Dl = some (.lst us) ∧ BeastsT H2 us ((l.take k).map fun x => (f x, g x))) ⟨Ex.new hD, [], upd_same, .nil⟩ (fun k H2 _ p => ex_t ((e.trans e1).trans p.1) hs) (fun k x H2 H3 hk p y => ?_) (fun H2 p => ?_)
    · obtain ⟨rfl, hx⟩ := y
      obtain ⟨p1, us, p2, p3⟩ := p
      have hk' : k < l.length := by
        rw [natsV_len] at hk
        exact hk
      have hx' : x = .int (l[k] : Int) := by
        unfold natsV at hx
        rw [List.getElem?_map, List.getElem?_eq_getElem hk'] at hx
        exact (Option.some.inj hx).symm
      subst hx'
      have mem : l[k] ∈ l := List.getElem_mem hk'
      refine ⟨hw _, t_yes ?_⟩
      have e2 := (e.trans e1).trans p1
      refine (h1 _ mem H3 e2) H3 (Ex.refl H3) _ fun H4 e4 => (h2 _ mem H3 e2) H4 e4 _ fun H5 e5 => ⟨by show 2 ≤ sizeLine; decide, fun TT hT => ?_⟩
      have g1 : (upd H5 TT (.tup [.int (f l[k]), .int (g l[k])])) Dl = some (.lst us) := Ex.new hT _ _ (e5 _ _ (e4 _ _ p2))
      have ln : us.length = k := by
        rw [All2.len p3, List.length_map, List.length_take]
        omega
      refine ⟨us, g1, by rw [ln]; exact sz_lt (by omega), Ex.mut (p1.trans ((e4.trans e5).trans (Ex.new hT))) hD, us ++ [.ref TT], upd_same, ?_⟩
      have tk : (l.take (k + 1)).map (fun x => (f x, g x)) = (l.take k).map (fun x => (f x, g x)) ++ [(f l[k], g l[k])] := by
        rw [List.take_add_one, List.getElem?_eq_getElem hk', List.map_append]
        rfl
      rw [tk]
      exact BeastsT.exB' (All2.app (BeastsT.ex' (BeastsT.ex' p3 (e4.trans e5)) (Ex.new hT)) (.cons ⟨TT, rfl, upd_same⟩ .nil)) (ExB.refl _ _).upd g1
    · obtain ⟨p1, us, p2, p3⟩ := p
      rw [natsV_len, List.take_length] at p3
      exact q Dl us H2 (fresh_back e1 hD) (e1.trans p1) p2 p3⟩
/-- tuple([(.., ..) for who in order]) -/
theorem er_ordT (f g : Nat → Int) (ho : Ev te σ H (.ref o)) (hs : SqT K H o (natsV l)) (hl : l.length ≤ 1000) (hw : ∀ x, wipe ((wipe σ vs).set j (some x)) vs = wipe σ vs)
    (h1 : ∀ x ∈ l, ∀ H1, Ex H H1 → Ev t1 ((wipe σ vs).set j (some (.int (x : Int)))) H1 (.int (f x))) (h2 : ∀ x ∈ l, ∀ H1, Ex H H1 → Ev t2 ((wipe σ vs).set j (some (.int (x : Int)))) H1 (.int (g x))) : EvR K (tThen (tLc (iTup K te) (gName j) tYes (tTup (tCons t1 (tCons t2 tNil))) vs) (kTup K)) σ H (l.map fun x => (f x, g x)) := fun H0 e Q q =>
  ep_ordT f g ho hs hl hw h1 h2 e _ fun d us H2 hd e2 g2 b2 => .inl ⟨d, us, rfl, sq_of g2, fun rt hrt => q _ _ (e2.trans (Ex.new hrt)) ⟨rt, us, rfl, st_of upd_same, (BeastsT.be b2).ex (Ex.new hrt)⟩⟩
end
end HH
set_option maxHeartbeats 4000000
namespace HH
open PySem PySem.Spec PyProof.Rows L2
/-! sorted(set(xs)), xs a list of ints -/
theorem ints_at : ∀ {us : List Value} {ns : List Int} {i : Nat} {v : Value}, IntsAre us ns → us[i]? = some v → ∃ k t, ns[i]? = some k ∧ v = .int k t
  | _, _, 0, v, .cons k t h, e => ⟨k, t, rfl, (Option.some.inj e).symm⟩
  | _, _, i + 1, v, .cons k t h, e => by
    obtain ⟨k2, t2, e1, e2⟩ := ints_at (i := i) h e
    exact ⟨k2, t2, e1, e2⟩
/-- a new set's object -/
abbrev newSI (w : World) : Obj := { cls := .type "set", dict := none, data := .set #[] 0 (.fresh 0 0 (!w.params.followText "set-order")) }
section
variable {w : World} {P : Program} {s : Shared} {A : Around} {E : Value → Shared → Prop}
/-- set(xs) -/
theorem set_newI {l : Addr} {its : Array Value} (ns : List Int) {Q : Value → Shared → Prop} (hh : A.handled = none) (hl : s.heap.IsList l its) (hit : IntsAre its.toList ns)
    (few : ns.length + 1 < scanBound)
    (q : ∀ (h' : Heap) (tk c : Nat), SetR w h' s.heap.objs.size (fun j => decide (j ∈ ns)) c → c ≤ ns.length → (∀ b z, s.heap.get? b = some z → h'.get? b = some z) → Q (.ref s.heap.objs.size) { s with heap := h', toks := tk }) :
    wpAny (model P w) A (call (Value.type "set") [Value.ref l]) Q E s := by
  have isz : its.size = ns.length := by
    rw [← Array.length_toList]; exact IntsAre.length hit
  obtain ⟨cc, tl, mro⟩ := F.called_set.mro
  have made := F.called_set.made
  have sub := F.called_set.sub
  refine wpAny_call (codeAny_of_tree ?_); show wpAny (model P w) _ (callAny (.type "set") _) _ _ _
  refine wpAny_pure ⟨Code.quiet_builtin _ (show _ = _ by decide +kernel), codeAny_builtin F.entry_type_call ?_⟩
  rw [Around.under_plain (weight_type_call_type "set" [Value.ref l] []) rfl]
  have n1 := F.called_set.notType
  have n2 := F.called_set.canCreate
  have n3 := F.typeCall_set_1 (.ref l)
  repeat (any_goals (first | (assumption) | wp_step))
  refine codeAny_mono (code_set_led1 (.ref l) (E := E) (Q₁ := fun ob s1 => ob = .ref s.heap.objs.size ∧ s1 = { s with heap := s.heap.push (newSI w) }) ⟨rfl, rfl⟩) fun r s1 hr => ?_
  cases r with
  | error e => exact hr
  | ok fl =>
    cases fl with
    | ret ob =>
      obtain ⟨rfl, rfl⟩ := hr
      have atS : (s.heap.push (newSI w)).get? s.heap.objs.size = some (newSI w) := Heap.get?_push_size _ rfl
      have tyS : Shared.TypeIs { s with heap := s.heap.push (newSI w) } (.ref s.heap.objs.size) "set" := ⟨_, atS, rfl⟩
      have li := F.called_set.init.lookup
      have bi := F.called_set.init.bind (.ref s.heap.objs.size)
      repeat (any_goals (first | (assumption) | wp_step))
      refine codeAny_mono (codeAny_call_builtin (R := wants (fun r s2 => r = .none ∧ ∃ h' tk c, s2 = { s with heap := h', toks := tk } ∧ SetR w h' s.heap.objs.size (fun j => decide (j ∈ ns)) c ∧ c ≤ ns.length ∧ (∀ b z, s.heap.get? b = some z → h'.get? b = some z)) E) F.called_set.init.plain F.entry_set_init (check_set_init_1 tyS ?_)) fun r2 s2 hr2 => ?_
      · obtain ⟨ol, hol, hcl, nl, hdl⟩ := id hl; clear hl
        obtain ⟨c1, c2, c3, c4⟩ := ol
        simp only at hcl hdl
        subst hcl
        subst hdl
        have hol2 : (s.heap.push (newSI w)).get? l = some { cls := .type "list", dict := c2, data := .seq its nl, slots := c4 } := Heap.get?_push_of_some _ hol
        have f1 := F.sub_list_set
        have f2 := F.sub_list_frozenset
        have f3 : (Value.type "list" == Value.type "dict") = false := show _ = _ by decide
        have hl2 : (s.heap.push (newSI w)).IsList l its := ⟨_, hol2, rfl, nl, rfl⟩
        unfold Builtin.«set.__init__» noKeywords Builtin.Frozenset.updateFrom; generalize gPI : pyIter = PI
        wp_walk
        subst gPI
        refine wpAny_pyIter_list hl2 (wpAny_bind (wpAny_runValue ?_))
        have lS : l < s.heap.objs.size := Heap.lt_size hol
        have zS : (s.heap.push (newSI w)).objs.size = s.heap.objs.size + 1 := Heap.size_push ..
        have nof : ∀ b, s.heap.objs.size ≤ b → s.heap.get? b = none := fun b hb => by
          cases y : s.heap.get? b with
          | none => rfl
          | some z => exact absurd (Heap.lt_size y) (Nat.not_lt.mpr hb)
        have neI : l ≠ (s.heap.push (newSI w)).objs.size := by rw [zS]; exact Nat.ne_of_lt (Nat.lt_succ_of_lt lS)
        have outS : s.heap.objs.size ∉ [(s.heap.push (newSI w)).objs.size, l] := by
          rw [zS]
          simp only [List.mem_cons, List.not_mem_nil, or_false, not_or]
          exact ⟨Nat.ne_of_lt (Nat.lt_succ_self _), Nat.ne_of_gt lS⟩
        have val : ∀ (i : Nat) (v : Value), its[i]? = some v → ∃ k t, ns[i]? = some k ∧ v = .int k t := fun i v hv => by
          have y : its.toList[i]? = some v := by rw [Array.getElem?_toList]; exact hv
          exact ints_at hit y
        refine set_update_ints ((Walks.list (show A.in1.in1.in1.handled = none by simp [hh]) _ l neI its).toS) s.heap.objs.size outS ns isz few val (its.size - 0) 0 _ rfl (Nat.zero_le _)
          ⟨⟨_, Heap.get?_push_size _ rfl, rfl, rfl⟩, hl2.push _⟩ ⟨0, Nat.le_refl _, setR_new_at (w := w) (Heap.get?_push_of_some _ atS)⟩ fun s3 c mv hc T => ?_
        have kp : ∀ b z, s.heap.get? b = some z → s3.heap.get? b = some z := fun b z e => by
          have lt := Heap.lt_size e
          refine mv.heap b z (fun y => ?_) (Heap.get?_push_of_some _ (Heap.get?_push_of_some _ e))
          rcases List.mem_cons.mp y with y | y
          · rw [y] at lt; exact absurd lt (Nat.lt_irrefl _)
          · rw [List.mem_singleton.mp y, zS] at lt; exact absurd lt (Nat.not_lt.mpr (Nat.le_succ _))
        obtain ⟨h3, g3, d3, tk3, os3⟩ := s3
        obtain rfl : g3 = s.gens := mv.gens
        obtain rfl : d3 = s.drawn := mv.drawn
        obtain rfl : os3 = s.os := mv.os
        show wpAny (model P w) _ _ _ _ _
        refine wpAny_pure ?_
        show wpAny (model P w) _ (ret Value.none) _ _ _
        exact wpAny_pure ⟨rfl, h3, tk3, c, rfl, T, by rw [← isz]; exact hc, kp⟩
      · cases r2 with
        | error e => exact hr2
        | ok fl2 =>
          cases fl2 with
          | ret r =>
            obtain ⟨rfl, h3, tk, c, rfl, T, hc, kp⟩ := hr2
            repeat (any_goals (first | (assumption) | wp_step))
            exact q _ _ _ T hc kp
          | _ => exact hr2.elim
    | _ => exact hr.elim
end
section
variable {X : Cx}
def tSortSet (K : PySem.W.Frag) (ta : TE) : TE := fun σ H Q => ta σ H fun x H1 => ∃ (l : Addr) (ns : List Int), x = V.ref l ∧ SqL K H1 l (ns.map V.int) ∧ ns.length < 60 ∧ ∀ (ms : List Int) (p : Addr), ms.Pairwise (· < ·) → (∀ k, k ∈ ms ↔ k ∈ ns) → ms.length ≤ ns.length → H1 p = none → Q (.ref p) (upd H1 p (.lst (ms.map V.int)))
theorem sort_set_run {pins : List (Addr × Obj)} {σ : L2.St} {H : Hp} {s : Shared} {a : Addr} {c : Nat} {ns : List Int} {E : Value → Shared → Prop} {Q0 : VK} (hc : X.calm = true) (I : Inv X pins σ H s) (T : SetR X.w s.heap a (fun j => decide (j ∈ ns)) c) (few : c < 60)
    (y : ∀ (ms : List Int) (p : Addr), ms.Pairwise (· < ·) → (∀ k, k ∈ ms ↔ k ∈ ns) → ms.length = c → H p = none → Q0 (.ref p) (upd H p (.lst (ms.map V.int)))) :
    wpAny (model X.prog X.w) X.A (call (.builtin "sorted") [.ref a]) (fun v s' => ∃ x H', Inv X pins σ H' s' ∧ RelV x v ∧ Q0 x H') E s := by
  refine sorted_set T (I.ok.hd hc) (by omega) fun s' p out cc ms k g o hp hg3 hi pw mem len => ?_
  have hn : H p = none := I.hok.fresh hp
  have hlen : (ms.map V.int).length ≤ sizeLine := by rw [List.length_map, sizeLine_eq]; omega
  have J : Inv X pins σ (upd H p (.lst (ms.map V.int))) { s with heap := s'.heap, gens := s'.gens, drawn := s'.drawn, toks := s'.toks } :=
    I.call (ch := []) (Un.laid k hp hn) (I.hok.laid k hp ⟨hlen, out.toList, cc, vals_of_ints hi, hg3⟩) (by rw [g]; exact I.bare) (fun _ z => nomatch z)
  have e : s' = { s with heap := s'.heap, gens := s'.gens, drawn := s'.drawn, toks := s'.toks } := by
    cases s'
    cases s
    cases o
    rfl
  rw [e]
  exact ⟨.ref p, _, J, rfl, y ms p pw (fun k => by rw [mem]; simp) len hn⟩
theorem pe_sortSet {a : Expr} {ta : TE} {p p2 q pos : Pos} (hc : X.calm = true) (hg : Gl X "sorted") (hm : X.mg "sorted" = none) (hg2 : Gl X "set") (hm2 : X.mg "set" = none) (ha : PE X a ta)
    (na : starEach [a] X.env = (false, eval a X.env) :: starEach [] X.env := by rfl) : PE X (.Call (.Name "sorted" p) [.Call (.Name "set" p2) [a] [] q] [] pos) (tSortSet X.K ta) := by
  refine ⟨fun pins s σ H Q I0 hq => ?_⟩
  refine Call_ (ld_blt I0 hg hm boot_sorted ?_)
  refine callWith_builtin1 (args_cons ?_ rfl) rfl rfl
  refine Call_ (ld_blt I0 hg2 hm2 boot_set ?_)
  refine callWith_type1 (args_cons (thn (ha.run pins s σ H _ I0 hq) fun v s1 ⟨x, H1, I1, r1, y⟩ => args_nil ?_) na) na rfl
  obtain ⟨l, ns, rfl, hl, few, y⟩ := y
  cases r1
  obtain ⟨its, rv, pl, _⟩ := I1.list hl
  refine set_newI (P := X.prog) (w := X.w) ns (I1.ok.hd hc) pl.isList (by simpa using rv.ints) (by unfold scanBound; omega) fun h2 tk c T hcn kp => ?_
  refine args_nil ?_
  have I2 : Inv X pins σ H1 { s1 with heap := h2, toks := tk } := I1.kept fun b o e => kp b o e
  exact sort_set_run hc I2 T (by omega) fun ms p pw mem len hn => y ms p pw mem (by omega) hn
end
end HH
set_option maxHeartbeats 4000000
namespace HH
open PySem PySem.Spec PyProof.Rows L2 Evl RZ
/-- ended, whose order is a tuple known to have no dict -/
def spEndedF (K : PySem.W.Frag) : Sp := fun vs H Q _ => ∃ (p : Addr) (v : V) (rs : HH.Row) (n : Nat), vs = [.ref p, v] ∧ RowAt K H v rs ∧ rs.length ≤ 30 ∧ (∀ b ∈ rs, 0 ≤ b.2) ∧ Bx H p n ∧ n + 1000 < Lim ∧
  ∀ (q : Addr) (v' : V) (ot lp : Addr) (o : Obj) (L : List Cow) (ps : List (Int × Int)) (H' : Hp), ExB p H H' → Bx H' p (n + 1000) → H' q = some (.tup [v', .ref ot, .ref lp]) → H' ot = some (.frz o (.tup (ordL L))) → PlainT o → PRun (tag 0 rs) L ps → passL (rowsOf L) = [] → Q (.ref q) H'
/-- at which place one stands at last, by draws -/
def spPlaceB (K : PySem.W.Frag) : Sp := fun vs H Q _ => ∃ (p : Addr) (v : V) (rs : HH.Row) (w n : Nat), vs = [.ref p, v, .int (w : Int)] ∧ RowAt K H v rs ∧ rs.length ≤ 30 ∧ (∀ b ∈ rs, 0 ≤ b.2) ∧ w < rs.length ∧ Bx H p n ∧ n + 1000 < Lim ∧
  ∀ (H' : Hp), ExB p H H' → Bx H' p (n + 1000) → Q (.int (placeN rs w : Int)) H'
theorem place_lt {rs : HH.Row} {w : Nat} (h : w < rs.length) : placeN rs w < rs.length := by
  unfold placeN
  have key : ∀ (f : Nat → Bool) (l : List Nat), w ∈ l → f w = false → l.countP f < l.length := fun f l => by
    induction l with
    | nil => exact fun h _ => nomatch h
    | cons x l ih =>
      intro hm hf
      rw [List.countP_cons, List.length_cons]
      rcases List.mem_cons.mp hm with e | hm
      · rw [← e, hf]
        have := List.countP_le_length (p := f) (l := l)
        show l.countP f + 0 < _
        omega
      · have := ih hm hf
        have h2 : (if f x = true then 1 else 0) ≤ 1 := by split <;> omega
        omega
  have z := key (aheadP rs w) (List.range rs.length) (List.mem_range.mpr h) (by
    unfold aheadP
    rw [if_neg (Nat.lt_irrefl w), if_neg (Nat.lt_irrefl w)])
  rw [List.length_range] at z
  exact z
theorem top_ex : ∀ rs : HH.Row, ∃ top : Int, ∀ k, k < rs.length → sS rs k ≤ top
  | [] => ⟨0, fun k hk => absurd hk (Nat.not_lt_zero _)⟩
  | b :: rs => by
    obtain ⟨t, h⟩ := top_ex rs
    refine ⟨max b.1 t, fun k hk => ?_⟩
    cases k with
    | zero => exact Int.le_max_left ..
    | succ k => exact Int.le_trans (h k (Nat.lt_of_succ_lt_succ hk)) (Int.le_max_right ..)
theorem least_nat {p : Nat → Prop} : ∀ n, p n → ∃ k, p k ∧ ∀ j, j < k → ¬ p j := by
  intro n
  induction n using Nat.strongRecOn with
  | ind n ih =>
    intro h
    by_cases c : ∃ j, j < n ∧ p j
    · obtain ⟨j, h1, h2⟩ := c
      exact ih j h1 h2
    · exact ⟨n, h, fun j hj hp => c ⟨j, hj, hp⟩⟩
theorem leastF_ex {rs : HH.Row} {w k : Nat} (ht : ∀ b ∈ rs, 0 ≤ b.2) (h : w < rs.length) : ∃ F, LeastF rs w k F := by
  obtain ⟨top, htop⟩ := top_ex rs
  have z : placeN (fedR rs w ((top + tsum rs + 1 - sS rs w).toNat : Int)) w = 0 := fed_front (top := top) ht h htop (by omega)
  obtain ⟨m, h1, h2⟩ := least_nat (p := fun (m : Nat) => placeN (fedR rs w (m : Int)) w ≤ k) (top + tsum rs + 1 - sS rs w).toNat (by rw [z]; omega)
  refine ⟨(m : Int), by omega, h1, fun f f0 hf => ?_⟩
  obtain ⟨j, rfl⟩ := Int.eq_ofNat_of_zero_le f0
  have := h2 j (by omega)
  omega
/-- the least feed -/
noncomputable def lf (rs : HH.Row) (w k : Nat) : Int := by
  classical
  exact if h : ∃ F, LeastF rs w k F then Classical.choose h else 0
theorem lf_is {rs : HH.Row} {w k : Nat} {F : Int} (h : LeastF rs w k F) : F = lf rs w k := by
  have e : ∃ F, LeastF rs w k F := ⟨F, h⟩
  unfold lf
  rw [dif_pos e]
  exact h.one (Classical.choose_spec e)
theorem lf_ok {rs : HH.Row} {w k : Nat} (ht : ∀ b ∈ rs, 0 ≤ b.2) (h : w < rs.length) : LeastF rs w k (lf rs w k) := by
  obtain ⟨F, hF⟩ := leastF_ex (k := k) ht h
  rw [← lf_is hF]
  exact hF
theorem lf_anti {rs : HH.Row} {w k m : Nat} (ht : ∀ b ∈ rs, 0 ≤ b.2) (h : w < rs.length) (hk : k ≤ m) : lf rs w m ≤ lf rs w k := by
  have a := lf_ok (k := k) ht h
  have b := lf_ok (k := m) ht h
  rcases Int.lt_or_le (lf rs w k) (lf rs w m) with c | c
  · have := b.no _ a.nn c
    have := a.at'
    omega
  · exact c
theorem lf_back {rs : HH.Row} {w k : Nat} (ht : ∀ b ∈ rs, 0 ≤ b.2) (h : w < rs.length) (hk : rs.length ≤ k + 1) : lf rs w k = 0 := by
  refine (lf_is ⟨Int.le_refl 0, ?_, fun f a b => by omega⟩).symm
  have := place_lt (rs := fedR rs w 0) (w := w) (by rw [fedR_len h]; exact h)
  rw [fedR_len h] at this
  omega
theorem sv_leastF {K : PySem.W.Frag} {H : Hp} {v : V} {rs : HH.Row} {w k : Nat} {E : XK} {Q : VK} (hv : RowAt K H v rs) (hl : rs.length ≤ 1000) (hw : w < rs.length) (ht : ∀ b ∈ rs, 0 ≤ b.2) (q : RetV (.int (lf rs w k)) H Q) : spLeastF K [v, .int (w : Int), .int (k : Int)] H Q E :=
  ⟨v, rs, w, k, rfl, hv, hl, hw, ht, fun F H' e hF => by rw [lf_is hF]; exact q H' e⟩
/-- ints that rise, among 0, r, n - 1 -/
theorem rise_nats {ms : List Int} {n r : Nat} (pw : ms.Pairwise (· < ·)) (mem : ∀ k, k ∈ ms ↔ k ∈ [(0 : Int), (r : Int), (n : Int)]) (hr : r ≤ n) : ∃ pl : List Nat, ms = pl.map (fun (x : Nat) => (x : Int)) ∧ pl.Pairwise (· < ·) ∧ (∀ x ∈ pl, x ≤ n) ∧ pl.getLast? = some n := by
  have low : ∀ x ∈ ms, 0 ≤ x ∧ x ≤ (n : Int) := fun x hx => by
    have := (mem x).mp hx
    simp only [List.mem_cons, List.not_mem_nil, or_false] at this
    omega
  have e : ms = (ms.map Int.toNat).map (fun (x : Nat) => (x : Int)) := by
    rw [List.map_map]
    conv => lhs; rw [← List.map_id ms]
    refine List.map_congr_left fun x hx => ?_
    have := (low x hx).1
    show x = ((x.toNat : Nat) : Int)
    omega
  refine ⟨ms.map Int.toNat, e, ?_, fun x hx => ?_, ?_⟩
  · refine List.pairwise_map.mpr (List.Pairwise.imp_of_mem (fun {a b} ha hb h => ?_) pw)
    have := (low a ha).1
    have := (low b hb).1
    omega
  · obtain ⟨y, hy, rfl⟩ := List.mem_map.mp hx
    have := low y hy
    omega
  · rw [List.getLast?_map]
    have hn : (n : Int) ∈ ms := (mem _).mpr (by simp)
    have hne : ms ≠ [] := fun z => by rw [z] at hn; cases hn
    rw [List.getLast?_eq_getLast hne]
    show some (ms.getLast hne).toNat = some n
    have e1 := List.dropLast_concat_getLast hne
    have : ms.getLast hne = (n : Int) := by
      have hin : (n : Int) ∈ ms.dropLast ++ [ms.getLast hne] := by rw [e1]; exact hn
      rcases List.mem_append.mp hin with h | h
      · rw [← e1] at pw
        have z := (List.pairwise_append.mp pw).2.2 _ h _ (List.mem_singleton.mpr rfl)
        have := (low _ (List.getLast_mem hne)).2
        omega
      · exact (List.mem_singleton.mp h).symm
    rw [this]
    rfl
end HH
set_option maxHeartbeats 4000000
namespace HH
open PySem PySem.Spec PyProof.Rows L2 Evl RZ
/-! ### new lists that are still written (k62's table) -/
structure Cells (H0 H : Hp) (as : List Addr) (ll : Nat → List Nat) : Prop where
  nd : as.Nodup
  old : ∀ a ∈ as, H0 a = none
  at' : ∀ (i : Nat) (a : Addr), as[i]? = some a → H a = some (.lst (natsV (ll i)))
theorem Cells.ex {H0 H H' : Hp} {as : List Addr} {ll : Nat → List Nat} (h : Cells H0 H as ll) (e : Ex H H') : Cells H0 H' as ll := ⟨h.nd, h.old, fun i a ha => e _ _ (h.at' i a ha)⟩
theorem Cells.congr {H0 H : Hp} {as : List Addr} {ll lm : Nat → List Nat} (h : Cells H0 H as ll) (e : ∀ i, i < as.length → lm i = ll i) : Cells H0 H as lm := ⟨h.nd, h.old, fun i a ha => by
  rw [e i (List.getElem?_eq_some_iff.mp ha).1]
  exact h.at' i a ha⟩
theorem Cells.put {H0 H : Hp} {as : List Addr} {ll lm : Nat → List Nat} {i : Nat} {a : Addr} {l : List Nat} (h : Cells H0 H as ll) (ha : as[i]? = some a) (h1 : lm i = l) (h2 : ∀ k, k ≠ i → lm k = ll k) : Cells H0 (upd H a (.lst (natsV l))) as lm := ⟨h.nd, h.old, fun k c hc => by
  by_cases z : k = i
  · subst z
    rw [ha] at hc
    cases hc
    rw [h1]
    exact upd_same
  · have ne : c ≠ a := fun e => by
      subst e
      obtain ⟨g1, g2⟩ := List.getElem?_eq_some_iff.mp hc
      exact z ((List.getElem?_inj g1 h.nd).mp (hc.trans ha.symm))
    rw [upd_ne ne, h2 k z]
    exact h.at' k c hc⟩
theorem Cells.lists {H00 H0 H : Hp} {as : List Addr} {ll : Nat → List Nat} {lm : List (List Nat)} (h : Cells H0 H as ll) (hl : as.length = lm.length) (hm : ∀ i, i < lm.length → lm[i]? = some (ll i)) (e : Ex H00 H0) : ListsF H00 H (as.map V.ref) lm := ⟨by rw [List.length_map, hl], fun i l hi => by
  have h1 := (List.getElem?_eq_some_iff.mp hi).1
  have h2 : i < as.length := by omega
  have h3 := List.getElem?_eq_getElem h2
  have h4 := hm i h1
  rw [hi] at h4
  refine ⟨as[i], by rw [List.getElem?_map, h3]; rfl, fresh_back e (h.old _ (List.getElem_mem h2)), ?_⟩
  rw [Option.some.inj h4]
  exact h.at' i _ h3⟩
theorem Cells.app {H0 H : Hp} {as : List Addr} {p : Addr} (h : Cells H0 H as fun _ => []) (h0 : H0 p = none) (hp : H p = none) : Cells H0 (upd H p (.lst [])) (as ++ [p]) fun _ => [] := by
  have np : p ∉ as := fun z => by
    obtain ⟨i, hi⟩ := List.mem_iff_getElem?.mp z
    have := h.at' i p hi
    rw [hp] at this
    cases this
  refine ⟨?_, fun a ha => ?_, fun i a ha => ?_⟩
  · rw [List.nodup_append]
    exact ⟨h.nd, List.pairwise_singleton _ p, fun a ha b hb e => np (by rw [List.mem_singleton.mp hb] at e; rw [← e]; exact ha)⟩
  · rcases List.mem_append.mp ha with ha | ha
    · exact h.old a ha
    · rw [List.mem_singleton.mp ha]
      exact h0
  · by_cases hi : i < as.length
    · rw [List.getElem?_append_left hi] at ha
      have ne : a ≠ p := fun e => np (by rw [← e]; exact List.mem_of_getElem? ha)
      rw [upd_ne ne]
      exact h.at' i a ha
    · rw [List.getElem?_append_right (by omega)] at ha
      match e : i - as.length, ha with
      | 0, ha =>
        cases ha
        exact upd_same
      | k + 1, ha => cases ha
section
variable {K : PySem.W.Frag} {σ : L2.St} {H : Hp} {D : Ends} {tz tu : TS}
theorem q_forDown {ta : TA} {j n : Nat} (h : EvA ta σ H [.int ((n : Int) - 1), .int (-1), .int (-1)]) (hn : n ≤ 100000) (Pv : Nat → L2.St → Hp → Prop) (h0 : ∀ H1, Ex H H1 → Pv 0 σ H1)
    (hs : ∀ i σ' H', i < n → Pv i σ' H' → tu { D with nx := Pv (i + 1), ct := Pv (i + 1), bk := tz D } (σ'.set j (some (.int ((n - 1 - i : Nat) : Int)))) H') (hd : ∀ σ' H', Pv n σ' H' → tz D σ' H') : tSeq (tFor (iRng3 ta) (gName j) tu) tz D σ H :=
  h H (Ex.refl H) _ fun H1 e => ⟨(n : Int) - 1, -1, -1, n, rfl, by
    have z := RgC.neg (i := (n : Int) - 1) (j := -1) (by omega) (by omega) (by omega) (by omega)
    rw [show ((n : Int) - 1 - -1).toNat = n by omega] at z
    exact z, by
    refine for_rangeC (D := { D with nx := tz D }) Pv (h0 H1 e) (fun i σ' H' hi p => ?_) hd
    rw [show (n : Int) - 1 + ((i : Nat) : Int) * (-1) = ((n - 1 - i : Nat) : Int) by omega]
    exact hs i σ' H' hi p⟩
end
def spTable (K : PySem.W.Frag) : Sp := fun vs H Q _ => ∃ (v : V) (rs : HH.Row), vs = [v] ∧ RowAt K H v rs ∧ rs.length ≤ 1000 ∧ (∀ b ∈ rs, 0 ≤ b.2) ∧ ∀ (q : Addr) (us : List V) (H' : Hp), H q = none → Ex H H' → H' q = some (.lst us) → ListsF H H' us (nevT rs) → Q (.ref q) H'
/-- the lists when so many of the hindmost are done, and so many of the next one's -/
def doneT (rs : HH.Row) (k m : Nat) (i : Nat) : List Nat := if rs.length ≤ i + k then nevL rs i (rs.length - i - 1) else if i + k + 1 = rs.length then nevL rs i m else []
end HH
set_option maxHeartbeats 4000000
namespace HH
open PySem PySem.Spec PyProof.Rows L2 Evl RZ
/-- what each ahead wants -/
structure WantsD (rs : HH.Row) (who m : Nat) (kvs : List (Key × V)) : Prop where
  val : ∀ j : Nat, who ≤ j + m → j < who → valV kvs (.inl (j : Int)) = some (.int (barN rs j (who - j - 1) + 1))
  key : ∀ kv ∈ kvs, ∃ j : Nat, kv.1 = .inl (j : Int) ∧ j < who ∧ who ≤ j + m
  len : kvs.length ≤ m
theorem WantsD.nil (rs : HH.Row) (who : Nat) : WantsD rs who 0 [] := ⟨fun j h1 h2 => by omega, (fun kv h => nomatch h), Nat.le_refl _⟩
theorem WantsD.put {rs : HH.Row} {who m : Nat} {kvs : List (Key × V)} (w : WantsD rs who m kvs) (hm : m < who) : WantsD rs who (m + 1) (putK kvs (.inl ((who - 1 - m : Nat) : Int)) (.int (barN rs (who - 1 - m) m + 1))) := by
  have no : valV kvs (.inl ((who - 1 - m : Nat) : Int)) = none := by
    cases c : valV kvs (.inl ((who - 1 - m : Nat) : Int)) with
    | none => rfl
    | some x =>
      exfalso
      have z := valV_any (Sum.inl ((who - 1 - m : Nat) : Int)) kvs
      rw [c] at z
      obtain ⟨kv, hkv, e⟩ := List.any_eq_true.mp z
      obtain ⟨j, e2, h1, h2⟩ := w.key kv hkv
      have e3 : kv.1 = .inl ((who - 1 - m : Nat) : Int) := of_decide_eq_true e
      rw [e2] at e3
      injection e3 with e3
      omega
  refine ⟨fun j h1 h2 => ?_, fun kv hkv => ?_, ?_⟩
  · rw [valV_put]
    by_cases c : j = who - 1 - m
    · rw [if_pos (by rw [c]), c, show who - (who - 1 - m) - 1 = m by omega]
    · rw [if_neg (fun z => c (by injection z with z; omega))]
      exact w.val j (by omega) h2
  · rw [putK_new _ no] at hkv
    rcases List.mem_append.mp hkv with h | h
    · obtain ⟨j, a, b, c⟩ := w.key kv h
      exact ⟨j, a, b, by omega⟩
    · rw [List.mem_singleton.mp h]
      exact ⟨who - 1 - m, rfl, by omega, by omega⟩
  · rw [putK_new _ no, List.length_append]
    have := w.len
    show kvs.length + 1 ≤ _
    omega
def spWants (K : PySem.W.Frag) : Sp := fun vs H Q _ => ∃ (v : V) (rs : HH.Row) (who : Nat), vs = [v, .int (who : Int)] ∧ RowAt K H v rs ∧ rs.length ≤ 1000 ∧ who < rs.length ∧ (∀ b ∈ rs, 0 ≤ b.2) ∧ ∀ (d : Addr) (kvs : List (Key × V)) (H' : Hp), H d = none → Ex H H' → H' d = some (.dK kvs) → WantsD rs who who kvs → Q (.ref d) H'
def spWithB (K : PySem.W.Frag) : Sp := fun vs H Q _ => ∃ (v u : V) (rs : HH.Row) (w : Nat) (b : Int × Int), vs = [v, .int (w : Int), u] ∧ RowAt K H v rs ∧ rs.length ≤ 1000 ∧ w < rs.length ∧ BeastAt K H u b ∧ ∀ z H', Ex H H' → RowAt K H' z (putR rs w b) → Q z H'
/-- those that never pass keep it no lower -/
theorem bar_near {rs : HH.Row} {i m b : Nat} (ht : ∀ x ∈ rs, 0 ≤ x.2) (hm : i + 1 + m ≤ rs.length) (h : b ∈ nevL rs i m) : barN rs b (i + 1 + m - b - 1) ≤ barN rs i m := by
  obtain ⟨h1, h2, h3⟩ := nevL_iff.mp h
  have z := bar_le ht (i := i) (m0 := b - i - 1) (by have := of_decide_eq_true h3; exact this) (i + 1 + m - b - 1) (by omega)
  rw [show i + 1 + (b - i - 1) = b by omega, show b - i - 1 + 1 + (i + 1 + m - b - 1) = m by omega] at z
  exact z
theorem el_near {l : List Nat} : given (natsV l).length (fun _ => true) (fun j => V.int (ixN l j : Int)) = natsV l := by
  rw [natsV_len]
  have z := given_filter l (fun _ => true) (fun k => V.int (k : Int))
  rw [List.filter_eq_self.mpr (fun _ _ => rfl)] at z
  exact z
theorem el_nearF {l : List Nat} (g : Nat → Int) : given (natsV l).length (fun _ => true) (fun j => V.int (g (ixN l j))) = (l.map g).map V.int := by
  rw [natsV_len]
  have z := given_filter l (fun _ => true) (fun k => V.int (g k))
  rw [List.filter_eq_self.mpr (fun _ _ => rfl)] at z
  rw [List.map_map]
  exact z
end HH
set_option maxHeartbeats 4000000
namespace HH
open PySem PySem.Spec PyProof.Rows L2 Evl RZ
section
variable {K : PySem.W.Frag} {σ : L2.St} {H H' : Hp} {ta tb te : TE} {v : V} {Q : VK}
theorem rv_neInts {a b : Addr} {ns : List Int} (ha : SqL K H a (ns.map V.int)) (hb : SqL K H b (ns.map V.int)) : RV (rNeD K) (.ref a) (.ref b) H (.bl false) := rv_neD (.lst ha (dp_ints ns)) (.lst hb (dp_ints ns)) (nice_list (nice_ints ns)) (by decide)
theorem et_neLI {ns : List Int} (h : EvL ta σ H (ns.map V.int)) (g : EvL tb σ H (ns.map V.int)) : EvT (tTest (tOp (rNeD K) ta tb)) σ H false := fun H1 e1 Q q =>
  h H1 e1 _ fun a H2 ha e2 g2 => g H2 (e1.trans e2) _ fun b H3 hb e3 g3 => (rv_neInts (sq_of (e3 _ _ g2)) (sq_of g3)) H3 (Ex.refl H3) _ fun H4 e4 => ⟨false, rfl, q H4 ((e2.trans e3).trans e4)⟩
theorem et_neLV {ns : List Int} {b : Addr} (h : EvL ta σ H (ns.map V.int)) (g : Ev tb σ H (.ref b)) (hb : H b = some (.lst (ns.map V.int))) : EvT (tTest (tOp (rNeD K) ta tb)) σ H false := fun H1 e1 Q q =>
  h H1 e1 _ fun a H2 ha e2 g2 => g H2 (e1.trans e2) _ fun H3 e3 => (rv_neInts (sq_of (e3 _ _ g2)) (sq_of (((e1.trans e2).trans e3) _ _ hb))) H3 (Ex.refl H3) _ fun H4 e4 => ⟨false, rfl, q H4 ((e2.trans e3).trans e4)⟩
theorem el_sortedI {ns ms : List Int} (h : EvL ta σ H (ns.map V.int)) (pm : ns.Perm ms) (pw : ms.Pairwise (· ≤ ·)) : EvL (tCB (rSortedI K) (tCons ta tNil)) σ H (ms.map V.int) := fun H1 e1 Q q =>
  h H1 e1 _ fun a H2 ha e2 g2 => ⟨a, ns, rfl, sq_of g2, fun ns' p pm' srt hp => by
    rw [sorted_same (pm'.trans pm) srt pw]
    exact q p _ (fresh_back e2 hp) (e2.trans (Ex.new hp)) upd_same⟩
/-- [one for one, other in pairs if other == who] -/
def firsts (ps : HH.Row) (who : Int) : List Int := (ps.filter fun b => decide (b.2 = who)).map (·.1)
theorem el_firsts {ps : HH.Row} {i j iw : Nat} {vs : List Nat} {who : Int} (h : ∀ H1, Ex H H1 → ∀ Q : VK, (∀ (a : Addr) (us : List V) (H2 : Hp), Ex H1 H2 → (∀ H3, Ex H2 H3 → SqL K H3 a us) → Beasts K H2 us ps → Q (.ref a) H2) → te σ H1 Q) (hl : ps.length ≤ 2000) (hw : ∀ x y, wipe (((wipe σ vs).set i (some x)).set j (some y)) vs = wipe σ vs)
    (h1 : ∀ x y : V, (((wipe σ vs).set i (some x)).set j (some y))[i]? = some (some x)) (h2 : ∀ x y : V, (((wipe σ vs).set i (some x)).set j (some y))[j]? = some (some y)) (h3 : ∀ x y : V, (((wipe σ vs).set i (some x)).set j (some y))[iw]? = some (some (.int who))) :
    EvL (tLc (iList K te) (gTup K 2 (gCons (gName i) (gCons (gName j) gNil))) (tTest (tOp rEq (tVar j) (tVar iw))) (tVar i) vs) σ H ((firsts ps who).map V.int) := fun H0 e0 Q q => by
  refine h H0 e0 _ fun a us H1 e1 sq bs => ⟨a, rfl, ⟨us, sq H1 (Ex.refl H1)⟩, fun D hD => ?_⟩
  refine in_it (walk_list (xs := us)) (fun k H2 => Ex H1 H2 ∧ H2 D = some (.lst ((firsts (ps.take k) who).map V.int))) ⟨Ex.new hD, upd_same⟩ (fun k H2 _ z => sq H2 z.1) (fun k x H2 H3 hk z y => ?_) (fun H2 z => ?_)
  · obtain ⟨rfl, hx⟩ := y
    obtain ⟨z1, z2⟩ := z
    have hk' : k < ps.length := by rw [← bs.1]; exact hk
    obtain ⟨u, hu, pp, rfl, hpp⟩ := bs.2 k ps[k] (List.getElem?_eq_getElem hk')
    rw [hx] at hu
    cases hu
    refine ⟨pp, _, rfl, ex_t z1 hpp, rfl, _, _, rfl, _, _, rfl, rfl, hw _ _, ?_⟩
    have et : firsts (ps.take (k + 1)) who = firsts (ps.take k) who ++ (if ps[k].2 = who then [ps[k].1] else []) := by
      unfold firsts
      rw [List.take_add_one, List.getElem?_eq_getElem hk', List.filter_append, List.map_append]
      congr 1
      by_cases c : ps[k].2 = who
      · simp [c]
      · simp [c]
    have ln : (firsts (ps.take k) who).length ≤ k := by
      unfold firsts
      rw [List.length_map]
      exact Nat.le_trans (List.length_filter_le _ _) (by rw [List.length_take]; omega)
    refine ⟨_, h2 _ _, _, h3 _ _, rfl, _, rfl, ite2 (fun c => ?_) (fun c => ?_)⟩
    · have c' : ps[k].2 = who := by
        have := of_decide_eq_true c
        injection this
      refine ⟨_, h1 _ _, _, z2, sz_lt (by rw [List.length_map]; omega), Ex.mut z1 hD, ?_⟩
      rw [upd_same, et, if_pos c', List.map_append]
      rfl
    · have c' : ps[k].2 ≠ who := fun z => c (decide_eq_true (by rw [z]))
      refine ⟨z1, ?_⟩
      rw [et, if_neg c', List.append_nil]
      exact z2
  · obtain ⟨z1, z2⟩ := z
    rw [bs.1, List.take_length] at z2
    exact q D H2 (fresh_back e1 hD) (e1.trans z1) z2
/-- [x - 1 for x in xs] -/
theorem el_decr {sl : List Int} {a : Addr} {j : Nat} {vs : List Nat} (h : Ev ta σ H (.ref a)) (ha : H a = some (.lst (sl.map V.int))) (hl : sl.length ≤ 2000) (hw : ∀ x, wipe ((wipe σ vs).set j (some x)) vs = wipe σ vs) (h1 : ∀ x : V, ((wipe σ vs).set j (some x))[j]? = some (some x)) :
    EvL (tLc (iList K ta) (gName j) tYes (tOp (rI0 fun i j => .int (i - j)) (tVar j) (tC (.int 1))) vs) σ H ((sl.map (· - 1)).map V.int) := fun H0 e0 Q q => by
  refine h H0 e0 _ fun H1 e1 => ⟨a, rfl, ⟨_, sq_of ((e0.trans e1) _ _ ha)⟩, fun D hD => ?_⟩
  have e01 := e0.trans e1
  refine in_it (walk_list (K := K) (a := a) (xs := sl.map V.int)) (fun k H2 => Ex H1 H2 ∧ H2 D = some (.lst (((sl.take k).map (· - 1)).map V.int))) ⟨Ex.new hD, upd_same⟩ (fun k H2 _ z => sq_of ((e01.trans z.1) _ _ ha)) (fun k x H2 H3 hk z y => ?_) (fun H2 z => ?_)
  · obtain ⟨rfl, hx⟩ := y
    obtain ⟨z1, z2⟩ := z
    have hk' : k < sl.length := by rw [List.length_map] at hk; exact hk
    rw [List.getElem?_map, List.getElem?_eq_getElem hk'] at hx
    cases hx
    refine ⟨hw _, t_yes ⟨_, h1 _, _, _, rfl, rfl, _, z2, sz_lt (by rw [List.length_map, List.length_map, List.length_take]; omega), Ex.mut z1 hD, ?_⟩⟩
    rw [upd_same, List.take_add_one, List.getElem?_eq_getElem hk', List.map_append, List.map_append]
    rfl
  · obtain ⟨z1, z2⟩ := z
    rw [List.length_map, List.take_length] at z2
    exact q D H2 (fresh_back e1 hD) (e1.trans z1) z2
/-- d locked and back -/
theorem ex_unlock {d : Addr} {u u2 : HO} (hd : H d = some u) (e : Ex (upd H d u2) H') : Ex H (upd H' d u) := fun a o ha => by
  by_cases c : a = d
  · subst c
    rw [upd_same, ← hd]
    exact ha
  · rw [upd_ne c]
    exact e a o (by rw [upd_ne c]; exact ha)
end
/-! whom one of that strength passes -/
def duL (rs : HH.Row) (who : Nat) (st : Int) : List Nat := (List.range who).filter fun i => decide (barN rs i (who - i - 1) + 1 ≤ st)
def duI (rs : HH.Row) (who : Nat) (st : Int) : List Int := (duL rs who st).map fun (x : Nat) => (x : Int)
theorem duI_pw (rs : HH.Row) (who : Nat) (st : Int) : (duI rs who st).Pairwise (· ≤ ·) := by
  unfold duI duL
  refine List.pairwise_map.mpr (List.Pairwise.imp (fun {a b} h => ?_) (List.Pairwise.filter _ List.pairwise_lt_range))
  show (a : Int) ≤ (b : Int)
  omega
theorem firsts_perm {rs ss : HH.Row} {who : Nat} {st : Int} {ps : HH.Row} {l : List Nat} (pm : ps.Perm (tab l ss.length ss.length)) (hw : who < ss.length) (same : ∀ i, i < who → barN ss i (who - i - 1) = barN rs i (who - i - 1)) (hs : sS ss who = st) (iff : ∀ i, i < who → (bef l who i = true ↔ barN ss i (who - i - 1) < sS ss who)) : (firsts ps (who : Int)).Perm (duI rs who st) := by
  have nd : (firsts ps (who : Int)).Nodup := by
    unfold firsts
    refine List.pairwise_map.mpr (List.Pairwise.imp_of_mem (fun {b c} hb hc ne e => ne ?_) (List.Pairwise.filter _ (pm.nodup_iff.mpr (nd_tab l _ _))))
    have h1 := of_decide_eq_true (List.mem_filter.mp hb).2
    have h2 := of_decide_eq_true (List.mem_filter.mp hc).2
    exact Prod.ext e (h1.trans h2.symm)
  have nd2 : (duI rs who st).Nodup := by
    unfold duI duL
    refine List.pairwise_map.mpr (List.Pairwise.imp (fun {a b} h => ?_) (List.Pairwise.filter _ List.nodup_range))
    show (a : Int) ≠ (b : Int)
    omega
  refine (List.perm_ext_iff_of_nodup nd nd2).mpr fun x => ?_
  unfold firsts duI duL
  constructor
  · intro h
    obtain ⟨b, hb, rfl⟩ := List.mem_map.mp h
    obtain ⟨h1, h2⟩ := List.mem_filter.mp hb
    obtain ⟨i, j, hij, hj, rfl, hbef⟩ := mem_tab.mp (pm.mem_iff.mp h1)
    have e : j = who := by
      have : (j : Int) = (who : Int) := of_decide_eq_true h2
      omega
    subst e
    have := (iff i hij).mp hbef
    rw [same i hij, hs] at this
    exact List.mem_map.mpr ⟨i, List.mem_filter.mpr ⟨List.mem_range.mpr hij, decide_eq_true (by omega)⟩, rfl⟩
  · intro h
    obtain ⟨i, hi, rfl⟩ := List.mem_map.mp h
    obtain ⟨h1, h2⟩ := List.mem_filter.mp hi
    have hi' := List.mem_range.mp h1
    have h3 := of_decide_eq_true h2
    refine List.mem_map.mpr ⟨((i : Int), (who : Int)), List.mem_filter.mpr ⟨pm.mem_iff.mpr (mem_tab.mpr ⟨i, who, hi', hw, rfl, (iff i hi').mpr ?_⟩), decide_eq_true rfl⟩, rfl⟩
    rw [same i hi', hs]
    omega
theorem firsts_tab {rs ss : HH.Row} {who : Nat} {st : Int} {l : List Nat} (hw : who < ss.length) (same : ∀ i, i < who → barN ss i (who - i - 1) = barN rs i (who - i - 1)) (hs : sS ss who = st) (iff : ∀ i, i < who → (bef l who i = true ↔ barN ss i (who - i - 1) < sS ss who)) : firsts (tab l ss.length ss.length) (who : Int) = duI rs who st := by
  refine sorted_same (firsts_perm (List.Perm.refl _) hw same hs iff) ?_ (duI_pw rs who st)
  unfold firsts
  refine List.pairwise_map.mpr (List.Pairwise.imp_of_mem (fun {b c} hb hc h => ?_) (List.Pairwise.filter _ (pw_tab l _ _)))
  have h1 : b.2 = who := of_decide_eq_true (List.mem_filter.mp hb).2
  have h2 : c.2 = who := of_decide_eq_true (List.mem_filter.mp hc).2
  unfold lexL at h
  omega
/-- who stops it -/
theorem stop_facts {rs ss : HH.Row} {who j : Nat} {st : Int} {L : List Cow} (ht : ∀ b ∈ ss, 0 ≤ b.2) (hw : who < ss.length) (same : ∀ i, i < who → barN ss i (who - i - 1) = barN rs i (who - i - 1)) (hs : sS ss who = st) (s : Steps (tag 0 (ss.take (who + 1))) L) (n : Nf L) (hj : (L.map (·.1))[j]? = some who) :
    (j = 0 ∧ (duL rs who st).length = who) ∨ (0 < j ∧ (duL rs who st).length ≠ who ∧ ixN (L.map (·.1)) (j - 1) < who ∧ ¬ barN rs (ixN (L.map (·.1)) (j - 1)) (who - ixN (L.map (·.1)) (j - 1) - 1) + 1 ≤ st) := by
  have ltk : (ss.take (who + 1)).length = who + 1 := by rw [List.length_take]; omega
  have ids := s.idsT
  rw [ltk] at ids
  have nd : (L.map (·.1)).Nodup := ids.nodup_iff.mpr List.nodup_range
  have htk : ∀ b ∈ ss.take (who + 1), 0 ≤ b.2 := fun b hb => ht b (List.mem_of_mem_take hb)
  have iff : ∀ i, i < who → (bef (L.map (·.1)) who i = true ↔ barN rs i (who - i - 1) < st) := fun i hi => by
    rw [never_iff htk s n hi (by omega), barN_take _ (by omega), same i hi]
    have : sS (ss.take (who + 1)) who = sS ss who := by
      unfold sS
      rw [List.getElem?_take_of_lt (by omega)]
    rw [this, hs]
  have hjl : j < (L.map (·.1)).length := (List.getElem?_eq_some_iff.mp hj).1
  have all : (duL rs who st).length = who ↔ ∀ i, i < who → barN rs i (who - i - 1) + 1 ≤ st := by
    unfold duL
    constructor
    · intro e i hi
      have := List.length_filter_eq_length_iff.mp (by rw [List.length_range]; exact e) i (List.mem_range.mpr hi)
      exact of_decide_eq_true this
    · intro h
      rw [List.filter_eq_self.mpr (fun i hi => decide_eq_true (h i (List.mem_range.mp hi))), List.length_range]
  by_cases c : j = 0
  · refine .inl ⟨c, all.mpr fun i hi => ?_⟩
    subst c
    obtain ⟨k, hk⟩ := List.getElem?_of_mem (ids.mem_iff.mpr (List.mem_range.mpr (show i < who + 1 by omega)))
    have hk0 : 0 < k := by
      rcases Nat.eq_zero_or_pos k with z | z
      · rw [z, hj] at hk
        have := Option.some.inj hk
        omega
      · exact z
    have := (iff i hi).mp (bef_lt hj hk hk0)
    omega
  · have hb := ixN_at (l := L.map (·.1)) (p := j - 1) (by omega)
    have hbl : ixN (L.map (·.1)) (j - 1) < who + 1 := List.mem_range.mp (ids.mem_iff.mp (List.mem_of_getElem? hb))
    have hbn : ixN (L.map (·.1)) (j - 1) ≠ who := fun e => by
      have e' := hb
      rw [e] at e'
      have := nd_at nd hj e'
      omega
    have hbw : ixN (L.map (·.1)) (j - 1) < who := by omega
    have no : ¬ barN rs (ixN (L.map (·.1)) (j - 1)) (who - ixN (L.map (·.1)) (j - 1) - 1) + 1 ≤ st := fun z => by
      have h1 := (iff _ hbw).mpr (by omega)
      rw [bef_iff nd hj hb] at h1
      have := of_decide_eq_true h1
      omega
    exact .inr ⟨by omega, fun e => no (all.mp e _ hbw), hbw, no⟩
end HH
set_option maxHeartbeats 4000000
namespace HH
open PySem PySem.Spec PyProof.Rows L2 Evl RZ
section
variable {K : PySem.W.Frag} {σ : L2.St} {H : Hp} {te ta tb : TE} {t : TT}
/-- [(.., ..) for a, b in pairs if t] -/
theorem ept_sel {i j : Nat} {vs : List Nat} {ps : HH.Row} (f : Int × Int → Bool) (m : Int × Int → Int × Int) (h : Src K (BeastAt K) te σ H ps) (hl : ps.length ≤ 2000) (hw : ∀ x y, wipe (((wipe σ vs).set i (some x)).set j (some y)) vs = wipe σ vs)
    (ht : ∀ (b : Int × Int) H1, Ex H H1 → b ∈ ps → EvT t (((wipe σ vs).set i (some (.int b.1))).set j (some (.int b.2))) H1 (f b))
    (h1 : ∀ (b : Int × Int) H1, Ex H H1 → b ∈ ps → f b = true → Ev ta (((wipe σ vs).set i (some (.int b.1))).set j (some (.int b.2))) H1 (.int (m b).1)) (h2 : ∀ (b : Int × Int) H1, Ex H H1 → b ∈ ps → f b = true → Ev tb (((wipe σ vs).set i (some (.int b.1))).set j (some (.int b.2))) H1 (.int (m b).2)) :
    EvPr PairT (tLc (iList K te) (gTup K 2 (gCons (gName i) (gCons (gName j) gNil))) t (tTup (tCons ta (tCons tb tNil))) vs) σ H ((ps.filter f).map m) := fun H0 e0 Q q => by
  refine h H0 e0 _ fun a us H1 e1 sq bs => ⟨a, rfl, ⟨us, sq H1 (Ex.refl H1)⟩, fun D hD => ?_⟩
  have ul : us.length = ps.length := bs.len
  have e01 := e0.trans e1
  refine in_it (walk_list (xs := us)) (fun k H2 => Ex H1 H2 ∧ ∃ ws, H2 D = some (.lst ws) ∧ All2 (PairT H2) ws (((ps.take k).filter f).map m)) ⟨Ex.new hD, [], upd_same, .nil⟩ (fun k H2 _ z => sq H2 z.1) (fun k x H2 H3 hk z y => ?_) (fun H2 z => ?_)
  · obtain ⟨rfl, hx⟩ := y
    obtain ⟨z1, ws, z2, z3⟩ := z
    obtain ⟨b, hb, pp, rfl, hpp⟩ := bs.get hx
    have hm := List.mem_of_getElem? hb
    have et : ((ps.take (k + 1)).filter f).map m = ((ps.take k).filter f).map m ++ (if f b = true then [m b] else []) := by
      rw [List.take_add_one, hb, List.filter_append, List.map_append]
      congr 1
      by_cases c : f b = true
      · rw [if_pos c]
        show (List.filter f [b]).map m = _
        rw [List.filter_cons_of_pos c]
        rfl
      · rw [if_neg c]
        show (List.filter f [b]).map m = _
        rw [List.filter_cons_of_neg c]
        rfl
    refine ⟨pp, _, rfl, ex_t z1 hpp, rfl, _, _, rfl, _, _, rfl, rfl, hw _ _, ?_⟩
    refine t_ev (b := f b) (ht b _ (e01.trans z1) hm) fun H4 e4 => ?_
    cases hc : f b with
    | true =>
      rw [hc, if_pos rfl] at et
      refine (h1 b _ ((e01.trans z1).trans e4) hm hc) _ (Ex.refl _) _ fun H5 e5 => ?_
      refine (h2 b H5 (((e01.trans z1).trans e4).trans e5) hm hc) H5 (Ex.refl _) _ fun H6 e6 => ⟨by show 2 ≤ sizeLine; decide, fun T hT => ?_⟩
      have nT := Ex.new (o := .tup [V.int (m b).1, .int (m b).2]) hT
      have e46 := (e4.trans e5).trans e6
      have ln : ws.length ≤ k := by
        rw [All2.len z3, List.length_map]
        have := List.length_filter_le f (ps.take k)
        rw [List.length_take] at this
        omega
      refine ⟨ws, nT _ _ (e46 _ _ z2), sz_lt (by omega), Ex.mut ((z1.trans e46).trans nT) hD, ws ++ [.ref T], upd_same, ?_⟩
      rw [et]
      exact stb_T.allL (nT _ _ (e46 _ _ z2)) (All2.app (stb_T.all (e46.trans nT) z3) (.cons ⟨T, rfl, upd_same⟩ .nil))
    | false =>
      rw [hc, if_neg (by decide), List.append_nil] at et
      refine ⟨z1.trans e4, ws, e4 _ _ z2, ?_⟩
      rw [et]
      exact stb_T.all e4 z3
  · obtain ⟨z1, ws, z2, z3⟩ := z
    rw [ul, List.take_length] at z3
    exact q D ws H2 (fresh_back e1 hD) (e1.trans z1) z2 z3
end
/-! dict([(who, at) for at, who in enumerate(order)]) -/
def rDictP (K : PySem.W.Frag) : List V → Hp → VK → Prop := fun xs H Q => ∃ (a : Addr) (ps : List Addr) (kvs : List (Key × V)), xs = [.ref a] ∧ SqL K H a (ps.map V.ref) ∧ Paired (fun p kv => SqT K H p [kV kv.1, kv.2]) ps kvs ∧ ∀ p, H p = none → Q (.ref p) (upd H p (.dK (mergeK [] kvs)))
theorem call_dictPK {X : Cx} {K : PySem.W.Frag} (hc : X.calm = true) (hK : X.K = K := by rfl) : CallR X (.type "dict") (rDictP K) := by
  subst hK
  exact call_dictP hc
theorem paired_app {α β : Type} {R : α → β → Prop} {as : List α} {bs : List β} {a : α} {b : β} (h : Paired R as bs) (r : R a b) : Paired R (as ++ [a]) (bs ++ [b]) := by
  induction h with
  | nil => exact .cons r .nil
  | cons x _ ih => exact .cons x ih
theorem paired_imp {α β : Type} {R S : α → β → Prop} (i : ∀ a b, R a b → S a b) {as : List α} {bs : List β} (h : Paired R as bs) : Paired S as bs := by
  induction h with
  | nil => exact .nil
  | cons x _ ih => exact .cons (i _ _ x) ih
theorem dict_enum {K : PySem.W.Frag} {σ : L2.St} {H : Hp} {te : TE} {o : Addr} {l : List Nat} {i j : Nat} {vs : List Nat} (ho : Ev te σ H (.ref o)) (hs : SqT K H o (natsV l)) (nd : l.Nodup) (hl : l.length ≤ 1000) (hw : ∀ x y, wipe (((wipe σ vs).set i (some x)).set j (some y)) vs = wipe σ vs) (hi : ∀ x y : V, (((wipe σ vs).set i (some x)).set j (some y))[i]? = some (some x)) (hj : ∀ x y : V, (((wipe σ vs).set i (some x)).set j (some y))[j]? = some (some y)) {Q : VK}
    (q : ∀ (d : Addr) (kvs : List (Key × V)) (H2 : Hp), H d = none → Ex H H2 → H2 d = some (.dK kvs) → PlacesD l l.length kvs → Q (.ref d) H2) :
    tCB (rDictP K) (tCons (tLc (iEnumT K (tCons te tNil)) (gTup K 2 (gCons (gName i) (gCons (gName j) gNil))) tYes (tTup (tCons (tVar j) (tCons (tVar i) tNil))) vs) tNil) σ H Q := by
  refine ho H (Ex.refl H) _ fun H1 e1 => ⟨o, _, rfl, ex_t e1 hs, fun D hD => ?_⟩
  refine in_it (walk_enumT (xs := natsV l)) (fun k H2 => Ex H1 H2 ∧ ∃ as : List Addr, H2 D = some (.lst (as.map V.ref)) ∧ as.length = k ∧ Paired (fun p kv => SqT K H2 p [kV kv.1, kv.2]) as ((List.range k).map fun x => ((.inl (ixN l x : Int), .int (x : Int)) : Key × V))) ⟨Ex.new hD, [], upd_same, rfl, .nil⟩ (fun k H2 _ z => ex_t (e1.trans z.1) hs) (fun k x H2 H3 hk z y => ?_) (fun H2 z => ?_)
  · obtain ⟨z1, as, z2, z3, z4⟩ := z
    have hk' : k < l.length := by
      rw [natsV_len] at hk
      exact hk
    obtain ⟨T0, x1, x2, ex, hT0, eH, hx1, hx2⟩ := y
    subst ex eH
    have hx1 : V.int (k : Int) = x1 := Option.some.inj hx1
    have hx2' : x2 = .int (ixN l k : Int) := by
      have hx2 : (natsV l)[k]? = some x2 := hx2
      unfold natsV at hx2
      rw [List.getElem?_map, ixN_at hk'] at hx2
      exact (Option.some.inj hx2).symm
    subst hx2' hx1
    have nT0 := Ex.new (o := .tup [V.int (k : Int), .int (ixN l k : Int)]) hT0
    refine ⟨T0, _, rfl, st_of upd_same, rfl, _, _, rfl, _, _, rfl, rfl, hw _ _, t_yes ?_⟩
    refine ⟨_, hj _ _, _, hi _ _, by show 2 ≤ sizeLine; decide, fun T hT => ?_⟩
    have nT := Ex.new (o := .tup [V.int (ixN l k : Int), .int (k : Int)]) hT
    have e2 := nT0.trans nT
    have gD := e2 _ _ z2
    refine ⟨_, gD, sz_lt (by rw [List.length_map]; omega), Ex.mut (z1.trans e2) hD, as ++ [T], by rw [upd_same, List.map_append]; rfl, by rw [List.length_append, z3]; rfl, ?_⟩
    rw [List.range_succ, List.map_append]
    have tupD : ∀ {p : Addr} {xs : List V}, SqT K H2 p xs → SqT K (upd (upd (upd H2 T0 (.tup [V.int (k : Int), .int (ixN l k : Int)])) T (.tup [V.int (ixN l k : Int), .int (k : Int)])) D (.lst (as.map V.ref ++ [V.ref T]))) p xs := fun h => (ExB.refl D _).upd.t gD (ex_t e2 h)
    refine paired_app (paired_imp (fun p kv h => tupD h) z4) ?_
    refine (ExB.refl D _).upd.t gD (st_of upd_same)
  · obtain ⟨z1, as, z2, z3, z4⟩ := z
    rw [natsV_len] at z3 z4
    refine ⟨D, as, _, rfl, sq_of z2, z4, fun d hd => ?_⟩
    have nd' := Ex.new (o := .dK (mergeK [] ((List.range l.length).map fun x => ((.inl (ixN l x : Int), .int (x : Int)) : Key × V)))) hd
    exact q d _ _ (fresh_back (e1.trans z1) hd) ((e1.trans z1).trans nd') upd_same (merge_places nd l.length (Nat.le_refl _))
end HH
namespace HH
open PySem PySem.Spec PyProof.Rows L2 Evl RZ
section
variable {K : PySem.W.Frag} {σ : L2.St} {H : Hp} {te : TE}
theorem eu_tupL {xs : List V} (h : EvL te σ H xs) : EvU (tThen te (kTup K)) σ H xs := fun H1 e Q q => h H1 e _ fun l H2 hl e2 g2 => .inl ⟨l, xs, rfl, sq_of g2, fun p hp => q p _ (fresh_back e2 hp) (e2.trans (Ex.new hp)) upd_same⟩
theorem eu_tupV {l : Addr} {xs : List V} (h : Ev te σ H (.ref l)) (hl : SqL K H l xs) : EvU (tThen te (kTup K)) σ H xs := fun H1 e Q q => h H1 e _ fun H2 e2 => .inl ⟨l, xs, rfl, ex_l (e.trans e2) hl, fun p hp => q p _ (fresh_back e2 hp) (e2.trans (Ex.new hp)) upd_same⟩
theorem el_revL {xs : List V} (h : EvL te σ H xs) : EvL (tRevL K te) σ H xs.reverse := fun H1 e Q q => h H1 e _ fun l H2 hl e2 g2 => ⟨l, xs, rfl, sq_of g2, fun p hp => q p _ (fresh_back e2 hp) (e2.trans (Ex.new hp)) upd_same⟩
end
theorem cut_midN {A B : List Nat} {a b : Nat} : cutV (natsV (A ++ a :: b :: B)) (some (A.length : Int)) (some ((A.length : Int) + 2)) = natsV [a, b] := by
  unfold cutV
  rw [show (A.length : Int) + 2 = ((A.length + 2 : Nat) : Int) by omega, HT.sIx_nat, HT.sIx_nat]
  have ln : (natsV (A ++ a :: b :: B)).length = A.length + (B.length + 2) := by rw [natsV_len, List.length_append]; rfl
  rw [Nat.min_eq_left (by omega), Nat.min_eq_left (by omega), show A.length + 2 - A.length = 2 by omega]
  unfold natsV
  rw [List.map_append, List.drop_append_of_le_length (by rw [List.length_map]; omega), List.drop_of_length_le (by rw [List.length_map]; omega)]
  rfl
theorem split_at {l : List Nat} {k : Nat} (h : k + 1 < l.length) : ∃ A a b B, l = A ++ a :: b :: B ∧ A.length = k := by
  refine ⟨l.take k, l[k], l[k + 1], l.drop (k + 2), ?_, by rw [List.length_take]; omega⟩
  rw [← List.drop_eq_getElem_cons h, ← List.drop_eq_getElem_cons (by omega), List.take_append_drop]
/-- two numbers as they rise -/
theorem sort2N {a b : Nat} : ([(a : Int), (b : Int)]).Perm [((if a ≤ b then a else b : Nat) : Int), ((if a ≤ b then b else a : Nat) : Int)] ∧ List.Pairwise (· ≤ ·) [((if a ≤ b then a else b : Nat) : Int), ((if a ≤ b then b else a : Nat) : Int)] := by
  by_cases h : a ≤ b
  · rw [if_pos h, if_pos h]
    exact ⟨.refl _, List.Pairwise.cons (fun x hx => by cases List.mem_singleton.mp hx; omega) (List.Pairwise.cons (fun x hx => by cases hx) .nil)⟩
  · rw [if_neg h, if_neg h]
    exact ⟨List.Perm.swap .., List.Pairwise.cons (fun x hx => by cases List.mem_singleton.mp hx; omega) (List.Pairwise.cons (fun x hx => by cases hx) .nil)⟩
theorem s_sl2 {te to ta tc : TE} {D : Ends} {σ : L2.St} {H : Hp} {l : Addr} {xs ys : List V} {i j : Nat} {a c : Int} (h : EvL te σ H ys) (ho : Ev to σ H (.ref l)) (ha : Ev ta σ H (.int a)) (hc : Ev tc σ H (.int c)) (ea : a = (i : Int)) (ec : c = (j : Int)) (hl : H l = some (.lst xs)) (hij : i ≤ j) (hj : j ≤ xs.length) (hz : xs.length + ys.length ≤ 100000)
    (k : ∀ H1, Ex H H1 → D.nx σ (upd H1 l (.lst (xs.take i ++ ys ++ xs.drop j)))) : tAsg te (gSl to ta tc) D σ H := q_sl (tz := tNext) h ho ha hc ea ec hl hij hj hz k
theorem natsV_app (A B : List Nat) : natsV (A ++ B) = natsV A ++ natsV B := List.map_append ..
theorem take_pair {A B : List Nat} {a b : Nat} {ys : List V} : (natsV (A ++ a :: b :: B)).take A.length ++ ys ++ (natsV (A ++ a :: b :: B)).drop (A.length + 2) = natsV A ++ ys ++ natsV B := by
  have e1 : (natsV A ++ natsV (a :: b :: B)).take A.length = natsV A := by
    rw [← natsV_len A]
    exact List.take_left' rfl
  have e2 : (natsV A ++ natsV (a :: b :: B)).drop (A.length + 2) = natsV B := by
    rw [← natsV_len A, ← List.drop_drop, List.drop_left' rfl]
    rfl
  rw [natsV_app, e1, e2]
end HH
namespace HH
open PySem PySem.Spec PyProof.Rows L2 Evl RZ
/-- [beast[0] for beast in row] -/
theorem el_heights {K : PySem.W.Frag} {σ : L2.St} {H : Hp} {te : TE} {v : V} {rs : HH.Row} {j : Nat} {vs : List Nat} (h : Ev te σ H v) (hv : RowAt K H v rs) (hl : rs.length ≤ 1000) (hw : ∀ x, wipe ((wipe σ vs).set j (some x)) vs = wipe σ vs) (hj : ∀ x : V, ((wipe σ vs).set j (some x))[j]? = some (some x)) : EvL (tLc (iTup K te) (gName j) tYes (tOp (rIxT K) (tVar j) (tC (.int 0))) vs) σ H (vec rs.length (sS rs)) := fun H0 e0 Q q => by
  obtain ⟨a, us, rfl, hs, hb⟩ := hv
  refine h H0 e0 _ fun H1 e1 => ⟨a, rfl, ⟨us, ex_t (e0.trans e1) hs⟩, fun D hD => ?_⟩
  have hb1 := hb.ex (e0.trans e1)
  refine in_it (walk_tup (xs := us)) (fun k H2 => Ex H1 H2 ∧ H2 D = some (.lst (vec k (sS rs)))) ⟨Ex.new hD, upd_same⟩ (fun k H2 _ z => ex_t ((e0.trans e1).trans z.1) hs) (fun k x H2 H3 hk z y => ?_) (fun H2 z => ?_)
  · obtain ⟨rfl, hx⟩ := y
    have hk' : k < rs.length := by rw [← hb.1]; exact hk
    obtain ⟨u, hu, pp, rfl, hpp⟩ := hb1.2 k _ (row_get hk')
    rw [hx] at hu
    cases hu
    refine ⟨hw _, t_yes ?_⟩
    refine ⟨_, hj _, pp, _, 0, .int (sS rs k), rfl, rfl, ex_t z.1 hpp, rfl, ?_⟩
    refine ⟨_, z.2, sz_lt (by rw [vec_len]; omega), Ex.mut z.1 hD, ?_⟩
    rw [upd_same]
    unfold vec
    rw [List.range_succ, List.map_append]
    rfl
  · rw [hb.1] at z
    exact q D H2 (fresh_back e1 hD) (e1.trans z.1) z.2
end HH
namespace HH
open PySem PySem.Spec PyProof.Rows L2 Evl RZ
/-- (a, b) in pairs, the pair just made -/
theorem et_inNew {K : PySem.W.Frag} {σ : L2.St} {H : Hp} {ta tb tc : TE} {a b : Int} {q : Addr} {ws : List V} {qs : HH.Row} (h1 : Ev ta σ H (.int a)) (h2 : Ev tb σ H (.int b)) (h3 : Ev tc σ H (.ref q)) (hq : SqL K H q ws) (bs : All2 (BeastAt K H) ws qs) : EvT (tTest (tOp (rInD K) (tTup (tCons ta (tCons tb tNil))) tc)) σ H (decide (((a, b) : Int × Int) ∈ qs)) := fun H1 e1 Q k =>
  h1 H1 e1 _ fun H2 e2 => h2 H2 (e1.trans e2) _ fun H3 e3 => ⟨by show 2 ≤ sizeLine; decide, fun T hT => by
    have n4 := Ex.new (o := .tup [V.int a, .int b]) hT
    have e := ((e1.trans e2).trans e3).trans n4
    have key := et_inL (K := K) (σ := [some (.ref T), some (.ref q)]) (ta := tVar 0) (tb := tVar 1) (b := (a, b)) (ev_var rfl) ⟨T, rfl, st_of upd_same⟩ (ev_var rfl) (ex_l e hq) ((stb_B K).all e bs)
    refine h3 _ e _ fun H5 e5 => ?_
    obtain ⟨_, hx, _, hy, r⟩ := key H5 e5 Q fun H6 e6 => k H6 (((e2.trans e3).trans n4).trans (e5.trans e6))
    cases hx
    cases hy
    exact r⟩
end HH
set_option maxHeartbeats 4000000
namespace HH
open PySem PySem.Spec PyProof.Rows L2 Evl
theorem keeps_self {rs : HH.Row} (tl : ∀ x ∈ rs, 0 ≤ x.2) : Keeps rs (List.range rs.length) := by
  have := run_keeps tl (MRun.nil (L0 := tag 0 rs))
  rw [tag_ids] at this
  exact this
theorem keeps_swap {rs : HH.Row} {E B : List Cow} (tl : ∀ x ∈ rs, 0 ≤ x.2) (sE : Steps (tag 0 rs) E) (nE : Nf E) (sB : FSteps (tag 0 rs) B) (nB : Ff B) {A C : List Nat} {a b : Nat} (k : Keeps rs (A ++ a :: b :: C)) (h : ¬ (((if a ≤ b then a else b : Nat) : Int), ((if a ≤ b then b else a : Nat) : Int)) ∈ tabP (keepP (E.map (·.1)) (B.map (·.1))) rs.length rs.length) : Keeps rs (A ++ b :: a :: C) := by
  have p : (A ++ b :: a :: C).Perm (A ++ a :: b :: C) := List.Perm.append_left A (List.Perm.swap a b C)
  refine ⟨p.trans k.ids, fun E' B' sE' nE' sB' nB' i j h1 h2 h3 h4 => ?_⟩
  have o := k.kp E' B' sE' nE' sB' nB' i j h1 h2 h3 h4
  have t0 : ∀ x ∈ tag 0 rs, 0 ≤ x.2.2 := (good_tag tl).tl
  rw [nf_any t0 sE' nE' sE nE] at h3
  rw [ff_any t0 sB' nB' sB nB] at h4
  have ne : a ≠ b := fun z => by
    have n := k.nd
    rw [z] at n
    have q := bef_adj n
    rw [bef_asym n q] at q
    cases q
  cases c : bef (A ++ b :: a :: C) j i with
  | false => rfl
  | true =>
    exfalso
    rcases Nat.lt_or_gt_of_ne ne with l | l
    · rcases (bef_swap l h1 A).mp c with z | ⟨rfl, rfl⟩
      · rw [o] at z
        cases z
      · rw [if_pos (Nat.le_of_lt l), if_pos (Nat.le_of_lt l)] at h
        exact h (mem_tabP.mpr ⟨i, j, h1, h2, rfl, (keep_iff h1).mpr ⟨h3, h4⟩⟩)
    · have := (bef_swap (B := C) l h1 A).mpr (.inl c)
      rw [o] at this
      cases this
/-- an order that keeps them, as one that is come to -/
theorem went_of {K : PySem.W.Frag} {H : Hp} {v : V} {o : Addr} {rs : HH.Row} {l : List Nat} (hv : RowAt K H v rs) (hl : rs.length ≤ 30) (tl : ∀ x ∈ rs, 0 ≤ x.2) (ho : SqT K H o (natsV l)) (k : Keeps rs l) : ∃ L, Went K H v o rs L ∧ L.map (·.1) = l := by
  obtain ⟨L, ds, r, rfl⟩ := reach tl k
  exact ⟨L, ⟨hv, hl, tl, ho, ds, r⟩, rfl⟩
theorem ev_mulN {σ : L2.St} {H : Hp} {ta tb : TE} {c n : Nat} (ha : Ev ta σ H (.int (c : Int))) (hb : Ev tb σ H (.int (n : Int))) (h1 : c ≤ 1000) (h2 : n ≤ 1000) : Ev (tOp (rI CMul fun i j => .int (i * j)) ta tb) σ H (.int ((c * n : Nat) : Int)) := by
  have : ((c * n : Nat) : Int) = (c : Int) * (n : Int) := by rw [Int.natCast_mul]
  rw [this]
  exact ev_op ha hb (rv_I (.inl ⟨by omega, by omega⟩))
end HH
set_option maxHeartbeats 4000000
/-! sorted of a list of deeds: by their word, then by their place -/
namespace HH
open PySem PySem.Spec PyProof.Rows Srt SrtO
def IsDeed (h : Heap) (v : Value) (b : Bool) (y : Int) : Prop := ∃ a o t u n, v = .ref a ∧ h.get? a = some o ∧ o.cls = .type "tuple" ∧ o.data = .seq #[.str (wordOf b) t, .int y u] n
theorem IsDeed.keeps {h h' : Heap} {v : Value} {b : Bool} {y : Int} (p : IsDeed h v b y) (k : ∀ b o, h.get? b = some o → o.cls = .type "tuple" → h'.get? b = some o) : IsDeed h' v b y := by
  obtain ⟨a, o, t, u, n, e, ho, hc, hd⟩ := p
  exact ⟨a, o, t, u, n, e, k _ _ ho hc, hc, hd⟩
theorem deed_firsts {h : Heap} : ∀ {vs : List Value}, (∀ v ∈ vs, ∃ x y, IsDeed h v x y) → ∃ fs : List Value, PySem.W.KatTups h vs fs ∧ fs.length = vs.length ∧ ∀ f ∈ fs, ∃ x t, f = Value.str x t
  | [], _ => ⟨[], PySem.W.KatTups.nil, rfl, fun _ hm => by simp at hm⟩
  | v :: vs, hp => by
    obtain ⟨fs, h1, h2, h3⟩ := deed_firsts (vs := vs) fun v' hm => hp v' (List.mem_cons_of_mem _ hm)
    obtain ⟨x, y, a, o, t, u, n, e, ho, hc, hd⟩ := hp v (List.mem_cons_self ..)
    subst e
    refine ⟨.str (wordOf x) t :: fs, PySem.W.KatTups.cons ho hc hd rfl h1, by rw [List.length_cons, List.length_cons, h2], fun f hm => ?_⟩
    rcases List.mem_cons.mp hm with rfl | hm
    · exact ⟨_, t, rfl⟩
    · exact h3 f hm
def deedK (d : Bool × Int) : Int × Int := (if d.1 then 1 else 0, d.2)
theorem word_lt (b c : Bool) : decide ((wordOf b).cps.toList < (wordOf c).cps.toList) = decide ((if b then (1 : Int) else 0) < (if c then 1 else 0)) := by
  cases b <;> cases c <;> decide +kernel
theorem word_eq (b c : Bool) : ((wordOf b == wordOf c) = true) ↔ b = c := by
  cases b <;> cases c <;> decide +kernel
section
variable {prog : Program} {w : World} {A : Around} {E : Value → Shared → Prop} {s : Shared}
theorem deed_cmp {vs : List Value} {k : Value → Bool × Int} (hp : ∀ v ∈ vs, IsDeed s.heap v (k v).1 (k v).2) : Cmp prog w A s (tuples' true) (fun p => p.1 ∈ vs) (lt2 fun v u => lexB (deedK (k v)) (deedK (k u))) := by
  intro p q hm hm'
  have h1 := hp _ hm
  have h2 := hp _ hm'
  show wpAny (model prog w) A (keyLt' (tuples' true) p.1 q.1) (fun r s' => s' = s ∧ r = lexB (deedK (k p.1)) (deedK (k q.1))) (fun _ _ => False) s
  unfold lexB deedK
  dsimp only
  generalize (k p.1).1 = x at h1 ⊢
  generalize (k p.1).2 = y at h1 ⊢
  generalize (k q.1).1 = x' at h2 ⊢
  generalize (k q.1).2 = y' at h2 ⊢
  obtain ⟨a, o, t, u, n, e, ho, hc, hd⟩ := h1
  obtain ⟨a', o', t', u', n', e', ho', hc', hd'⟩ := h2
  rw [e, e']
  refine PySem.W.kat_lt ho hd ho' hd' ?_
  show PySem.W.KatLex prog w A true (decide (2 < 2)) _ [(.str (wordOf x) t, .str (wordOf x') t'), (.int y u, .int y' u')] 0 s
  refine PySem.W.kat_cons (SeqAt.EqAt.str_str (wordOf x) t (wordOf x') t' prog w _ _ ?_)
  refine PySem.W.kat_go (fun e1 => ?_) (fun e1 => ?_)
  · have ex : x = x' := (word_eq x x').mp (by simpa using e1)
    subst ex
    refine PySem.W.kat_yes (PySem.W.kat_cons (SeqAt.EqAt.int_int y u y' u' prog w _ _ ?_))
    refine PySem.W.kat_go (fun e2 => ?_) (fun e2 => ?_)
    · have ey : y = y' := by simpa using e2
      refine PySem.W.kat_yes (PySem.W.kat_nil ⟨rfl, ?_⟩)
      rw [if_pos rfl, ey]
      exact (decide_eq_false (Int.lt_irrefl _)).symm
    · refine PySem.W.kat_no (PySem.W.kat_one _ _ (PyProof.Rows.lt_int ?_))
      exact (show s = s ∧ decide (y < y') = _ from ⟨rfl, (if_pos rfl).symm⟩)
  · have ex : ¬ x = x' := fun z => by
      have := (word_eq x x').mpr z
      rw [this] at e1
      cases e1
    have ex2 : ¬ (if x then (1 : Int) else 0) = (if x' then 1 else 0) := fun z => ex (by cases x <;> cases x' <;> first | rfl | cases z)
    refine PySem.W.kat_no (oneLt_any_str ⟨rfl, ?_⟩)
    rw [if_neg ex2]
    exact word_lt x x'
theorem deeds_sortableO {a : Addr} {vs : List Value} {k : Value → Bool × Int} (h0 : 0 < vs.length) (hp : ∀ v ∈ vs, IsDeed s.heap v (k v).1 (k v).2) (ha : ∀ o, s.heap.get? a = some o → o.cls ≠ .type "tuple") : SortableO prog w A s a vs fun v u => lexB (deedK (k v)) (deedK (k u)) := by
  intro h' keep
  have hp' : ∀ v ∈ vs, IsDeed h' v (k v).1 (k v).2 := fun v hm => (hp v hm).keeps fun b o e c => keep b o (fun z => by subst z; exact ha o e c) e
  obtain ⟨fs, h1, h2, h3⟩ := deed_firsts fun v hm => ⟨_, _, hp' v hm⟩
  refine ⟨tuples' true, fun Q E hq => ?_, deed_cmp hp'⟩
  refine PySem.W.kat_kind (T := .type "str") h1 (by omega) (fun f hm => ?_) (by rfl) ?_
  · obtain ⟨x, t, rfl⟩ := h3 f hm
    exact PySem.W.Looks.now
  · have e : (Value.type "str" != Value.type "tuple") = true := by first | decide +kernel | rfl | decide
    rw [e]
    exact hq
theorem sorted_deedsO {l : Addr} {vs : List Value} {k : Value → Bool × Int} {Q : Value → Shared → Prop} (hl : s.heap.IsList l vs.toArray) (hz : vs.length ≤ sizeLine) (hp : ∀ v ∈ vs, IsDeed s.heap v (k v).1 (k v).2)
    (h : ∀ (h' : Heap) (d : Addr) (out : List Value), Srtd (fun v u => lexB (deedK (k v)) (deedK (k u))) out → out.Perm vs → (∀ b o, s.heap.get? b = some o → h'.get? b = some o) → s.heap.objs.size ≤ d → (∃ n, h'.get? d = some (seqObj "list" out.toArray n)) → Q (.ref d) { s with heap := h' }) :
    wpAny (model prog w) A (call (.builtin "sorted") [.ref l]) Q E s := by
  refine sorted_ord (swo_lex fun v => deedK (k v)) hl hz (fun h2 h₁ a ha kk => ?_) fun out hs hb => ?_
  · refine deeds_sortableO (s := { s with heap := h₁ }) (by omega) (fun v hm => (hp v hm).keeps fun b o e _ => (kk b o e).2) fun o e => ?_
    have e' : some o = some (seqObj "list" vs.toArray 0) := e.symm.trans ha
    cases e'
    intro c
    exact absurd (Value.type.inj c) (by decide)
  · exact h _ _ out hs hb.perm (fun b o e => sortedAll_old e) (Nat.le_succ _) (sortedAll_at s.heap vs out.toArray)
end
/-! as a rule -/
open L2 Evl
def deedL (d e : Deed) : Prop := (d.1 = false ∧ e.1 = true) ∨ (d.1 = e.1 ∧ d.2 < e.2)
def rSortedDd (K : PySem.W.Frag) : List V → Hp → VK → Prop := fun vs H Q => ∃ (a : Addr) (xs : List V) (ds : List Deed), vs = [V.ref a] ∧ SqL K H a xs ∧ All2 (DeedAt K H) xs ds ∧
  ∀ (ys : List V) (es : List Deed) (p : Addr), All2 (DeedAt K H) ys es → es.Perm ds → es.Pairwise (fun b c => ¬ deedL c b) → H p = none → Q (.ref p) (upd H p (.lst ys))
open Classical in
noncomputable def deedVal (h : Heap) (v : Value) : Bool × Int := if e : ∃ d : Deed, IsDeed h v d.1 (d.2 : Int) then (e.choose.1, (e.choose.2 : Int)) else (false, 0)
theorem isDeed_inj {h : Heap} {v : Value} {b c : Bool} {x y : Int} (p : IsDeed h v b x) (q : IsDeed h v c y) : b = c ∧ x = y := by
  obtain ⟨a, o, t, u, n, e, ho, hc, hd⟩ := p
  obtain ⟨a', o', t', u', n', e', ho', hc', hd'⟩ := q
  rw [e] at e'
  cases e'
  rw [ho] at ho'
  cases ho'
  rw [hd] at hd'
  have z := (Data.seq.inj hd').1
  have z1 := congrArg (fun (l : Array Value) => l[0]?) z
  have z2 := congrArg (fun (l : Array Value) => l[1]?) z
  have y1 : Value.str (wordOf b) t = Value.str (wordOf c) t' := Option.some.inj z1
  have y2 : Value.int x u = Value.int y u' := Option.some.inj z2
  cases y2
  refine ⟨(word_eq b c).mp ?_, rfl⟩
  have := (Value.str.inj y1).1
  rw [this]
  cases c <;> decide +kernel
theorem deedVal_is {h : Heap} {v : Value} {d : Deed} (p : IsDeed h v d.1 (d.2 : Int)) : deedVal h v = (d.1, (d.2 : Int)) := by
  unfold deedVal
  have e : ∃ d : Deed, IsDeed h v d.1 (d.2 : Int) := ⟨d, p⟩
  rw [dif_pos e]
  obtain ⟨h1, h2⟩ := isDeed_inj e.choose_spec p
  rw [h1, h2]
section
variable {X : Cx}
theorem deed_at {pins : List (Addr × Obj)} {σ : L2.St} {H : Hp} {s : Shared} {x : V} {u : Value} {d : Deed} (I : Inv X pins σ H s) (r : RelV x u) (h : DeedAt X.K H x d) : IsDeed s.heap u d.1 (d.2 : Int) ∧ ∃ p, u = .ref p ∧ x = .ref p := by
  obtain ⟨p, rfl, hp⟩ := h
  obtain rfl : u = Value.ref p := r
  obtain ⟨its, rv, ⟨o, ho, hc, n, hd⟩, hz⟩ := I.tuple hp
  obtain ⟨u1, u2, rfl, ri, rj⟩ := vals2 rv
  obtain ⟨t1, rfl⟩ := ri
  obtain ⟨t2, rfl⟩ := rj
  exact ⟨⟨p, o, t1, t2, n, rfl, ho, hc, hd⟩, p, rfl, rfl⟩
theorem cr_sortedDd {K : PySem.W.Frag} (hK : X.K = K := by rfl) : CallR X (.builtin "sorted") (rSortedDd K) := by
  subst hK
  intro pins s σ H vs us Q I r h
  obtain ⟨a, xs, ds, rfl, hs, hb, q⟩ := h
  obtain ⟨its, rv, hl, hz⟩ := I.list hs
  obtain ⟨u, rfl, ru⟩ := vals1 r
  obtain rfl : u = Value.ref a := ru
  have pr : ∀ (xs : List V) (its : List Value) (ds : List Deed), Vals xs its → All2 (DeedAt X.K H) xs ds → (∀ u ∈ its, ∃ d : Deed, IsDeed s.heap u d.1 (d.2 : Int) ∧ ∃ p, u = Value.ref p ∧ DeedAt X.K H (.ref p) d) ∧ its.map (deedVal s.heap) = ds.map fun d => (d.1, (d.2 : Int)) := by
    intro xs its ds rv hb
    induction hb generalizing its with
    | nil =>
      cases rv
      exact ⟨fun u hu => absurd hu (List.not_mem_nil), rfl⟩
    | cons h1 h2 ih =>
      cases rv with
      | cons r1 r2 =>
        obtain ⟨i1, i2⟩ := ih _ r2
        obtain ⟨e1, p, e2, e3⟩ := deed_at I r1 h1
        refine ⟨fun u hu => ?_, ?_⟩
        · rcases List.mem_cons.mp hu with hu | hu
          · rw [hu]
            exact ⟨_, e1, p, e2, e3 ▸ h1⟩
          · exact i1 u hu
        · rw [List.map_cons, List.map_cons, i2, deedVal_is e1]
  obtain ⟨each, emap⟩ := pr xs its ds rv hb
  refine sorted_deedsO (k := deedVal s.heap) hl.isList (by rw [← rv.length]; exact hz) (fun v hv => ?_) fun h' d out h1 h2 kp hd hn => ?_
  · obtain ⟨e, he, _⟩ := each v hv
    rw [deedVal_is he]
    exact he
  have hmem : ∀ u ∈ out, u ∈ its := fun u hu => h2.mem_iff.mp hu
  obtain ⟨n, hn⟩ := hn
  have h3 : ∀ u ∈ out, ∃ a, u = Value.ref a := fun u hu => by
    obtain ⟨_, _, p, e, _⟩ := each u (hmem u hu)
    exact ⟨p, e⟩
  have hol : out.length = its.length := h2.length_eq
  have pr2 : ∀ out : List Value, (∀ u ∈ out, u ∈ its) → ∃ es : List Deed, All2 (DeedAt X.K H) (out.map backV) es ∧ out.map (deedVal s.heap) = es.map fun d => (d.1, (d.2 : Int)) := by
    intro out
    induction out with
    | nil => exact fun _ => ⟨[], .nil, rfl⟩
    | cons u out ih =>
      intro hm
      obtain ⟨es, g1, g2⟩ := ih fun x hx => hm x (List.mem_cons_of_mem _ hx)
      obtain ⟨e, he, p, rfl, hB⟩ := each u (hm u (List.mem_cons_self ..))
      exact ⟨e :: es, .cons hB g1, by rw [List.map_cons, List.map_cons, g2, deedVal_is he]⟩
  obtain ⟨es, g1, g2⟩ := pr2 out hmem
  refine ⟨.ref d, upd H d (.lst (out.map backV)), I.laid (t' := s.toks) kp hd ⟨?_, out, n, vals_back h3, hn⟩, rfl, q _ es d g1 ?_ ?_ (I.hok.fresh hd)⟩
  · rw [List.length_map, hol, ← rv.length]
    exact hz
  · have p := h2.map (deedVal s.heap)
    rw [emap, g2] at p
    have := p.map fun (d : Bool × Int) => ((d.1, d.2.toNat) : Deed)
    rw [List.map_map, List.map_map] at this
    have e : ((fun (d : Bool × Int) => ((d.1, d.2.toNat) : Deed)) ∘ fun (d : Deed) => (d.1, (d.2 : Int))) = id := funext fun d => rfl
    rw [e, List.map_id, List.map_id] at this
    exact this
  · have h1' : (out.map (deedVal s.heap)).Pairwise (fun v u => lexB (deedK u) (deedK v) = false) := List.pairwise_map.mpr h1
    rw [g2] at h1'
    refine List.Pairwise.imp (fun {u v} hh => ?_) (List.pairwise_map.mp h1')
    have := lexB_no.mp hh
    intro z
    refine this ?_
    unfold deedK
    dsimp only
    rcases z with ⟨z1, z2⟩ | ⟨z1, z2⟩
    · rw [z1, z2]
      exact .inl (by decide)
    · rw [z1]
      exact .inr ⟨rfl, by omega⟩
end
theorem sortDd_one {ps qs : List Deed} (h : qs.Perm ps) (h1 : qs.Pairwise (fun b c => ¬ deedL c b)) (h2 : ps.Pairwise (fun b c => ¬ deedL c b)) : qs = ps := by
  refine h.eq_of_pairwise (fun b c _ _ g1 g2 => ?_) h1 h2
  unfold deedL at g1 g2
  obtain ⟨b1, b2⟩ := b
  obtain ⟨c1, c2⟩ := c
  dsimp only at g1 g2
  have e1 : b1 = c1 := by cases b1 <;> cases c1 <;> simp_all
  subst e1
  have e2 : b2 = c2 := by
    by_cases l : b2 < c2
    · exact absurd (.inr ⟨rfl, l⟩) g2
    · by_cases l2 : c2 < b2
      · exact absurd (.inr ⟨rfl, l2⟩) g1
      · omega
  rw [e2]
end HH
set_option maxHeartbeats 4000000
namespace HH
open PySem PySem.Spec PyProof.Rows L2 Evl
/-! an order seen from another one -/
def Again (l1 l2 s : List Nat) : Prop := l2 = s.map (ixN l1) ∧ ∀ x ∈ s, x < l1.length
theorem keeps_again {rs : HH.Row} {L1 L2 : List Cow} {d1 d2 : List Deed} {s : List Nat} (tl : ∀ x ∈ rs, 0 ≤ x.2) (r1 : MRun (tag 0 rs) L1 d1) (r2 : MRun (tag 0 rs) L2 d2) (a : Again (L1.map (·.1)) (L2.map (·.1)) s) : Keeps (rowsOf L1) s := by
  have t0 : ∀ x ∈ tag 0 rs, 0 ≤ x.2.2 := (good_tag tl).tl
  obtain ⟨E, sE, nE⟩ := nf_is t0
  obtain ⟨B, sB, nB⟩ := ff_is t0
  obtain ⟨t1, s1E, s1B⟩ := r1.both t0 sE nE sB nB
  obtain ⟨t2, s2E, s2B⟩ := r2.both t0 sE nE sB nB
  have id1 := run_ids tl r1
  have id2 := run_ids tl r2
  have nd1 : (L1.map (·.1)).Nodup := id1.nodup_iff.mpr List.nodup_range
  have nd2 : (L2.map (·.1)).Nodup := id2.nodup_iff.mpr List.nodup_range
  have len1 : (L1.map (·.1)).length = rs.length := by rw [id1.length_eq, List.length_range]
  have lenR : (rowsOf L1).length = rs.length := by rw [cow_len, ← len1, List.length_map]
  have nds : s.Nodup := by
    have := nd2
    rw [a.1] at this
    exact List.Pairwise.of_map _ (fun x y h e => h (by rw [e])) this
  have ids : s.Perm (List.range (rowsOf L1).length) := by
    refine (List.perm_ext_iff_of_nodup nds List.nodup_range).mpr fun x => ?_
    rw [List.mem_range, lenR]
    constructor
    · intro h
      have := a.2 x h
      omega
    · intro h
      have g := ixN_at (l := L1.map (·.1)) (p := x) (by omega)
      have m1 : ixN (L1.map (·.1)) x ∈ L2.map (·.1) := id2.mem_iff.mpr (id1.mem_iff.mp (List.mem_of_getElem? g))
      rw [a.1] at m1
      obtain ⟨y, hy, e⟩ := List.mem_map.mp m1
      have := ixN_inj nd1 (a.2 y hy) (by omega) e
      rw [← this]
      exact hy
  refine ⟨ids, fun E' B' sE' nE' sB' nB' i j h1 h2 h3 h4 => ?_⟩
  obtain ⟨Y, sY, eY⟩ := s1E.unmap (rl_tag L1).symm
  obtain ⟨Z, sZ, eZ⟩ := s1B.unmap (rl_tag L1).symm
  have tR : ∀ x ∈ tag 0 (rowsOf L1), 0 ≤ x.2.2 := (good_tag (tolls_rows t1)).tl
  have nY : Nf Y := by
    rw [eY] at nE
    exact nf_un nE
  have nZ : Ff Z := by
    rw [eZ] at nB
    exact ff_un nB
  rw [nf_any tR sE' nE' sY nY] at h3
  rw [ff_any tR sB' nB' sZ nZ] at h4
  have idY := sY.ids
  have idZ := sZ.ids
  rw [tag_ids] at idY idZ
  have inj : ∀ (l : List Nat), (∀ x ∈ l, x < rs.length) → ∀ k, k < rs.length → ∀ x ∈ l, ixN (L1.map (·.1)) x = ixN (L1.map (·.1)) k → x = k := fun l hl k hk x hx e => ixN_inj nd1 (by have := hl x hx; omega) (by omega) e
  have inY : ∀ x ∈ Y.map (·.1), x < rs.length := fun x hx => by
    have := List.mem_range.mp (idY.mem_iff.mp hx)
    omega
  have inZ : ∀ x ∈ Z.map (·.1), x < rs.length := fun x hx => by
    have := List.mem_range.mp (idZ.mem_iff.mp hx)
    omega
  have inS : ∀ x ∈ s, x < rs.length := fun x hx => by
    have := a.2 x hx
    omega
  have hj : j < rs.length := by omega
  have hi : i < rs.length := by omega
  have bE : bef (E.map (·.1)) (ixN (L1.map (·.1)) i) (ixN (L1.map (·.1)) j) = true := by
    rw [eY, rl_ids, bef_map (inj _ inY i hi) (inj _ inY j hj)]
    exact bef_tot (idY.mem_iff.mpr (List.mem_range.mpr h2)) (idY.mem_iff.mpr (List.mem_range.mpr (by omega))) (by omega) h3
  have bB : bef (B.map (·.1)) (ixN (L1.map (·.1)) i) (ixN (L1.map (·.1)) j) = true := by
    rw [eZ, rl_ids, bef_map (inj _ inZ i hi) (inj _ inZ j hj)]
    exact bef_tot (idZ.mem_iff.mpr (List.mem_range.mpr h2)) (idZ.mem_iff.mpr (List.mem_range.mpr (by omega))) (by omega) h4
  have ndB : (B.map (·.1)).Nodup := by
    have := sB.ids
    rw [tag_ids] at this
    exact this.nodup_iff.mpr List.nodup_range
  have mid := mid_keeps (sB.tl t0) ndB s2B.back s2E bB bE
  rw [a.1, bef_map (inj _ inS i hi) (inj _ inS j hj)] at mid
  exact bef_asym nds mid
/-! the deeds that come nearer -/
def adjL (l : List Nat) (n : Nat) : List Nat := (List.range n).filter fun p => bef l (p + 1) p
def fallB (rs : HH.Row) (p : Nat) : Bool := decide (p + 1 < rs.length) && fallsN rs p
def nearD (rs : HH.Row) (l : List Nat) : List Deed := ((adjL l (rs.length - 1)).filter (fallB rs)).map (fun p => (false, p)) ++ ((adjL l (rs.length - 1)).filter fun p => letsN rs (p + 1)).map (fun p => (true, p + 1))
def dueD (rs : HH.Row) (l : List Nat) (n : Nat) : List Deed := (adjL l n).map fun p => if letsN rs (p + 1) then (true, p + 1) else (false, p)
theorem one_move {rs : HH.Row} {M : List Cow} {ds : List Deed} {p : Nat} (tl : ∀ x ∈ rs, 0 ≤ x.2) (r : MRun (tag 0 rs) M ds) (hp : p + 1 < rs.length) (h : bef (M.map (·.1)) (p + 1) p = true) : fallB rs p = !letsN rs (p + 1) := by
  have g1 : (tag 0 rs)[p]? = some (p, (sS rs p, tS rs p)) := by
    rw [tag_at, row_get (by omega)]
    show some (0 + p, _) = _
    rw [Nat.zero_add]
  have g2 : (tag 0 rs)[p + 1]? = some (p + 1, (sS rs (p + 1), tS rs (p + 1))) := by
    rw [tag_at, row_get hp]
    show some (0 + (p + 1), _) = _
    rw [Nat.zero_add]
  have sp : tag 0 rs = (tag 0 rs).take p ++ (p, (sS rs p, tS rs p)) :: (p + 1, (sS rs (p + 1), tS rs (p + 1))) :: (tag 0 rs).drop (p + 2) := by
    obtain ⟨h1, e1⟩ := List.getElem?_eq_some_iff.mp g1
    obtain ⟨h2, e2⟩ := List.getElem?_eq_some_iff.mp g2
    have := List.drop_eq_getElem_cons h1
    rw [List.drop_eq_getElem_cons h2, e1, e2] at this
    exact (List.take_append_drop p (tag 0 rs)).symm.trans (by rw [this])
  have rN : MRun (tag 0 rs) ((tag 0 rs).take p ++ (p, (sS rs p, tS rs p)) :: (p + 1, (sS rs (p + 1), tS rs (p + 1))) :: (tag 0 rs).drop (p + 2)) [] := by
    rw [← sp]
    exact .nil
  have mv := move_of tl rN r h
  dsimp only at mv
  have t := tl _ (List.mem_of_getElem? (row_get (rs := rs) (show p < rs.length by omega)))
  dsimp only at t
  unfold fallB letsN fallsN
  rw [decide_eq_true hp, decide_eq_true (Nat.succ_pos p), Bool.true_and, Bool.true_and, Nat.add_sub_cancel]
  rcases mv with mv | mv
  · rw [decide_eq_true mv, decide_eq_false (by omega)]
    rfl
  · rw [decide_eq_true mv, decide_eq_false (by omega)]
    rfl
theorem part_perm {f g : Nat → Bool} {a b : Nat → Deed} : ∀ {l : List Nat}, (∀ p ∈ l, f p = !g p) → ((l.filter f).map a ++ (l.filter g).map b).Perm (l.map fun p => if g p then b p else a p)
  | [], _ => .nil
  | x :: l, h => by
    have ih := part_perm (a := a) (b := b) (l := l) fun p hp => h p (List.mem_cons_of_mem _ hp)
    have hx := h x (List.mem_cons_self ..)
    cases c : g x with
    | true =>
      rw [c] at hx
      rw [List.filter_cons_of_neg (by rw [hx]; decide), List.filter_cons_of_pos c, List.map_cons, List.map_cons, c]
      exact List.perm_middle.trans (.cons _ ih)
    | false =>
      rw [c] at hx
      rw [List.filter_cons_of_pos (by rw [hx]; rfl), List.filter_cons_of_neg (by rw [c]; decide), List.map_cons, List.map_cons, c]
      exact .cons _ ih
theorem mem_adj {l : List Nat} {n p : Nat} : p ∈ adjL l n ↔ p < n ∧ bef l (p + 1) p = true := by
  unfold adjL
  rw [List.mem_filter, List.mem_range]
theorem near_perm {rs : HH.Row} {M : List Cow} {ds : List Deed} (tl : ∀ x ∈ rs, 0 ≤ x.2) (r : MRun (tag 0 rs) M ds) : (nearD rs (M.map (·.1))).Perm (dueD rs (M.map (·.1)) (rs.length - 1)) := part_perm fun p hp => by
  obtain ⟨h1, h2⟩ := mem_adj.mp hp
  exact one_move tl r (by omega) h2
theorem near_pw {rs : HH.Row} {l : List Nat} : (nearD rs l).Pairwise (fun b c => ¬ deedL c b) := by
  have pw : (adjL l (rs.length - 1)).Pairwise (· < ·) := List.Pairwise.filter _ List.pairwise_lt_range
  unfold nearD deedL
  refine List.pairwise_append.mpr ⟨List.pairwise_map.mpr ((pw.filter _).imp fun {a b} h => ?_), List.pairwise_map.mpr ((pw.filter _).imp fun {a b} h => ?_), fun x hx y hy => ?_⟩
  · rintro (⟨_, z⟩ | ⟨_, z⟩)
    · cases z
    · dsimp only at z
      omega
  · rintro (⟨z, _⟩ | ⟨_, z⟩)
    · cases z
    · dsimp only at z
      omega
  · obtain ⟨a, _, rfl⟩ := List.mem_map.mp hx
    obtain ⟨b, _, rfl⟩ := List.mem_map.mp hy
    rintro (⟨z, _⟩ | ⟨z, _⟩) <;> cases z
theorem bef_chain {l : List Nat} {n : Nat} (nd : l.Nodup) (all : ∀ x, x < n → x ∈ l) (h : ∀ p, p + 1 < n → bef l (p + 1) p = false) : ∀ d i : Nat, i + d + 1 < n → bef l i (i + d + 1) = true
  | 0, i, hi => bef_tot (all _ (by omega)) (all _ (by omega)) (by omega) (h i hi)
  | d + 1, i, hi => by
    have a := bef_chain nd all h d i (by omega)
    have b := bef_tot (all (i + d + 1 + 1) (by omega)) (all (i + d + 1) (by omega)) (by omega) (h (i + d + 1) (by omega))
    obtain ⟨p, hp⟩ := List.getElem?_of_mem (all i (by omega))
    obtain ⟨q, hq⟩ := List.getElem?_of_mem (all (i + d + 1) (by omega))
    obtain ⟨t, ht⟩ := List.getElem?_of_mem (all (i + d + 1 + 1) (by omega))
    rw [bef_iff nd hp hq] at a
    rw [bef_iff nd hq ht] at b
    show bef l i (i + d + 1 + 1) = true
    rw [bef_iff nd hp ht]
    have := of_decide_eq_true a
    have := of_decide_eq_true b
    exact decide_eq_true (by omega)
theorem far_none {l : List Nat} {n : Nat} (nd : l.Nodup) (all : ∀ x, x < n → x ∈ l) : tab l n n = [] ↔ adjL l (n - 1) = [] := by
  constructor
  · intro h
    refine List.eq_nil_iff_forall_not_mem.mpr fun p hp => ?_
    obtain ⟨h1, h2⟩ := mem_adj.mp hp
    have : ((p : Int), ((p + 1 : Nat) : Int)) ∈ tab l n n := mem_tab.mpr ⟨p, p + 1, by omega, by omega, rfl, h2⟩
    rw [h] at this
    cases this
  · intro h
    refine List.eq_nil_iff_forall_not_mem.mpr fun x hx => ?_
    obtain ⟨i, j, h1, h2, _, h3⟩ := mem_tab.mp hx
    have := bef_chain nd all (fun p hp => by
      cases c : bef l (p + 1) p with
      | false => rfl
      | true =>
        have : p ∈ adjL l (n - 1) := mem_adj.mpr ⟨by omega, c⟩
        rw [h] at this
        cases this) (j - i - 1) i (by omega)
    rw [show i + (j - i - 1) + 1 = j by omega] at this
    rw [bef_asym nd this] at h3
    cases h3
theorem near_none {rs : HH.Row} {M : List Cow} {ds : List Deed} (tl : ∀ x ∈ rs, 0 ≤ x.2) (r : MRun (tag 0 rs) M ds) : nearD rs (M.map (·.1)) = [] ↔ tab (M.map (·.1)) rs.length rs.length = [] := by
  have ids := run_ids tl r
  rw [far_none (ids.nodup_iff.mpr List.nodup_range) fun x hx => ids.mem_iff.mpr (List.mem_range.mpr hx)]
  have p := near_perm tl r
  constructor
  · intro h
    rw [h] at p
    have := p.symm.eq_nil
    exact List.map_eq_nil_iff.mp this
  · intro h
    unfold nearD
    rw [h]
    rfl
theorem near_small {rs : HH.Row} {l : List Nat} (h : rs.length ≤ 30) : (nearD rs l).length ≤ 60 := by
  unfold nearD
  rw [List.length_append, List.length_map, List.length_map]
  have h1 := List.length_filter_le (fallB rs) (adjL l (rs.length - 1))
  have h2 := List.length_filter_le (fun p => letsN rs (p + 1)) (adjL l (rs.length - 1))
  have h3 : (adjL l (rs.length - 1)).length ≤ rs.length - 1 := by
    unfold adjL
    have := List.length_filter_le (fun p => bef l (p + 1) p) (List.range (rs.length - 1))
    rw [List.length_range] at this
    exact this
  omega
theorem due_succ {rs : HH.Row} {l : List Nat} {n : Nat} : dueD rs l (n + 1) = dueD rs l n ++ (if bef l (n + 1) n = true then [if letsN rs (n + 1) then (true, n + 1) else (false, n)] else []) := by
  unfold dueD adjL
  rw [List.range_succ, List.filter_append, List.map_append]
  congr 1
  by_cases h : bef l (n + 1) n = true
  · rw [if_pos h, List.filter_cons_of_pos (p := fun p => bef l (p + 1) p) h]
    rfl
  · rw [if_neg h, List.filter_cons_of_neg (p := fun p => bef l (p + 1) p) h]
    rfl
/-! what is asked -/
def spHowFar (K : PySem.W.Frag) : Sp := fun vs H Q _ => ∃ (v : V) (o : Addr) (rs : HH.Row) (L : List Cow), vs = [v, .ref o] ∧ Went K H v o rs L ∧ ∀ H', Ex H H' → Q (.int ((tab (L.map (·.1)) rs.length rs.length).length : Int)) H'
def spDeeds (K : PySem.W.Frag) : Sp := fun vs H Q _ => ∃ (v : V) (o : Addr) (rs : HH.Row) (L : List Cow), vs = [v, .ref o] ∧ Went K H v o rs L ∧ 0 < rs.length ∧ ∀ (q : Addr) (us : List V) (H' : Hp), H q = none → Ex H H' → H' q = some (.lst us) → All2 (DeedAt K H') us (nearD rs (L.map (·.1))) → Q (.ref q) H'
end HH
set_option maxHeartbeats 4000000
namespace HH
open PySem PySem.Spec PyProof.Rows L2 Evl
/-- a tuple known to have no dict -/
def FrzT (H : Hp) (a : Addr) (xs : List V) : Prop := ∃ o, PlainT o ∧ H a = some (.frz o (.tup xs))
theorem FrzT.ex {H H' : Hp} {a : Addr} {xs : List V} (h : FrzT H a xs) (e : Ex H H') : FrzT H' a xs := by
  obtain ⟨o, h1, h2⟩ := h
  exact ⟨o, h1, e _ _ h2⟩
theorem FrzT.exB {H H' : Hp} {p a : Addr} {xs : List V} {n : Nat} (h : FrzT H a xs) (e : ExB p H H') (hb : Bx H p n) : FrzT H' a xs := by
  obtain ⟨o, h1, h2⟩ := h
  obtain ⟨l, hl⟩ := hb.lst
  refine ⟨o, h1, e _ _ (fun z => ?_) h2⟩
  rw [z, hl] at h2
  cases h2
theorem FrzT.sq {K : PySem.W.Frag} {H : Hp} {a : Addr} {xs : List V} (h : FrzT H a xs) : SqT K H a xs := by
  obtain ⟨o, _, h2⟩ := h
  exact .inl (.inr ⟨o, h2⟩)
def spAgain (K : PySem.W.Frag) : Sp := fun vs H Q _ => ∃ (a b : Addr) (l2 l1 : List Nat), vs = [.ref a, .ref b] ∧ SqT K H a (natsV l2) ∧ FrzT H b (natsV l1) ∧ l1.Nodup ∧ (∀ x ∈ l2, x ∈ l1) ∧ l2.length ≤ 100 ∧ ∀ (q : Addr) (s : List Nat) (H' : Hp), H q = none → Ex H H' → H' q = some (.tup (natsV s)) → Again l1 l2 s → Q (.ref q) H'
/-- neighbours exchanged, but for some pairs -/
def spNearF (K : PySem.W.Frag) : Sp := fun vs H Q _ => ∃ (p q kp : Addr) (l : List Nat) (ks : HH.Row) (us : List V) (m n : Nat) (G : List Nat → Prop), vs = [.ref p, .ref q, .ref kp, .int (m : Int)] ∧ (SqL K H q (natsV l) ∨ SqT K H q (natsV l)) ∧ H kp = some (.lst us) ∧ BeastsT H us ks ∧ kp ≠ p ∧ 0 < l.length ∧ l.length ≤ 30 ∧ m ≤ 1000 ∧ Bx H p n ∧ n + m < Lim ∧ G l ∧
  (∀ A a b B, G (A ++ a :: b :: B) → (¬ (((if a ≤ b then a else b : Nat) : Int), ((if a ≤ b then b else a : Nat) : Int)) ∈ ks) → G (A ++ b :: a :: B)) ∧
  ∀ (o : Addr) (l' : List Nat) (H' : Hp), ExB p H H' → Bx H' p (n + m) → H o = none → FrzT H' o (natsV l') → l'.length = l.length → G l' → Q (.ref o) H'
section
variable {K : PySem.W.Frag} {σ : L2.St} {H : Hp} {te t1 t2 : TE} {tt : TT} {o : Addr} {l : List Nat} {j : Nat} {vs : List Nat}
/-- [(word, ..) for place in places if ..] -/
theorem edd_lc (w : Bool) (f : Nat → Bool) (g : Nat → Nat) (ho : Ev te σ H (.ref o)) (hs : SqL K H o (natsV l)) (hl : l.length ≤ 1000) (hw : ∀ x, wipe ((wipe σ vs).set j (some x)) vs = wipe σ vs)
    (ht : ∀ x ∈ l, ∀ H1, Ex H H1 → EvT tt ((wipe σ vs).set j (some (.int (x : Int)))) H1 (f x)) (h1 : ∀ x ∈ l, ∀ H1, Ex H H1 → Ev t1 ((wipe σ vs).set j (some (.int (x : Int)))) H1 (.str (wordOf w))) (h2 : ∀ x ∈ l, ∀ H1, Ex H H1 → Ev t2 ((wipe σ vs).set j (some (.int (x : Int)))) H1 (.int (g x : Int))) {H0 : Hp} (e : Ex H H0) (Q : VK)
    (q : ∀ (d : Addr) (us : List V) (H2 : Hp), H0 d = none → Ex H0 H2 → H2 d = some (.lst us) → All2 (DeedAt K H2) us ((l.filter f).map fun x => (w, g x)) → Q (.ref d) H2) : tLc (iList K te) (gName j) tt (tTup (tCons t1 (tCons t2 tNil))) vs σ H0 Q :=
  ho H0 e _ fun H1 e1 => ⟨o, rfl, ⟨_, ex_l (e.trans e1) hs⟩, fun Dl hD => by
    refine lc_it (walk_list (xs := natsV l)) (fun k H2 => Ex H1 H2 ∧ ∃ us, H2 Dl = some (.lst us) ∧ All2 (DeedAt K H2) us (((l.take k).filter f).map fun x => (w, g x))) ⟨Ex.new hD, [], upd_same, .nil⟩ (fun k H2 _ p => ex_l ((e.trans e1).trans p.1) hs) (fun k x H2 H3 hk p y => ?_) (fun H2 p => ?_)
    · obtain ⟨rfl, hx⟩ := y
      obtain ⟨p1, us, p2, p3⟩ := p
      have hk' : k < l.length := by
        rw [natsV_len] at hk
        exact hk
      have hx' : x = .int (l[k] : Int) := by
        unfold natsV at hx
        rw [List.getElem?_map, List.getElem?_eq_getElem hk'] at hx
        exact (Option.some.inj hx).symm
      subst hx'
      have mem : l[k] ∈ l := List.getElem_mem hk'
      have e2 := (e.trans e1).trans p1
      refine ⟨hw _, (ht _ mem H3 e2) H3 (Ex.refl H3) _ fun H4 e4 => ?_⟩
      have tk : l.take (k + 1) = l.take k ++ [l[k]] := by
        rw [List.take_add_one, List.getElem?_eq_getElem hk']
        rfl
      refine ite2 (fun c => ?_) (fun c => ?_)
      · refine (h1 _ mem H3 e2) H4 e4 _ fun H5 e5 => (h2 _ mem H3 e2) H5 (e4.trans e5) _ fun H6 e6 => ⟨by show 2 ≤ sizeLine; decide, fun TT hT => ?_⟩
        have nT := Ex.new (o := .tup [V.str (wordOf w), .int (g l[k] : Int)]) hT
        have e36 := (e4.trans e5).trans (e6.trans nT)
        have g1 := e36 _ _ p2
        have ln : us.length ≤ k := by
          rw [All2.len p3, List.length_map]
          have := List.length_filter_le f (l.take k)
          rw [List.length_take] at this
          omega
        refine ⟨us, g1, sz_lt (by omega), Ex.mut (p1.trans e36) hD, us ++ [.ref TT], upd_same, ?_⟩
        rw [tk, List.filter_append, List.map_append, show [l[k]].filter f = [l[k]] from List.filter_cons_of_pos c]
        exact deeds_exB (ExB.refl _ _).upd g1 (All2.app (deeds_ex e36 p3) (.cons ⟨TT, rfl, st_of upd_same⟩ .nil))
      · refine ⟨p1.trans e4, us, e4 _ _ p2, ?_⟩
        rw [tk, List.filter_append, List.map_append, show [l[k]].filter f = [] from List.filter_cons_of_neg c, List.map_nil, List.append_nil]
        exact deeds_ex e4 p3
    · obtain ⟨p1, us, p2, p3⟩ := p
      rw [natsV_len, List.take_length] at p3
      exact q Dl us H2 (fresh_back e1 hD) (e1.trans p1) p2 p3⟩
end
section
variable {K : PySem.W.Frag} {σ : L2.St} {H : Hp} {te t1 : TE} {o : Addr} {l : List Nat} {j : Nat} {vs : List Nat}
/-- [.. for who in order] -/
theorem el_mapT (g : Nat → V) (ho : Ev te σ H (.ref o)) (hs : SqT K H o (natsV l)) (hl : l.length ≤ 1000) (hw : ∀ x, wipe ((wipe σ vs).set j (some x)) vs = wipe σ vs)
    (h1 : ∀ x ∈ l, ∀ H1, Ex H H1 → Ev t1 ((wipe σ vs).set j (some (.int (x : Int)))) H1 (g x)) : EvL (tLc (iTup K te) (gName j) tYes t1 vs) σ H (l.map g) := fun H0 e Q q =>
  ho H0 e _ fun H1 e1 => ⟨o, rfl, ⟨_, ex_t (e.trans e1) hs⟩, fun Dl hD => by
    refine lc_it (walk_tup (xs := natsV l)) (fun k H2 => Ex H1 H2 ∧ H2 Dl = some (.lst ((l.take k).map g))) ⟨Ex.new hD, upd_same⟩ (fun k H2 _ p => ex_t ((e.trans e1).trans p.1) hs) (fun k x H2 H3 hk p y => ?_) (fun H2 p => ?_)
    · obtain ⟨rfl, hx⟩ := y
      obtain ⟨p1, p2⟩ := p
      have hk' : k < l.length := by
        rw [natsV_len] at hk
        exact hk
      have hx' : x = .int (l[k] : Int) := by
        unfold natsV at hx
        rw [List.getElem?_map, List.getElem?_eq_getElem hk'] at hx
        exact (Option.some.inj hx).symm
      subst hx'
      have e2 := (e.trans e1).trans p1
      refine ⟨hw _, t_yes ((h1 _ (List.getElem_mem hk') H3 e2) H3 (Ex.refl H3) _ fun H4 e4 => ⟨_, e4 _ _ p2, sz_lt (by rw [List.length_map, List.length_take]; omega), Ex.mut (p1.trans e4) hD, ?_⟩)⟩
      rw [upd_same, List.take_add_one, List.getElem?_eq_getElem hk', List.map_append]
      rfl
    · obtain ⟨p1, p2⟩ := p
      rw [natsV_len, List.take_length] at p2
      exact q Dl H2 (fresh_back e1 hD) (e1.trans p1) p2⟩
end
theorem natsV_int (l : List Nat) : natsV l = (l.map fun (x : Nat) => (x : Int)).map V.int := by
  rw [List.map_map]
  rfl
theorem mt_tup_indexK {X : Cx} {K : PySem.W.Frag} (hK : X.K = K := by rfl) : MtR X "tuple.index" (rTIdx K) := by
  subst hK
  exact mt_tup_indexI
theorem alike_deed {K : PySem.W.Frag} {H : Hp} {v u : V} {d : Deed} (h : DeedAt K H v d) (g : DeedAt K H u d) : Alike K H 2 v u := by
  obtain ⟨a, rfl, ha⟩ := h
  obtain ⟨b, rfl, hb⟩ := g
  exact alike_twoT ha hb (.inl ⟨rfl, True.intro⟩) (.inl ⟨rfl, True.intro⟩)
theorem alike_deeds {K : PySem.W.Frag} {H : Hp} {a b : Addr} {us ws : List V} {ds : List Deed} (ha : SqL K H a us) (hb : SqL K H b ws) (f : All2 (DeedAt K H) us ds) (g : All2 (DeedAt K H) ws ds) (hz : ds.length ≤ 40000) : Alike K H 3 (.ref a) (.ref b) := by
  refine .inr ⟨a, b, us, ws, rfl, rfl, .inl ⟨ha, hb⟩, by rw [All2.len f, All2.len g], by rw [All2.len f]; exact hz, fun i x y hx hy => ?_⟩
  obtain ⟨d, h1, h2⟩ := All2.get f hx
  obtain ⟨d', h3, h4⟩ := All2.get g hy
  rw [h1] at h3
  cases h3
  exact alike_deed h2 h4
theorem ev_eqNil {K : PySem.W.Frag} {σ : L2.St} {H : Hp} {te : TE} {k : Nat} {a : Addr} {xs : List V} {ds : List PyData} (h : Ev te σ H (.ref a)) (ha : SqL K H a xs) (hd : DpAll K H xs ds) (hn : ∀ d ∈ ds, Nice k d) (hk : k < 64) : Ev (tOp (rEqD K) te (tLst tNil)) σ H (.bl xs.isEmpty) := fun H1 e Q q =>
  h H1 e _ fun H2 e2 => ⟨by show 0 ≤ sizeLine; decide, fun p hp => by
    have e3 := (e.trans e2).trans (Ex.new (o := .lst []) hp)
    refine ⟨.list ds, .list [], .lst (ex_l e3 ha) (dps_ex e3 hd), .lst (sq_of upd_same) .nil, (nice_list hn).shaped (by omega), (nice_list (k := 0) (fun d h => by cases h)).shaped (by omega), ?_⟩
    have e4 : PyData.eqv (.list ds) (.list []) = xs.isEmpty := by
      have hl := dps_len hd
      cases ds with
      | nil =>
        have : xs = [] := List.length_eq_zero_iff.mp hl
        subst this
        simp [PyData.eqv, PyData.eqvAll]
      | cons d ds =>
        cases xs with
        | nil => cases hl
        | cons x xs => simp [PyData.eqv, PyData.eqvAll]
    rw [e4]
    exact q _ (e2.trans (Ex.new hp))⟩
end HH
set_option maxHeartbeats 4000000
namespace HH
open PySem PySem.Spec PyProof.Rows L2 Evl
/-! enumerate over a list or a tuple -/
def iEnumA (K : PySem.W.Frag) (ta : TA) : TI := fun σ H R => ta σ H fun vs H1 => ∃ a xs, vs = [.ref a] ∧ ((SqL K H1 a xs ∧ R (Ite K a) H1) ∨ (SqT K H1 a xs ∧ R (IteT K a) H1))
theorem pi_enumA {X : Cx} {e : Expr} {ta : TA} {p pos tpos : Pos} {elts : List Expr} {kk : Nat} (hg : Gl X "enumerate") (hm : X.mg "enumerate" = none) (ha : PA X [e] ta) (hs : starEach [e] X.env = [(false, eval e X.env)] := by rfl) :
    PI X (.Tuple elts kk tpos) (.Call (.Name "enumerate" p) [e] [] pos) (iEnumA X.K ta) := by
  refine ⟨fun pins s σ H R I h => ?_⟩
  refine Call_ (ld_blt I hg hm boot_enumerate (PyProof.Rows.callWith_type1 (thn (ha.run pos pins s σ H _ I h) fun us s1 ⟨vs, H1, I1, r1, q1⟩ => ?_) hs rfl))
  obtain ⟨a, xs, ex, q1⟩ := q1
  subst ex
  cases r1 with
  | cons r rr =>
    cases rr
    cases r
    have fp : ∀ b, b ∈ [s1.heap.objs.size + 1, s1.heap.objs.size] → FpOk X pins H1 b := fun b hb => by
      have e' : b = s1.heap.objs.size + 1 ∨ b = s1.heap.objs.size := by simpa using hb
      have hle : s1.heap.objs.size ≤ b := by
        rcases e' with z | z
        · rw [z]; exact Nat.le_add_right _ _
        · rw [z]; exact Nat.le_refl _
      exact I1.fpOk hle (I1.hok.fresh hle)
    rcases q1 with ⟨hq, q⟩ | ⟨hq, q⟩
    · obtain ⟨its, rv, p', hz⟩ := I1.list hq
      refine call_enumerate_list p'.isList fun h' he hit hsz hk => wpAny_pyIter_enum he ?_
      have I2 : Inv X pins σ H1 { s1 with heap := h' } := I1.kept (t' := s1.toks) hk
      exact ⟨s1.heap.objs.size + 1, [s1.heap.objs.size + 1, s1.heap.objs.size], _, _, H1, rfl, I2, turn_enum a (s1.heap.objs.size + 1) s1.heap.objs.size, ⟨⟨.none, he⟩, hit, Nat.succ_ne_self _⟩, fp, q⟩
    · obtain ⟨its, rv, p', hz⟩ := I1.tuple hq
      refine call_enum_tuple (show s1.heap.IsTuple a its.toArray from p') fun h' he hit hsz hk => wpAny_pyIter_enum he ?_
      have I2 : Inv X pins σ H1 { s1 with heap := h' } := I1.kept (t' := s1.toks) hk
      exact ⟨s1.heap.objs.size + 1, [s1.heap.objs.size + 1, s1.heap.objs.size], _, _, H1, rfl, I2, turn_enumT a (s1.heap.objs.size + 1) s1.heap.objs.size, ⟨⟨.none, he⟩, hit, Nat.succ_ne_self _⟩, fp, q⟩
/-- a list or a tuple -/
def SqA (K : PySem.W.Frag) (H : Hp) (a : Addr) (xs : List V) : Prop := SqL K H a xs ∨ SqT K H a xs
theorem SqA.ex {K : PySem.W.Frag} {H H' : Hp} {a : Addr} {xs : List V} (h : SqA K H a xs) (e : Ex H H') : SqA K H' a xs := h.imp (ex_l e) (ex_t e)
/-- a loop over enumerate(..) of either -/
theorem for_enumA {K : PySem.W.Frag} {a : Addr} {xs : List V} {g : TG} {tb : TS} {D : Ends} {σ : L2.St} {H : Hp} (Pv : Nat → L2.St → Hp → Prop) (h0 : Pv 0 σ H) (hs : SqA K H a xs) (hl : ∀ i σ' H', i ≤ xs.length → Pv i σ' H' → Ex H H')
    (hb : ∀ i x σ' H' T, xs[i]? = some x → Pv i σ' H' → H' T = none → g (.ref T) σ' (upd H' T (.tup [.int (i : Nat), x])) fun σ2 H2 => tb { D with nx := Pv (i + 1), ct := Pv (i + 1), bk := D.nx } σ2 H2) (hd : ∀ σ' H', Pv xs.length σ' H' → D.nx σ' H') :
    tFor (iEnumA K fun σ H R => R [.ref a] H) g tb D σ H := by
  rcases hs with hs | hs
  · exact ⟨a, xs, rfl, .inl ⟨hs, for_it walk_enum Pv h0 (fun i σ' H' hi p => ex_l (hl i σ' H' hi p) hs) (fun i x σ' H' H2 hi p y => by
      obtain ⟨T, x1, x2, rfl, hT, rfl, e1, e2⟩ := y
      cases e1
      exact hb i x2 σ' H' T e2 p hT) hd⟩⟩
  · exact ⟨a, xs, rfl, .inr ⟨hs, for_it walk_enumT Pv h0 (fun i σ' H' hi p => ex_t (hl i σ' H' hi p) hs) (fun i x σ' H' H2 hi p y => by
      obtain ⟨T, x1, x2, rfl, hT, rfl, e1, e2⟩ := y
      cases e1
      exact hb i x2 σ' H' T e2 p hT) hd⟩⟩
end HH
namespace L2
open PySem PySem.Spec PyProof.Rows
/-! a call of a local name that holds one of several defs, which may raise -/
structure HeldX (P : Program) (w : World) (K : PySem.W.Frag) (mg : Str → Option Value) (base : Heap) (k : Nat) (f : Addr) (sp : Sp) : Prop where
  ex : ∃ (fd : FuncData) (ps : List Str), FnOk P w K mg base (L2.CX P w) k f fd ps sp ∧ PySem.W.keepIn K (.ref f) = true ∧ Binds K fd ps []
def tCallAS (i : Nat) (S : Addr → Option Sp) (E : St → XK) (t : TA) : TE := fun σ H Q => ∃ f sp, σ[i]? = some (some (.ref f)) ∧ S f = some sp ∧ t σ H fun vs H1 => sp vs H1 Q (E σ)
section
variable {X : Cx} {k i : Nat} {E : L2.St → XK} {x : Str} {p pos : Pos} {e : Expr} {es : List Expr} {t : TA}
theorem pe_callAS {S : Addr → Option Sp} (A : ∀ f sp, S f = some sp → HeldX X.prog X.w X.K X.mg X.base k f sp) (hr : Room k X.A) (hN : X.N[i]? = some x) (hv : Vis X.env.scope x) (hx : ∀ σ, PassesAt (L2.CX X.prog X.w) X σ (E σ)) (ha : PA X (e :: es) t)
    (hdb : (x == ("__debug__" : Str)) = false := by decide) (hcd : (x == ("__classdict__" : Str)) = false := by decide)
    (he : starEach (e :: es) X.env = (false, eval e X.env) :: starEach es X.env := by rfl) (hpl : (backTo pos (starEach es X.env)).any (·.1) = false := by rfl) : PE X (.Call (.Name x p) (e :: es) [] pos) (tCallAS i S E t) := by
  refine ⟨fun pins s σ H Q I h => ?_⟩
  obtain ⟨f, sp, hs, hS, ht⟩ := h
  obtain ⟨fd, ps, F, hk, hb⟩ := (A f sp hS).ex
  refine wpAny_Call_Name_kw (thn ((pe_var (pos := p) hN hv hdb hcd).run pins s σ H (fun v H1 => v = .ref f ∧ H1 = H) I ⟨.ref f, hs, rfl, rfl⟩) fun u s1 ⟨v, H1, I1, r1, q1⟩ => ?_)
  obtain ⟨rfl, rfl⟩ := q1
  cases r1
  refine PySem.W.callWith_K (h₀ := X.base) I.ok.mod.kin hk (thn (ha.run pos pins s1 σ _ _ I1 ht) fun us s2 ⟨vs, H2, I2, r, q⟩ => ⟨I2.kIn, ?_⟩) he hpl
  exact run_fnS F hr hb (hx σ) I2 r q
end
end L2
namespace HH
open PySem PySem.Spec PyProof.Rows L2 Evl
/-! deeds at any place -/
abbrev ZD := Bool × Int
def DeedZ (K : PySem.W.Frag) (H : Hp) (v : V) (d : ZD) : Prop := ∃ p, v = .ref p ∧ SqT K H p [.str (wordOf d.1), .int d.2]
def zd (d : Deed) : ZD := (d.1, (d.2 : Int))
theorem DeedZ.ex {K : PySem.W.Frag} {H H' : Hp} {v : V} {d : ZD} (h : DeedZ K H v d) (e : Ex H H') : DeedZ K H' v d := by
  obtain ⟨p, h1, h2⟩ := h
  exact ⟨p, h1, ex_t e h2⟩
abbrev DeedsZ (K : PySem.W.Frag) (H : Hp) : List V → List ZD → Prop := All2 (DeedZ K H)
theorem DeedsZ.ex' {K : PySem.W.Frag} {H H' : Hp} {us : List V} {ds : List ZD} (h : DeedsZ K H us ds) (e : Ex H H') : DeedsZ K H' us ds := All2.mono (fun _ _ r => r.ex e) h
theorem DeedsZ.exB' {K : PySem.W.Frag} {H H' : Hp} {us : List V} {ds : List ZD} {q : Addr} {ys : List V} (e : ExB q H H') (hq : H q = some (.lst ys)) (h : DeedsZ K H us ds) : DeedsZ K H' us ds := All2.mono (fun v d g => by
  obtain ⟨p, h1, h2⟩ := g
  exact ⟨p, h1, e.t hq h2⟩) h
theorem deeds_zd {K : PySem.W.Frag} {H : Hp} : ∀ {us : List V} {ds : List Deed}, All2 (DeedAt K H) us ds → DeedsZ K H us (ds.map zd)
  | _, _, .nil => .nil
  | _, _, .cons a b => .cons a (deeds_zd b)
def canZ (rs : HH.Row) (d : ZD) : Bool := if d.1 then letsZ rs d.2 else fallsZ rs d.2
def movZ (rs : HH.Row) (d : ZD) : HH.Row := if d.1 then passR rs d.2.toNat else fallR rs d.2.toNat
def atZ (d : ZD) : Nat := if d.1 then d.2.toNat - 1 else d.2.toNat
def swapL (l : List Nat) (p : Nat) : List Nat := l.take p ++ [ixN l (p + 1), ixN l p] ++ l.drop (p + 2)
abbrev StZ := HH.Row × List Nat
def ledK : StZ → List ZD → Nat → Nat ⊕ StZ
  | s, [], _ => .inr s
  | s, d :: ds, k => if canZ s.1 d = true then ledK (movZ s.1 d, swapL s.2 (atZ d)) ds (k + 1) else .inl k
theorem swapL_len {l : List Nat} {p : Nat} (h : p + 1 < l.length) : (swapL l p).length = l.length := by
  unfold swapL
  rw [List.length_append, List.length_append, List.length_take, List.length_drop]
  show min p l.length + 2 + (l.length - (p + 2)) = l.length
  omega
theorem canZ_at {rs : HH.Row} {d : ZD} (h : canZ rs d = true) : (d.1 = true ∧ ∃ j : Nat, d.2 = (j : Int) ∧ 0 < j ∧ j < rs.length ∧ letsN rs j = true) ∨ (d.1 = false ∧ ∃ j : Nat, d.2 = (j : Int) ∧ j + 1 < rs.length ∧ fallsN rs j = true) := by
  obtain ⟨b, p⟩ := d
  cases b with
  | true => exact .inl ⟨rfl, letsZ_at h⟩
  | false => exact .inr ⟨rfl, fallsZ_at h⟩
theorem mov_len {rs : HH.Row} {d : ZD} (h : canZ rs d = true) : (movZ rs d).length = rs.length ∧ atZ d + 1 < rs.length := by
  rcases canZ_at h with ⟨h1, j, h2, h3, h4, _⟩ | ⟨h1, j, h2, h3, _⟩
  · unfold movZ atZ
    rw [h1, h2, if_pos rfl, if_pos rfl, Int.toNat_natCast, passR_len h3 h4]
    omega
  · unfold movZ atZ
    rw [h1, h2, if_neg (by decide), if_neg (by decide), Int.toNat_natCast, fallR_len h3]
    omega
theorem ledK_app : ∀ {a b : List ZD} {s : StZ} {k : Nat}, ledK s (a ++ b) k = match ledK s a k with
    | .inr s' => ledK s' b (k + a.length)
    | .inl j => .inl j
  | [], b, s, k => rfl
  | d :: a, b, s, k => by
    show (if canZ s.1 d = true then ledK (movZ s.1 d, swapL s.2 (atZ d)) (a ++ b) (k + 1) else .inl k) = match (if canZ s.1 d = true then ledK (movZ s.1 d, swapL s.2 (atZ d)) a (k + 1) else .inl k) with
      | .inr s' => ledK s' b (k + (a.length + 1))
      | .inl j => .inl j
    by_cases c : canZ s.1 d = true
    · rw [if_pos c, if_pos c, ledK_app, show k + 1 + a.length = k + (a.length + 1) by omega]
    · rw [if_neg c, if_neg c]
theorem swap_split {A B : List Nat} {a b : Nat} : swapL (A ++ a :: b :: B) A.length = A ++ b :: a :: B := by
  obtain ⟨h1, h2⟩ := ixN_split (A := A) (B := B) (a := a) (b := b)
  unfold swapL
  rw [h1, h2, List.take_left', List.append_assoc]
  · rw [show A ++ a :: b :: B = (A ++ [a, b]) ++ B by simp, List.drop_left']
    · rfl
    · rw [List.length_append]
      rfl
  · rfl
theorem run_led {rs : HH.Row} {L : List Cow} {ds : List Deed} (r : MRun (tag 0 rs) L ds) : ledK (rs, List.range rs.length) (ds.map zd) 0 = .inr (rowsOf L, L.map (·.1)) := by
  induction r with
  | nil =>
    rw [tag_ids, show rowsOf (tag 0 rs) = rs from tag_snd 0 rs]
    rfl
  | @pass pre post a b ds r hp ih =>
    rw [List.map_append, ledK_app, ih]
    have ln : (rowsOf pre).length = pre.length := cow_len _
    have sr : rowsOf (pre ++ a :: b :: post) = rowsOf pre ++ a.2 :: b.2 :: rowsOf post := rows_split ..
    have g0 : (rowsOf (pre ++ a :: b :: post))[pre.length]? = some a.2 := by rw [sr, List.getElem?_append_right (by omega), ln, Nat.sub_self]; rfl
    have g1 : (rowsOf (pre ++ a :: b :: post))[pre.length + 1]? = some b.2 := by rw [sr, List.getElem?_append_right (by omega), ln, Nat.add_sub_cancel_left]; rfl
    have lt : pre.length + 1 < (rowsOf (pre ++ a :: b :: post)).length := (List.getElem?_eq_some_iff.mp g1).1
    have c : canZ (rowsOf (pre ++ a :: b :: post)) (zd (true, pre.length + 1)) = true := by
      show letsZ _ ((pre.length + 1 : Nat) : Int) = true
      rw [letsZ_nat lt]
      unfold letsN
      rw [decide_eq_true (by omega), Bool.true_and, Nat.add_sub_cancel, sS_of g1, sS_of g0, tS_of g0]
      exact decide_eq_true hp
    show (if canZ (rowsOf (pre ++ a :: b :: post)) (zd (true, pre.length + 1)) = true then _ else _) = _
    rw [if_pos c]
    show Sum.inr (passR _ ((pre.length + 1 : Nat) : Int).toNat, swapL _ (((pre.length + 1 : Nat) : Int).toNat - 1)) = _
    rw [Int.toNat_natCast, Nat.add_sub_cancel, ids_split, show pre.length = (pre.map (·.1)).length by rw [List.length_map], swap_split]
    have e1 : passR (rowsOf (pre ++ a :: b :: post)) ((pre.map (·.1)).length + 1) = rowsOf (pre ++ (b.1, (b.2.1 - a.2.2, b.2.2)) :: a :: post) := by
      rw [List.length_map]
      unfold passR
      rw [Nat.add_sub_cancel, sS_of g1, tS_of g1, sS_of g0, tS_of g0, sr, rows_split, ← ln, List.take_left', show (rowsOf pre).length + 1 + 1 = (rowsOf pre ++ [a.2, b.2]).length by rw [List.length_append]; rfl, show rowsOf pre ++ a.2 :: b.2 :: rowsOf post = (rowsOf pre ++ [a.2, b.2]) ++ rowsOf post by simp, List.drop_left']
      · simp
      · rfl
      · rfl
    rw [e1]
    have e2 : (pre ++ (b.1, (b.2.1 - a.2.2, b.2.2)) :: a :: post).map (·.1) = pre.map (·.1) ++ b.1 :: a.1 :: post.map (·.1) := by rw [List.map_append]; rfl
    rw [e2]
  | @fall pre post a b ds r hp ih =>
    rw [List.map_append, ledK_app, ih]
    have ln : (rowsOf pre).length = pre.length := cow_len _
    have sr : rowsOf (pre ++ a :: b :: post) = rowsOf pre ++ a.2 :: b.2 :: rowsOf post := rows_split ..
    have g0 : (rowsOf (pre ++ a :: b :: post))[pre.length]? = some a.2 := by rw [sr, List.getElem?_append_right (by omega), ln, Nat.sub_self]; rfl
    have g1 : (rowsOf (pre ++ a :: b :: post))[pre.length + 1]? = some b.2 := by rw [sr, List.getElem?_append_right (by omega), ln, Nat.add_sub_cancel_left]; rfl
    have lt : pre.length + 1 < (rowsOf (pre ++ a :: b :: post)).length := (List.getElem?_eq_some_iff.mp g1).1
    have c : canZ (rowsOf (pre ++ a :: b :: post)) (zd (false, pre.length)) = true := by
      show fallsZ _ ((pre.length : Nat) : Int) = true
      rw [fallsZ_nat, decide_eq_true lt, Bool.true_and]
      unfold fallsN
      rw [sS_of g0, sS_of g1]
      exact decide_eq_true hp
    show (if canZ (rowsOf (pre ++ a :: b :: post)) (zd (false, pre.length)) = true then _ else _) = _
    rw [if_pos c]
    show Sum.inr (fallR _ ((pre.length : Nat) : Int).toNat, swapL _ ((pre.length : Nat) : Int).toNat) = _
    rw [Int.toNat_natCast, ids_split, show pre.length = (pre.map (·.1)).length by rw [List.length_map], swap_split]
    have e1 : fallR (rowsOf (pre ++ a :: b :: post)) (pre.map (·.1)).length = rowsOf (pre ++ b :: (a.1, (a.2.1 + b.2.2, a.2.2)) :: post) := by
      rw [List.length_map]
      unfold fallR
      rw [sS_of g1, tS_of g1, sS_of g0, tS_of g0, sr, rows_split, ← ln, List.take_left', show (rowsOf pre).length + 2 = (rowsOf pre ++ [a.2, b.2]).length by rw [List.length_append]; rfl, show rowsOf pre ++ a.2 :: b.2 :: rowsOf post = (rowsOf pre ++ [a.2, b.2]) ++ rowsOf post by simp, List.drop_left']
      · simp
      · rfl
      · rfl
    rw [e1]
    have e2 : (pre ++ b :: (a.1, (a.2.1 + b.2.2, a.2.2)) :: post).map (·.1) = pre.map (·.1) ++ b.1 :: a.1 :: post.map (·.1) := by rw [List.map_append]; rfl
    rw [e2]
/-! promises -/
def spSwapO (K : PySem.W.Frag) : Sp := fun vs H Q _ => ∃ (o : Addr) (l : List Nat) (p : Nat), vs = [.ref o, .int (p : Int)] ∧ SqT K H o (natsV l) ∧ p + 1 < l.length ∧ l.length ≤ 1000 ∧ ∀ (t : Addr) (H' : Hp), Ex H H' → SqT K H' t (natsV (swapL l p)) → Q (.ref t) H'
def spCanDoZ (K : PySem.W.Frag) : Sp := fun vs H Q _ => ∃ (v : V) (rs : HH.Row) (d : ZD), vs = [v, .str (wordOf d.1), .int d.2] ∧ RowAt K H v rs ∧ RetV (.bl (canZ rs d)) H Q
def spLedX (K : PySem.W.Frag) (C : Addr) : Sp := fun vs H Q X => ∃ (v : V) (rs : HH.Row) (c : Addr) (us : List V) (ds : List ZD), vs = [v, .ref c] ∧ RowAt K H v rs ∧ rs.length ≤ 1000 ∧ SqA K H c us ∧ DeedsZ K H us ds ∧ ds.length ≤ 1000 ∧
  (∀ s, ledK (rs, List.range rs.length) ds 0 = .inr s → ∀ (q : Addr) (v' : V) (t : Addr) (H' : Hp), Ex H H' → H' q = some (.tup [v', .ref t]) → RowAt K H' v' s.1 → SqT K H' t (natsV s.2) → Q (.ref q) H') ∧
  ∀ k, ledK (rs, List.range rs.length) ds 0 = .inl k → ∀ d H', Ex H H' → H' d = none → X (.ref C) (some d) (upd H' d (.xd [(("number" : Str), .int (k : Int))]))
/-- gone tells the row, order_behind the order -/
def Picked (K : PySem.W.Frag) (H : Hp) (pick : Bool) (v : V) (s : StZ) : Prop := if pick then RowAt K H v s.1 else ∃ t, v = .ref t ∧ SqT K H t (natsV s.2)
theorem Picked.ex {K : PySem.W.Frag} {H H' : Hp} {pick : Bool} {v : V} {s : StZ} (h : Picked K H pick v s) (e : Ex H H') : Picked K H' pick v s := by
  unfold Picked at h ⊢
  cases pick with
  | true => exact RowAt.ex h e
  | false =>
    obtain ⟨t, h1, h2⟩ := h
    exact ⟨t, h1, ex_t e h2⟩
def spPickX (K : PySem.W.Frag) (C : Addr) (pick : Bool) : Sp := fun vs H Q X => ∃ (v : V) (rs : HH.Row) (c : Addr) (us : List V) (ds : List ZD), vs = [v, .ref c] ∧ RowAt K H v rs ∧ rs.length ≤ 1000 ∧ SqA K H c us ∧ DeedsZ K H us ds ∧ ds.length ≤ 1000 ∧
  (∀ s, ledK (rs, List.range rs.length) ds 0 = .inr s → ∀ (v' : V) (H' : Hp), Ex H H' → Picked K H' pick v' s → Q v' H') ∧
  ∀ k, ledK (rs, List.range rs.length) ds 0 = .inl k → ∀ d H', Ex H H' → H' d = none → X (.ref C) (some d) (upd H' d (.xd [(("number" : Str), .int (k : Int))]))
def spDoneZ (K : PySem.W.Frag) : Sp := fun vs H Q _ => ∃ (v : V) (rs : HH.Row) (c : Addr) (us : List V) (ds : List ZD), vs = [v, .ref c] ∧ RowAt K H v rs ∧ rs.length ≤ 1000 ∧ SqA K H c us ∧ DeedsZ K H us ds ∧ ds.length ≤ 1000 ∧
  (∀ s, ledK (rs, List.range rs.length) ds 0 = .inr s → ∀ (q : Addr) (v' : V) (t : Addr) (H' : Hp), Ex H H' → H' q = some (.tup [v', .ref t]) → RowAt K H' v' s.1 → SqT K H' t (natsV s.2) → Q (.ref q) H') ∧
  ∀ k, ledK (rs, List.range rs.length) ds 0 = .inl k → ∀ H', Ex H H' → Q (.int (k : Int)) H'
def spToldL (K : PySem.W.Frag) (f1 f2 : Addr) : Sp := fun vs H Q _ => ∃ (pick : Bool) (v : V) (rs : HH.Row) (c : Addr) (us : List V) (ds : List ZD), vs = [.ref (if pick then f1 else f2), v, .ref c] ∧ RowAt K H v rs ∧ rs.length ≤ 1000 ∧ SqA K H c us ∧ DeedsZ K H us ds ∧ ds.length ≤ 1000 ∧
  (∀ s, ledK (rs, List.range rs.length) ds 0 = .inr s → ∀ (v' : V) (H' : Hp), Ex H H' → Picked K H' pick v' s → Q v' H') ∧
  ∀ k, ledK (rs, List.range rs.length) ds 0 = .inl k → ∀ H', Ex H H' → Q (.int (k : Int)) H'
end HH
namespace HH
open PySem PySem.Spec PyProof.Rows L2 Evl
section
variable {K : PySem.W.Frag} {σ : L2.St} {H : Hp} {te ta tb tc : TE} {D : Ends}
theorem s_enumA {H0 : Hp} {a : Addr} {xs : List V} {g : TG} {tu : TS} (h : Ev te σ H (.ref a)) (e0 : Ex H0 H) (hs : SqA K H0 a xs) (Pv : Nat → L2.St → Hp → Prop) (h0 : ∀ H1, Ex H H1 → Pv 0 σ H1) (hl : ∀ i σ' H', i ≤ xs.length → Pv i σ' H' → Ex H0 H')
    (hb : ∀ i x σ' H' T, xs[i]? = some x → Pv i σ' H' → H' T = none → g (.ref T) σ' (upd H' T (.tup [.int (i : Nat), x])) fun σ2 H2 => tu { D with nx := Pv (i + 1), ct := Pv (i + 1), bk := D.nx } σ2 H2) (hd : ∀ σ' H', Pv xs.length σ' H' → D.nx σ' H') :
    tFor (iEnumA K (tCons te tNil)) g tu D σ H := h H (Ex.refl H) _ fun H1 e1 => by
  rcases hs with hs | hs
  · exact ⟨a, xs, rfl, .inl ⟨ex_l (e0.trans e1) hs, for_it walk_enum Pv (h0 H1 e1) (fun i σ' H' hi p => ex_l (hl i σ' H' hi p) hs) (fun i x σ' H' H2 hi p y => by
      obtain ⟨T, x1, x2, rfl, hT, rfl, e1, e2⟩ := y
      cases e1
      exact hb i x2 σ' H' T e2 p hT) hd⟩⟩
  · exact ⟨a, xs, rfl, .inr ⟨ex_t (e0.trans e1) hs, for_it walk_enumT Pv (h0 H1 e1) (fun i σ' H' hi p => ex_t (hl i σ' H' hi p) hs) (fun i x σ' H' H2 hi p y => by
      obtain ⟨T, x1, x2, rfl, hT, rfl, e1, e2⟩ := y
      cases e1
      exact hb i x2 σ' H' T e2 p hT) hd⟩⟩
theorem q_enumA {H0 : Hp} {a : Addr} {xs : List V} {g : TG} {tu tz : TS} (h : Ev te σ H (.ref a)) (e0 : Ex H0 H) (hs : SqA K H0 a xs) (Pv : Nat → L2.St → Hp → Prop) (h0 : ∀ H1, Ex H H1 → Pv 0 σ H1) (hl : ∀ i σ' H', i ≤ xs.length → Pv i σ' H' → Ex H0 H')
    (hb : ∀ i x σ' H' T, xs[i]? = some x → Pv i σ' H' → H' T = none → g (.ref T) σ' (upd H' T (.tup [.int (i : Nat), x])) fun σ2 H2 => tu { D with nx := Pv (i + 1), ct := Pv (i + 1), bk := tz D } σ2 H2) (hd : ∀ σ' H', Pv xs.length σ' H' → tz D σ' H') :
    tSeq (tFor (iEnumA K (tCons te tNil)) g tu) tz D σ H := s_enumA (D := { D with nx := tz D }) h e0 hs Pv h0 hl hb hd
theorem et_chain2 {a m b : Int} (ha : Ev ta σ H (.int a)) (hb : Ev tb σ H (.int m)) (hc : Ev tc σ H (.int b)) : EvT (tTest (tChain (rI0 fun i j => .bl (decide (i ≤ j))) (rI0 fun i j => .bl (decide (i < j))) ta tb tc)) σ H (decide (a ≤ m) && decide (m < b)) := fun H1 e1 Q q => by
  refine ha H1 e1 _ fun H2 e2 => hb H2 (e1.trans e2) _ fun H3 e3 => ⟨a, m, rfl, rfl, _, rfl, ?_⟩
  have e23 := e2.trans e3
  cases h : decide (a ≤ m) with
  | true =>
    rw [if_pos rfl]
    refine hc H3 (e1.trans e23) _ fun H4 e4 => ⟨m, b, rfl, rfl, _, rfl, ?_⟩
    rw [h, Bool.true_and] at q
    exact q H4 (e23.trans e4)
  | false =>
    rw [if_neg (by decide)]
    rw [h, Bool.false_and] at q
    exact ⟨_, rfl, q H3 e23⟩
theorem led_drop {s0 s : StZ} {ds : List ZD} {i : Nat} {d : ZD} (h : ledK s0 ds 0 = ledK s (ds.drop i) i) (hd : ds[i]? = some d) : ledK s0 ds 0 = if canZ s.1 d = true then ledK (movZ s.1 d, swapL s.2 (atZ d)) (ds.drop (i + 1)) (i + 1) else .inl i := by
  rw [h]
  have : ds.drop i = d :: ds.drop (i + 1) := by
    obtain ⟨hi, e⟩ := List.getElem?_eq_some_iff.mp hd
    rw [← e]
    exact (List.drop_eq_getElem_cons hi)
  rw [this]
  rfl
end
end HH
namespace HH
open PySem PySem.Spec PyProof.Rows L2 Evl
/-! a test that is an if-expression -/
def tIfT (t u w : TT) : TT := fun σ H Q => t σ H fun c H1 => if c = true then u σ H1 Q else w σ H1 Q
theorem pt_ifT {X : Cx} {c a b : Expr} {pos : Pos} {tA tB' tC' : TT} (hc : PT X c tA) (ha : PT X a tB') (hb : PT X b tC') : PT X (.IfExp c a b pos) (tIfT tA tB' tC') := by
  refine ⟨fun pins s σ H Q I h => ?_⟩
  refine PyProof.Rows.isTrue_IfExp (thn (hc.run pins s σ H _ I h) fun d s1 ⟨H1, I1, q1⟩ => ?_)
  cases d with
  | true => exact ha.run pins s1 σ H1 Q I1 q1
  | false => exact hb.run pins s1 σ H1 Q I1 q1
theorem et_ifT {σ : L2.St} {H : Hp} {t u w : TT} {b r : Bool} (h : EvT t σ H b) (h1 : b = true → EvT u σ H r) (h2 : b = false → EvT w σ H r) : EvT (tIfT t u w) σ H r := fun H1 e1 Q q => h H1 e1 _ fun H2 e2 => by
  cases b with
  | true => exact h1 rfl H2 (e1.trans e2) Q fun H3 e3 => q H3 (e2.trans e3)
  | false => exact h2 rfl H2 (e1.trans e2) Q fun H3 e3 => q H3 (e2.trans e3)
end HH
namespace HH
open PySem PySem.Spec PyProof.Rows L2 Evl
section
variable {K : PySem.W.Frag} {σ : L2.St} {H : Hp} {te to ta tb tc : TE} {D : Ends}
theorem s_asgSl {l : Addr} {xs ys : List V} {i j : Nat} (hl : H l = some (.lst xs)) (h : EvL te σ H ys) (ho : Ev to σ H (.ref l)) (hi : Ev ta σ H (.int (i : Int))) (hj : Ev tc σ H (.int (j : Int))) (hij : i ≤ j) (hx : j ≤ xs.length) (sz : xs.length + ys.length ≤ 100000) (k : ∀ H1, Ex H H1 → D.nx σ (upd H1 l (.lst (xs.take i ++ ys ++ xs.drop j)))) : tAsg te (gSl to ta tc) D σ H :=
  h H (Ex.refl H) _ fun b H1 hb e1 g1 => ho H1 e1 _ fun H2 e2 => hi H2 (e1.trans e2) _ fun H3 e3 => hj H3 (e1.trans (e2.trans e3)) _ fun H4 e4 => ⟨l, b, xs, ys, (i : Int), (j : Int), rfl, rfl, rfl, rfl, (e1.trans (e2.trans (e3.trans e4))) _ _ hl, (e2.trans (e3.trans e4)) _ _ g1, ne_of_none hl hb, by omega, by omega, by omega, sz_of sz, k H4 (e1.trans (e2.trans (e3.trans e4)))⟩
theorem er_if {t : TT} {b : Bool} {rs : HH.Row} (h : EvT t σ H b) (h1 : b = true → EvR K ta σ H rs) (h2 : b = false → EvR K tb σ H rs) : EvR K (tIf t ta tb) σ H rs := fun H1 e1 Q q => h H1 e1 _ fun H2 e2 => by
  cases b with
  | true => exact h1 rfl H2 (e1.trans e2) Q fun v H3 e3 hv => q v H3 (e2.trans e3) hv
  | false => exact h2 rfl H2 (e1.trans e2) Q fun v H3 e3 hv => q v H3 (e2.trans e3) hv
theorem er_op {sp : Sp} {C : HH.Row → Nat → Prop} {gg : HH.Row → Nat → HH.Row} {v : V} {rs : HH.Row} {p : Nat} {X : XK} (hs : sp = spRowOp K C gg) (hv : Ev ta σ H v) (hr : RowAt K H v rs) (hl : rs.length ≤ 1000) (hp : Ev tb σ H (.int (p : Int))) (hc : C rs p) : EvR K (tCall sp [] X (tCons ta (tCons tb tNil))) σ H (gg rs p) := fun H1 e1 Q q => hv H1 e1 _ fun H2 e2 => hp H2 (e1.trans e2) _ fun H3 e3 => by
  subst hs
  exact ⟨v, rs, p, rfl, hr.ex (e1.trans (e2.trans e3)), hl, hc, fun z H4 e4 hz => q z H4 ((e2.trans e3).trans e4) hz⟩
end
end HH
set_option maxHeartbeats 4000000
namespace HH
open PySem PySem.Spec PyProof.Rows L2 Evl RZ
/-! forth and back -/
theorem swap_swap {l : List Nat} {p : Nat} (h : p + 1 < l.length) : swapL (swapL l p) p = l := by
  obtain ⟨A, a, b, B, rfl, ha⟩ : ∃ A a b B, l = A ++ a :: b :: B ∧ A.length = p := ⟨l.take p, l[p], l[p + 1], l.drop (p + 2), by
    rw [← List.drop_eq_getElem_cons (by omega), ← List.drop_eq_getElem_cons (by omega), List.take_append_drop], by rw [List.length_take]; omega⟩
  subst ha
  rw [swap_split, swap_split]
theorem led_pair {rs : HH.Row} {l : List Nat} {p k : Nat} (h0 : 0 < p) (hp : p < rs.length) (hl : l.length = rs.length) (hm : letsN rs p = true) : ledK (rs, l) [(true, (p : Int)), (false, (p : Int) - 1)] k = .inr (rs, l) := by
  obtain ⟨b1, b2, b3⟩ := pass_then h0 hp hm
  have c1 : canZ rs (true, (p : Int)) = true := by
    show letsZ rs (p : Int) = true
    rw [letsZ_nat hp]
    exact hm
  have e1 : movZ rs (true, (p : Int)) = passR rs p := rfl
  have e2 : atZ (true, (p : Int)) = p - 1 := rfl
  have ei : (p : Int) - 1 = ((p - 1 : Nat) : Int) := by omega
  have c2 : canZ (passR rs p) (false, (p : Int) - 1) = true := by
    show fallsZ (passR rs p) ((p : Int) - 1) = true
    rw [ei, fallsZ_nat, b1, b3, decide_eq_true (by omega)]
    rfl
  have e3 : movZ (passR rs p) (false, (p : Int) - 1) = rs := by
    rw [ei]
    exact b2
  have e4 : atZ (false, (p : Int) - 1) = p - 1 := by
    rw [ei]
    rfl
  show (if canZ rs (true, (p : Int)) = true then _ else _) = _
  rw [if_pos c1, e1, e2]
  show (if canZ (passR rs p) (false, (p : Int) - 1) = true then _ else _) = _
  rw [if_pos c2]
  show Sum.inr (movZ (passR rs p) (false, (p : Int) - 1), swapL (swapL l (p - 1)) (atZ (false, (p : Int) - 1))) = _
  rw [e3, e4, swap_swap (by omega)]
def forth (p m : Nat) : List ZD := (List.replicate m [(true, (p : Int)), (false, (p : Int) - 1)]).flatten
theorem forth_len (p : Nat) : ∀ m, (forth p m).length = 2 * m
  | 0 => rfl
  | m + 1 => by
    unfold forth
    rw [List.replicate_succ, List.flatten_cons, List.length_append, show (List.replicate m [((true : Bool), (p : Int)), (false, (p : Int) - 1)]).flatten = forth p m from rfl, forth_len p m]
    show 2 + 2 * m = 2 * (m + 1)
    omega
theorem led_forth {rs : HH.Row} {l : List Nat} {p : Nat} (h0 : 0 < p) (hp : p < rs.length) (hl : l.length = rs.length) (hm : letsN rs p = true) : ∀ m k, ledK (rs, l) (forth p m) k = .inr (rs, l)
  | 0, k => rfl
  | m + 1, k => by
    have e : forth p (m + 1) = [(true, (p : Int)), (false, (p : Int) - 1)] ++ forth p m := by
      unfold forth
      rw [List.replicate_succ, List.flatten_cons]
    rw [e, ledK_app, led_pair h0 hp hl hm]
    exact led_forth h0 hp hl hm m _
theorem led_beyond {rs : HH.Row} {l : List Nat} {p : Nat} (h0 : 0 < p) (hp : p < rs.length) (hl : l.length = rs.length) (hm : letsN rs p = true) (m : Nat) : ledK (rs, l) (forth p m ++ [(true, 0), (false, -1)]) 0 = .inl (2 * m) := by
  rw [ledK_app, led_forth h0 hp hl hm, forth_len]
  have c : canZ rs (true, 0) = false := by
    show letsZ rs 0 = false
    unfold letsZ
    rw [decide_eq_false (by omega), Bool.false_and]
  show (if canZ rs (true, 0) = true then _ else Sum.inl (0 + 2 * m)) = _
  rw [if_neg (by rw [c]; decide), Nat.zero_add]
theorem passR_at {rs : HH.Row} {p : Nat} (h0 : 0 < p) (hp : p < rs.length) : (passR rs p)[p - 1]? = some (sS rs p - tS rs (p - 1), tS rs p) ∧ (passR rs p)[p]? = some (sS rs (p - 1), tS rs (p - 1)) := by
  have lt : (rs.take (p - 1)).length = p - 1 := by rw [List.length_take]; omega
  unfold passR
  rw [List.append_assoc]
  constructor
  · rw [List.getElem?_append_right (by omega), lt, Nat.sub_self]
    rfl
  · rw [List.getElem?_append_right (by omega), lt, show p - (p - 1) = 1 by omega]
    rfl
theorem led_again {rs : HH.Row} {l : List Nat} {p : Nat} (tl : ∀ b ∈ rs, 0 ≤ b.2) (h0 : 0 < p) (hp : p < rs.length) (hl : l.length = rs.length) (hm : letsN rs p = true) (m : Nat) : ledK (rs, l) ((forth p (m + 1)).dropLast ++ [(true, (p : Int))]) 0 = .inl (2 * m + 1) := by
  have e : (forth p (m + 1)).dropLast = forth p m ++ [(true, (p : Int))] := by
    unfold forth
    rw [List.replicate_succ', List.flatten_append]
    show ((List.replicate m [((true : Bool), (p : Int)), (false, (p : Int) - 1)]).flatten ++ [(true, (p : Int)), (false, (p : Int) - 1)]).dropLast = _
    rw [show ((List.replicate m [((true : Bool), (p : Int)), (false, (p : Int) - 1)]).flatten ++ [(true, (p : Int)), (false, (p : Int) - 1)]) = ((List.replicate m [((true : Bool), (p : Int)), (false, (p : Int) - 1)]).flatten ++ [(true, (p : Int))]) ++ [(false, (p : Int) - 1)] by simp, List.dropLast_concat]
  have c1 : canZ rs (true, (p : Int)) = true := by
    show letsZ rs (p : Int) = true
    rw [letsZ_nat hp]
    exact hm
  have c2 : canZ (passR rs p) (true, (p : Int)) = false := by
    show letsZ (passR rs p) (p : Int) = false
    rw [letsZ_nat (by rw [passR_len h0 hp]; exact hp)]
    obtain ⟨g1, g2⟩ := passR_at h0 hp
    unfold letsN
    rw [sS_of g1, sS_of g2, tS_of g1]
    have hm' := hm
    unfold letsN at hm'
    have h1 := of_decide_eq_true (Bool.and_eq_true_iff.mp hm').2
    have h2 := tl _ (List.mem_of_getElem? (row_get hp))
    dsimp only at h2 ⊢
    rw [decide_eq_true h0, Bool.true_and]
    exact decide_eq_false (by omega)
  rw [e, List.append_assoc, ledK_app, led_forth h0 hp hl hm, forth_len]
  show (if canZ rs (true, (p : Int)) = true then _ else _) = _
  rw [if_pos c1]
  show (if canZ (passR rs p) (true, (p : Int)) = true then _ else Sum.inl (0 + 2 * m + 1)) = _
  rw [if_neg (by rw [c2]; decide), Nat.zero_add]
/-! lists of deeds -/
def EvDz (K : PySem.W.Frag) (te : TE) (σ : L2.St) (H : Hp) (d : ZD) : Prop := ∀ H1, Ex H H1 → ∀ Q : VK, (∀ v H2, Ex H1 H2 → DeedZ K H2 v d → Q v H2) → te σ H1 Q
def EvZ (K : PySem.W.Frag) (te : TE) (σ : L2.St) (H : Hp) (ds : List ZD) : Prop := ∀ H1, Ex H H1 → ∀ Q : VK, (∀ (q : Addr) (us : List V) (H2 : Hp), H1 q = none → Ex H1 H2 → H2 q = some (.lst us) → DeedsZ K H2 us ds → Q (.ref q) H2) → te σ H1 Q
def SrcZ (K : PySem.W.Frag) (te : TE) (σ : L2.St) (H : Hp) (ds : List ZD) : Prop := ∀ H1, Ex H H1 → ∀ Q : VK, (∀ (q : Addr) (us : List V) (H2 : Hp), Ex H1 H2 → H2 q = some (.lst us) → DeedsZ K H2 us ds → Q (.ref q) H2) → te σ H1 Q
section
variable {K : PySem.W.Frag} {σ : L2.St} {H : Hp} {te ta tb tc td : TE} {D : Ends}
theorem sz_new {ds : List ZD} (h : EvZ K te σ H ds) : SrcZ K te σ H ds := fun H1 e1 Q q => h H1 e1 Q fun a us H2 _ e2 g b => q a us H2 e2 g b
theorem sz_val {ds : List ZD} {a : Addr} {us : List V} (h : Ev te σ H (.ref a)) (g : H a = some (.lst us)) (b : DeedsZ K H us ds) : SrcZ K te σ H ds := fun H1 e1 Q q => h H1 e1 _ fun H2 e2 => q a us H2 e2 ((e1.trans e2) _ _ g) (b.ex' (e1.trans e2))
theorem ez_tup {w : Bool} {i : Int} (h : Ev te σ H (.int i)) : EvDz K (tTup (tCons (tC (.str (wordOf w))) (tCons te tNil))) σ H (w, i) := fun H1 e1 Q q => h H1 e1 _ fun H2 e2 => ⟨by show 2 ≤ sizeLine; decide, fun p hp => q _ _ (e2.trans (Ex.new hp)) ⟨p, rfl, st_of upd_same⟩⟩
theorem ez_val {v : V} {d : ZD} (h : Ev te σ H v) (b : DeedZ K H v d) : EvDz K te σ H d := fun H1 e1 Q q => h H1 e1 _ fun H2 e2 => q v H2 e2 (b.ex (e1.trans e2))
theorem ez_nil : EvZ K (tLst tNil) σ H [] := fun H1 e1 Q q => ⟨by show 0 ≤ sizeLine; decide, fun c hc => q c [] _ hc (Ex.new hc) upd_same .nil⟩
theorem ez_one {d : ZD} (h : EvDz K ta σ H d) : EvZ K (tLst (tCons ta tNil)) σ H [d] := fun H1 e1 Q q => h H1 e1 _ fun v H2 e2 hv => ⟨by show 1 ≤ sizeLine; decide, fun c hc => q c [v] _ (fresh_back e2 hc) (e2.trans (Ex.new hc)) upd_same (.cons (hv.ex (Ex.new hc)) .nil)⟩
theorem ez_two {d d' : ZD} (h : EvDz K ta σ H d) (h' : EvDz K tb σ H d') : EvZ K (tLst (tCons ta (tCons tb tNil))) σ H [d, d'] := fun H1 e1 Q q => h H1 e1 _ fun v H2 e2 hv => h' H2 (e1.trans e2) _ fun u H3 e3 hu => ⟨by show 2 ≤ sizeLine; decide, fun c hc => q c [v, u] _ (fresh_back (e2.trans e3) hc) ((e2.trans e3).trans (Ex.new hc)) upd_same (.cons (hv.ex (e3.trans (Ex.new hc))) (.cons (hu.ex (Ex.new hc)) .nil))⟩
theorem ez_cat {ds es : List ZD} (ha : SrcZ K ta σ H ds) (hb : SrcZ K tb σ H es) (hl : ds.length + es.length ≤ 10000) : EvZ K (tOp rCat ta tb) σ H (ds ++ es) := fun H1 e1 Q q =>
  ha H1 e1 _ fun a us H2 e2 g2 b2 => hb H2 (e1.trans e2) _ fun c ws H3 e3 g3 b3 => ⟨a, c, us, ws, rfl, rfl, e3 _ _ g2, g3, sz_of (by rw [All2.len b2, All2.len b3]; omega), fun z hz => q z _ _ (fresh_back (e2.trans e3) hz) ((e2.trans e3).trans (Ex.new hz)) upd_same (All2.app (b2.ex' (e3.trans (Ex.new hz))) (b3.ex' (Ex.new hz)))⟩
theorem all2_take {α : Type} {R : V → α → Prop} : ∀ {us : List V} {xs : List α} (n : Nat), All2 R us xs → All2 R (us.take n) (xs.take n)
  | _, _, 0, _ => by rw [List.take_zero, List.take_zero]; exact .nil
  | _, _, _ + 1, .nil => .nil
  | _, _, n + 1, .cons a b => .cons a (all2_take n b)
theorem all2_drop {α : Type} {R : V → α → Prop} : ∀ {us : List V} {xs : List α} (n : Nat), All2 R us xs → All2 R (us.drop n) (xs.drop n)
  | _, _, 0, h => h
  | _, _, _ + 1, .nil => .nil
  | _, _, n + 1, .cons a b => all2_drop n b
theorem ez_to {ds : List ZD} {j : Nat} (h : SrcZ K te σ H ds) (hi : Ev ta σ H (.int (j : Int))) : EvZ K (tSl (rSlL K) te tNoPart (tPart ta)) σ H (ds.take j) := fun H1 e1 Q q =>
  h H1 e1 _ fun a us H2 e2 g2 b2 => hi H2 (e1.trans e2) _ fun H3 e3 => ⟨_, rfl, a, us, rfl, sq_of (e3 _ _ g2), fun z hz => q z _ _ (fresh_back (e2.trans e3) hz) ((e2.trans e3).trans (Ex.new hz)) upd_same (by
    rw [cut_to]
    exact all2_take j (b2.ex' (e3.trans (Ex.new hz))))⟩
theorem ez_from {ds : List ZD} {j : Nat} (h : SrcZ K te σ H ds) (hi : Ev ta σ H (.int (j : Int))) : EvZ K (tSl (rSlL K) te (tPart ta) tNoPart) σ H (ds.drop j) := fun H1 e1 Q q =>
  h H1 e1 _ fun a us H2 e2 g2 b2 => hi H2 (e1.trans e2) _ fun H3 e3 => ⟨_, rfl, a, us, rfl, sq_of (e3 _ _ g2), fun z hz => q z _ _ (fresh_back (e2.trans e3) hz) ((e2.trans e3).trans (Ex.new hz)) upd_same (by
    rw [cut_from]
    exact all2_drop j (b2.ex' (e3.trans (Ex.new hz))))⟩
theorem cut_init (xs : List V) (h : 0 < xs.length) : cutV xs none (some (-1)) = xs.take (xs.length - 1) := by
  have e : ((xs.length - 1 : Nat) : Int) = (xs.length : Int) - 1 := by omega
  rw [← cut_to]
  unfold cutV
  have : HT.sIx xs.length xs.length (some (-1)) = HT.sIx xs.length xs.length (some ((xs.length - 1 : Nat) : Int)) := by
    unfold HT.sIx
    simp only
    split <;> split <;> omega
  rw [this]
theorem ez_init {ds : List ZD} (h : SrcZ K te σ H ds) (hi : Ev ta σ H (.int (-1))) (h0 : 0 < ds.length) : EvZ K (tSl (rSlL K) te tNoPart (tPart ta)) σ H ds.dropLast := fun H1 e1 Q q =>
  h H1 e1 _ fun a us H2 e2 g2 b2 => hi H2 (e1.trans e2) _ fun H3 e3 => ⟨_, rfl, a, us, rfl, sq_of (e3 _ _ g2), fun z hz => q z _ _ (fresh_back (e2.trans e3) hz) ((e2.trans e3).trans (Ex.new hz)) upd_same (by
    rw [cut_init us (by rw [All2.len b2]; exact h0), List.dropLast_eq_take, All2.len b2]
    exact all2_take _ (b2.ex' (e3.trans (Ex.new hz))))⟩
theorem q_asgZ {i : Nat} {ds : List ZD} {tz : TS} (h : EvZ K te σ H ds) (k : ∀ a us H1, H a = none → Ex H H1 → H1 a = some (.lst us) → DeedsZ K H1 us ds → tz D (σ.set i (some (.ref a))) H1) : tSeq (tAsg te (gName i)) tz D σ H := h H (Ex.refl H) _ k
theorem all2_rep {α : Type} {R : V → α → Prop} {us : List V} {xs : List α} (h : All2 R us xs) : ∀ m : Nat, All2 R (List.replicate m us).flatten (List.replicate m xs).flatten
  | 0 => .nil
  | m + 1 => by
    rw [List.replicate_succ, List.replicate_succ, List.flatten_cons, List.flatten_cons]
    exact All2.app h (all2_rep h m)
theorem ez_rep {ds : List ZD} {m : Nat} (h : SrcZ K te σ H ds) (hm : m ≤ 1000) (hl : ds.length ≤ 50) : EvZ K (tOp rRep te (tC (.int (m : Int)))) σ H (List.replicate m ds).flatten := fun H1 e1 Q q =>
  h H1 e1 _ fun a us H2 e2 g2 b2 => ⟨a, (m : Int), us, rfl, rfl, g2, by omega, by omega, by
    rw [Int.toNat_natCast, All2.len b2]
    have := Nat.mul_le_mul hl hm
    exact sz_of (by omega), fun c hc => q c _ _ (fresh_back e2 hc) (e2.trans (Ex.new hc)) upd_same (by
      rw [Int.toNat_natCast]
      exact all2_rep (b2.ex' (Ex.new hc)) m)⟩
def EvO' (K : PySem.W.Frag) (te : TE) (σ : L2.St) (H : Hp) (l : List Nat) : Prop := ∀ H1, Ex H H1 → ∀ Q : VK, (∀ (t : Addr) (H2 : Hp), Ex H1 H2 → SqT K H2 t (natsV l) → Q (.ref t) H2) → te σ H1 Q
theorem er_gone {v : V} {rs : HH.Row} {ds : List ZD} {s : StZ} {X : XK} {C : Addr} (hv : Ev ta σ H v) (hr : RowAt K H v rs) (hl : rs.length ≤ 1000) (hz : SrcZ K tb σ H ds) (hd : ds.length ≤ 1000) (hs : ledK (rs, List.range rs.length) ds 0 = .inr s) : EvR K (tCall (spPickX K C true) [] X (tCons ta (tCons tb tNil))) σ H s.1 := fun H1 e1 Q q =>
  hv H1 e1 _ fun H2 e2 => hz H2 (e1.trans e2) _ fun a us H3 e3 g3 b3 => ⟨v, rs, a, us, ds, rfl, hr.ex (e1.trans (e2.trans e3)), hl, .inl (sq_of g3), b3, hd, fun s' hs' v' H4 e4 pk => by
    rw [hs] at hs'
    cases hs'
    exact q v' H4 ((e2.trans e3).trans e4) pk, fun k hk => by rw [hs] at hk; cases hk⟩
theorem eo_behind {v : V} {rs : HH.Row} {ds : List ZD} {s : StZ} {X : XK} {C : Addr} (hv : Ev ta σ H v) (hr : RowAt K H v rs) (hl : rs.length ≤ 1000) (hz : SrcZ K tb σ H ds) (hd : ds.length ≤ 1000) (hs : ledK (rs, List.range rs.length) ds 0 = .inr s) : EvO' K (tCall (spPickX K C false) [] X (tCons ta (tCons tb tNil))) σ H s.2 := fun H1 e1 Q q =>
  hv H1 e1 _ fun H2 e2 => hz H2 (e1.trans e2) _ fun a us H3 e3 g3 b3 => ⟨v, rs, a, us, ds, rfl, hr.ex (e1.trans (e2.trans e3)), hl, .inl (sq_of g3), b3, hd, fun s' hs' v' H4 e4 pk => by
    rw [hs] at hs'
    cases hs'
    obtain ⟨t, rfl, ht⟩ := pk
    exact q t H4 ((e2.trans e3).trans e4) ht, fun k hk => by rw [hs] at hk; cases hk⟩
theorem ev_toldN {pick : Bool} {f1 f2 : Addr} {v : V} {rs : HH.Row} {ds : List ZD} {k : Nat} {X : XK} (hf : Ev tc σ H (.ref (if pick = true then f1 else f2))) (hv : Ev ta σ H v) (hr : RowAt K H v rs) (hl : rs.length ≤ 1000) (hz : SrcZ K tb σ H ds) (hd : ds.length ≤ 1000) (hk : ledK (rs, List.range rs.length) ds 0 = .inl k) : Ev (tCall (spToldL K f1 f2) [] X (tCons tc (tCons ta (tCons tb tNil)))) σ H (.int (k : Int)) := fun H1 e1 Q q =>
  hf H1 e1 _ fun H0 e0 => hv H0 (e1.trans e0) _ fun H2 e2 => hz H2 ((e1.trans e0).trans e2) _ fun a us H3 e3 g3 b3 => ⟨pick, v, rs, a, us, ds, rfl, hr.ex ((e1.trans e0).trans (e2.trans e3)), hl, .inl (sq_of g3), b3, hd, (fun s hs => by rw [hk] at hs; cases hs), fun k' hk' H4 e4 => by
    rw [hk] at hk'
    cases hk'
    exact q H4 (e0.trans ((e2.trans e3).trans e4))⟩
theorem q_told3 {t1 t2 t3 : TE} {i : Nat} {rs : HH.Row} {l : List Nat} {x : V} {tz : TS} (h1 : EvR K t1 σ H rs) (h2 : EvO' K t2 σ H l) (h3 : Ev t3 σ H x) (k : ∀ c v1 o2 H1, H c = none → Ex H H1 → H1 c = some (.lst [v1, .ref o2, x]) → RowAt K H1 v1 rs → SqT K H1 o2 (natsV l) → tz D (σ.set i (some (.ref c))) H1) : tSeq (tAsg (tLst (tCons t1 (tCons t2 (tCons t3 tNil)))) (gName i)) tz D σ H :=
  h1 H (Ex.refl H) _ fun v1 H1 e1 r1 => h2 H1 e1 _ fun o2 H2 e2 g2 => h3 H2 (e1.trans e2) _ fun H3 e3 => ⟨by show 3 ≤ sizeLine; decide, fun c hc => k c v1 o2 _ (fresh_back ((e1.trans e2).trans e3) hc) (((e1.trans e2).trans e3).trans (Ex.new hc)) upd_same (r1.ex ((e2.trans e3).trans (Ex.new hc))) (ex_t (e3.trans (Ex.new hc)) g2)⟩
theorem alike_4 {d : Nat} {a b : Addr} {x1 x2 x3 x4 y1 y2 y3 y4 : V} (h : SqL K H a [x1, x2, x3, x4]) (g : SqL K H b [y1, y2, y3, y4]) (h1 : Alike K H d x1 y1) (h2 : Alike K H d x2 y2) (h3 : Alike K H d x3 y3) (h4 : Alike K H d x4 y4) : Alike K H (d + 1) (.ref a) (.ref b) := .inr ⟨a, b, _, _, rfl, rfl, .inl ⟨h, g⟩, rfl, by show 4 ≤ 40000; decide, fun i u w hu hw => by
  match i, hu, hw with
  | 0, hu, hw => cases hu; cases hw; exact h1
  | 1, hu, hw => cases hu; cases hw; exact h2
  | 2, hu, hw => cases hu; cases hw; exact h3
  | 3, hu, hw => cases hu; cases hw; exact h4
  | i + 4, hu, _ => cases hu⟩
end
def spSwing (K : PySem.W.Frag) : Sp := fun vs H Q _ => ∃ (p : Addr) (v : V) (rs : HH.Row) (n : Nat), vs = [.ref p, v] ∧ RowAt K H v rs ∧ rs.length ≤ 30 ∧ (∀ b ∈ rs, 0 ≤ b.2) ∧ Bx H p n ∧ n + 1 < Lim ∧ ∀ H', ExB p H H' → Bx H' p (n + 1) → Q (.bl true) H'
end HH
set_option maxHeartbeats 4000000
namespace HH
open PySem PySem.Spec PyProof.Rows L2 Evl RZ
/-! what is done, what is told, by one word -/
def DueV (K : PySem.W.Frag) (H : Hp) (y : V) : Nat ⊕ StZ → Prop
  | .inr s => ∃ (q : Addr) (v' : V) (t : Addr), y = .ref q ∧ H q = some (.tup [v', .ref t]) ∧ RowAt K H v' s.1 ∧ SqT K H t (natsV s.2)
  | .inl k => y = .int (k : Int)
def ToldV (K : PySem.W.Frag) (H : Hp) (pick : Bool) (y : V) : Nat ⊕ StZ → Prop
  | .inr s => Picked K H pick y s
  | .inl k => y = .int (k : Int)
theorem ToldV.ex {K : PySem.W.Frag} {H H' : Hp} {pick : Bool} {y : V} {r : Nat ⊕ StZ} (h : ToldV K H pick y r) (e : Ex H H') : ToldV K H' pick y r := by
  cases r with
  | inl k => exact h
  | inr s => exact Picked.ex h e
theorem DueV.ex {K : PySem.W.Frag} {H H' : Hp} {y : V} {r : Nat ⊕ StZ} (h : DueV K H y r) (e : Ex H H') : DueV K H' y r := by
  cases r with
  | inl k => exact h
  | inr s =>
    obtain ⟨q, v', t, h1, h2, h3, h4⟩ := h
    exact ⟨q, v', t, h1, e _ _ h2, h3.ex e, ex_t e h4⟩
def spDone2 (K : PySem.W.Frag) : Sp := fun vs H Q _ => ∃ (v : V) (rs : HH.Row) (c : Addr) (us : List V) (ds : List ZD), vs = [v, .ref c] ∧ RowAt K H v rs ∧ rs.length ≤ 1000 ∧ SqA K H c us ∧ DeedsZ K H us ds ∧ ds.length ≤ 1000 ∧ ∀ y H', Ex H H' → DueV K H' y (ledK (rs, List.range rs.length) ds 0) → Q y H'
def spTold2 (K : PySem.W.Frag) (f1 f2 : Addr) : Sp := fun vs H Q _ => ∃ (pick : Bool) (v : V) (rs : HH.Row) (c : Addr) (us : List V) (ds : List ZD), vs = [.ref (if pick then f1 else f2), v, .ref c] ∧ RowAt K H v rs ∧ rs.length ≤ 1000 ∧ SqA K H c us ∧ DeedsZ K H us ds ∧ ds.length ≤ 1000 ∧ ∀ y H', Ex H H' → ToldV K H' pick y (ledK (rs, List.range rs.length) ds 0) → Q y H'
theorem done_2 {K : PySem.W.Frag} : ∀ vs H Q E, spDone2 K vs H Q E → spDoneZ K vs H Q E := fun vs H Q E ⟨v, rs, c, us, ds, h1, h2, h3, h4, h5, h6, q⟩ => ⟨v, rs, c, us, ds, h1, h2, h3, h4, h5, h6, fun s hs qq v' t H' e g r o => q _ H' e (by rw [hs]; exact ⟨qq, v', t, rfl, g, r, o⟩), fun k hk H' e => q _ H' e (by rw [hk]; exact rfl)⟩
theorem told_2 {K : PySem.W.Frag} {f1 f2 : Addr} : ∀ vs H Q E, spTold2 K f1 f2 vs H Q E → spToldL K f1 f2 vs H Q E := fun vs H Q E ⟨pick, v, rs, c, us, ds, h1, h2, h3, h4, h5, h6, q⟩ => ⟨pick, v, rs, c, us, ds, h1, h2, h3, h4, h5, h6, fun s hs v' H' e pk => q _ H' e (by rw [hs]; exact pk), fun k hk H' e => q _ H' e (by rw [hk]; exact rfl)⟩
theorem alike_told {K : PySem.W.Frag} {H : Hp} {pick : Bool} {x y : V} {r : Nat ⊕ StZ} (hr : ∀ s, r = .inr s → s.1.length ≤ 40000 ∧ s.2.length ≤ 40000) (h : ToldV K H pick x r) (g : ToldV K H pick y r) : Alike K H 3 x y := by
  cases r with
  | inl k =>
    have h : x = .int (k : Int) := h
    have g : y = .int (k : Int) := g
    rw [h, g]
    exact .inl ⟨rfl, True.intro⟩
  | inr s =>
    obtain ⟨h1, h2⟩ := hr s rfl
    cases pick with
    | true => exact alike_row h1 h g
    | false =>
      obtain ⟨t, rfl, ht⟩ := h
      obtain ⟨u, rfl, hu⟩ := g
      exact (alike_ints h2 ht hu).up
theorem led_lens : ∀ {ds : List ZD} {s s' : StZ} {k : Nat}, s.1.length = s.2.length → ledK s ds k = .inr s' → s'.1.length = s.1.length ∧ s'.2.length = s.2.length
  | [], s, s', k, _, h => by
    cases h
    exact ⟨rfl, rfl⟩
  | d :: ds, s, s', k, hl, h => by
    have h : (if canZ s.1 d = true then ledK (movZ s.1 d, swapL s.2 (atZ d)) ds (k + 1) else .inl k) = .inr s' := h
    by_cases c : canZ s.1 d = true
    · rw [if_pos c] at h
      obtain ⟨m1, m2⟩ := mov_len c
      have sl := swapL_len (l := s.2) (p := atZ d) (by omega)
      obtain ⟨a, b⟩ := led_lens (by rw [m1, sl]; exact hl) h
      exact ⟨by rw [a, m1], by rw [b, sl]⟩
    · rw [if_neg c] at h
      cases h
/-! the repr of a row and deeds -/
def dzD (d : ZD) : PyData := .tuple [.str (wordOf d.1), .int d.2]
def penD (rs : HH.Row) (ds : List ZD) : PyData := .list [rowD rs, .list (ds.map dzD)]
theorem dz_dp {K : PySem.W.Frag} {H : Hp} : ∀ {us : List V} {ds : List ZD}, DeedsZ K H us ds → DpAll K H us (ds.map dzD)
  | _, _, .nil => .nil
  | _, _, .cons a b => by
    obtain ⟨p, rfl, h2⟩ := a
    exact .cons (.tup h2 (.cons (.str _) (.cons (.int _) .nil))) (dz_dp b)
theorem shw_word (b : Bool) : Shw 30 (.str (wordOf b)) := by
  refine ⟨by simp [PyData.showable], ?_⟩
  simp only [PyData.shown]
  cases b <;> decide +kernel
theorem shw_dz {d : ZD} (h : d.2.natAbs < 10 ^ 18) : Shw 74 (dzD d) := (shw_tuple (n := 30) fun x hx => by
  rcases List.mem_cons.mp hx with rfl | hx
  · exact shw_word _
  · cases List.mem_singleton.mp hx
    exact (shw_int h).le (by decide)).le (by show (30 + 2) * 2 + 10 ≤ 74; decide)
theorem nice_dz (d : ZD) : Nice 1 (dzD d) := by
  refine nice_tuple fun x hx => ?_
  rcases List.mem_cons.mp hx with rfl | hx
  · exact ⟨by simp only [PyData.canLay0]; exact word_ok d.1, by simp [PyData.depth]⟩
  · cases List.mem_singleton.mp hx
    exact nice_ints [d.2] _ (List.mem_singleton.mpr rfl)
theorem repr3_is {K : PySem.W.Frag} {rs : HH.Row} {ds : List ZD} (low : ∀ b ∈ rs, Low b) (hl : rs.length ≤ 100) (hx : ∀ d ∈ ds, d.2.natAbs < 10 ^ 18) (hy : ds.length ≤ 200) :
    ∃ txt : Str, ∀ {σ : L2.St} {H : Hp} {ta tb : TE} {v : V} {o : Addr} {us : List V}, Ev ta σ H v → RowAt K H v rs → Ev tb σ H (.ref o) → H o = some (.lst us) → DeedsZ K H us ds → Ev (tCB (fun xs H Q => ∃ (a : Addr) (d : PyData), xs = [.ref a] ∧ Dp K H (.ref a) d ∧ Nice 60 d ∧ d.showable = true ∧ d.shown.length ≤ sizeLine ∧ Q (.str d.shown) H) (tCons (tLst (tCons ta (tCons tb tNil))) tNil)) σ H (.str txt) :=
  ⟨(penD rs ds).shown, fun {σ H ta tb v o us} h1 hv h2 ho hd H1 e1 Q q =>
  h1 H1 e1 _ fun H2 e2 => h2 H2 (e1.trans e2) _ fun H3 e3 => ⟨by show 2 ≤ sizeLine; decide, fun c hc => by
    have nc := Ex.new (o := .lst [v, .ref o]) hc
    have e := ((e1.trans e2).trans e3).trans nc
    obtain ⟨a, rfl, hdp⟩ := (hv.ex e).dp
    have n1 : Nice 3 (penD rs ds) := nice_list fun d hd => by
      rcases List.mem_cons.mp hd with rfl | hd
      · exact nice_row rs
      · cases List.mem_singleton.mp hd
        refine nice_mono (nice_list (k := 1) fun x hx => ?_) (by decide)
        obtain ⟨y, _, rfl⟩ := List.mem_map.mp hx
        exact nice_dz y
    have s1 : Shw 35000 (penD rs ds) := (shw_list (n := 17000) fun d hd => by
      rcases List.mem_cons.mp hd with rfl | hd
      · exact (shw_row low).le (by omega)
      · cases List.mem_singleton.mp hd
        refine (shw_list (n := 74) fun x hx' => ?_).le (by rw [List.length_map]; omega)
        obtain ⟨y, hy', rfl⟩ := List.mem_map.mp hx'
        exact shw_dz (hx y hy')).le (by show (17000 + 2) * 2 + 10 ≤ 35000; decide)
    refine ⟨c, penD rs ds, rfl, .lst (sq_of upd_same) (.cons hdp (.cons (.lst (sq_of (e _ _ ho)) (dz_dp (hd.ex' e))) .nil)), nice_mono n1 (by decide), s1.1, sz_of (Nat.le_trans s1.2 (by decide)), ?_⟩
    exact q _ ((e2.trans e3).trans nc)⟩⟩
/-! a loop over four lists of deeds -/
section
variable {K : PySem.W.Frag} {σ : L2.St} {H : Hp} {te ta tb tc td : TE} {D : Ends}
theorem q_forZ4 {d1 d2 d3 d4 : List ZD} {j : Nat} {tu tz : TS} (h1 : SrcZ K ta σ H d1) (h2 : SrcZ K tb σ H d2) (h3 : SrcZ K tc σ H d3) (h4 : SrcZ K td σ H d4) (R : L2.St → Prop) (hR : R σ)
    (body : ∀ HX ds, ds ∈ [d1, d2, d3, d4] → ∀ a us σ' H', Ex H HX → Ex HX H' → R σ' → H' a = some (.lst us) → DeedsZ K H' us ds → tu { D with nx := fun σ2 H2 => R σ2 ∧ Ex HX H2, ct := fun σ2 H2 => R σ2 ∧ Ex HX H2, bk := tz D } (σ'.set j (some (.ref a))) H') (hd : ∀ σ' H', Ex H H' → R σ' → tz D σ' H') :
    tSeq (tFor (iTup K (tTup (tCons ta (tCons tb (tCons tc (tCons td tNil)))))) (gName j) tu) tz D σ H :=
  h1 H (Ex.refl H) _ fun a1 u1 H1 e1 g1 b1 => h2 H1 e1 _ fun a2 u2 H2 e2 g2 b2 => h3 H2 (e1.trans e2) _ fun a3 u3 H3 e3 g3 b3 => h4 H3 (e1.trans (e2.trans e3)) _ fun a4 u4 H4 e4 g4 b4 => ⟨by show 4 ≤ sizeLine; decide, fun T hT => ⟨T, rfl, ⟨_, st_of upd_same⟩, by
    have nT := Ex.new (o := .tup [V.ref a1, .ref a2, .ref a3, .ref a4]) hT
    have gT : (upd H4 T (.tup [V.ref a1, .ref a2, .ref a3, .ref a4])) T = some (.tup [V.ref a1, .ref a2, .ref a3, .ref a4]) := upd_same
    have f4 := nT
    have f3 := e4.trans nT
    have f2 := e3.trans f3
    have f1 := e2.trans f2
    have f0 := e1.trans f1
    generalize upd H4 T (.tup [V.ref a1, .ref a2, .ref a3, .ref a4]) = HX at nT gT f4 f3 f2 f1 f0 ⊢
    refine for_it (walk_tup (xs := [V.ref a1, .ref a2, .ref a3, .ref a4])) (fun _ σ2 H2 => R σ2 ∧ Ex HX H2) ⟨hR, Ex.refl HX⟩ (fun i σ' H' _ p => st_of (p.2 _ _ gT)) (fun i x σ' H' H'' hi p y => ?_) (fun σ' H' p => hd σ' H' (f0.trans p.2) p.1)
    obtain ⟨rfl, hx⟩ := y
    obtain ⟨p1, p2⟩ := p
    match i, hx with
    | 0, hx =>
      cases hx
      exact body HX d1 (by simp) a1 u1 σ' H'' f0 p2 p1 ((f1.trans p2) _ _ g1) (b1.ex' (f1.trans p2))
    | 1, hx =>
      cases hx
      exact body HX d2 (by simp) a2 u2 σ' H'' f0 p2 p1 ((f2.trans p2) _ _ g2) (b2.ex' (f2.trans p2))
    | 2, hx =>
      cases hx
      exact body HX d3 (by simp) a3 u3 σ' H'' f0 p2 p1 ((f3.trans p2) _ _ g3) (b3.ex' (f3.trans p2))
    | 3, hx =>
      cases hx
      exact body HX d4 (by simp) a4 u4 σ' H'' f0 p2 p1 ((f4.trans p2) _ _ g4) (b4.ex' (f4.trans p2))
    | i + 4, hx => cases hx⟩⟩
end
end HH
namespace HH
open PySem PySem.Spec PyProof.Rows L2 Evl RZ
section
variable {K : PySem.W.Frag} {σ : L2.St} {H : Hp} {te ta tb tc td : TE} {D : Ends}
/-! lists of deeds, one by one -/
def EvAz (K : PySem.W.Frag) (ta : TA) (σ : L2.St) (H : Hp) (ds : List ZD) : Prop := ∀ H1, Ex H H1 → ∀ Q : List V → Hp → Prop, (∀ us H2, Ex H1 H2 → DeedsZ K H2 us ds → Q us H2) → ta σ H1 Q
theorem az_nil : EvAz K tNil σ H [] := fun H1 e1 Q q => q [] H1 (Ex.refl H1) .nil
theorem az_cons {tr : TA} {d : ZD} {ds : List ZD} (h : EvDz K ta σ H d) (hr : EvAz K tr σ H ds) : EvAz K (tCons ta tr) σ H (d :: ds) := fun H1 e1 Q q => h H1 e1 _ fun v H2 e2 hv => hr H2 (e1.trans e2) _ fun us H3 e3 b => q (v :: us) H3 (e2.trans e3) (.cons (hv.ex e3) b)
theorem ez_lst {tr : TA} {ds : List ZD} (h : EvAz K tr σ H ds) (hl : ds.length ≤ 1000) : EvZ K (tLst tr) σ H ds := fun H1 e1 Q q => h H1 e1 _ fun us H2 e2 b => ⟨sz_of (by rw [All2.len b]; omega), fun c hc => q c us _ (fresh_back e2 hc) (e2.trans (Ex.new hc)) upd_same (b.ex' (Ex.new hc))⟩
theorem q_ofZ {i ib n : Nat} {ds : List ZD} {p : Addr} {tz : TS} {X : XK} (hp : σ[ib]? = some (some (.ref p))) (hz : EvZ K te σ H ds) (pos : 0 < ds.length) (few : ds.length ≤ 1000) (hb : Bx H p n) (hn : n < Lim) (k : ∀ v d H1, d ∈ ds → ExB p H H1 → Bx H1 p (n + 1) → DeedZ K H1 v d → tz D (σ.set i (some v)) H1) : tSeq (tAsg (tCall (spOf K) [] X (tCons (tVar ib) (tCons te tNil))) (gName i)) tz D σ H :=
  ⟨.ref p, hp, hz H (Ex.refl H) _ fun a us H1 ha e1 g1 b1 => ⟨p, a, us, n, rfl, sq_of g1, by rw [All2.len b1]; exact pos, by rw [All2.len b1]; omega, (hb.ne ha).symm, hb.ex e1, hn, fun r x H2 hx x2 b2 => by
    obtain ⟨d, hd, hdz⟩ := All2.get b1 hx
    obtain ⟨bl, hbl⟩ := (hb.ex e1).lst
    obtain ⟨pp, rfl, hpp⟩ := hdz
    exact k _ d H2 (List.mem_of_getElem? hd) ((ExB.of e1).trans x2) b2 ⟨pp, rfl, x2.t hbl hpp⟩⟩⟩
theorem q_both {i j : Nat} {y : V} {r : Nat ⊕ StZ} {tz : TS} (hy : σ[i]? = some (some y)) (hd : DueV K H y r) (k : ∀ b x1 x2 H1, Ex H H1 → SqT K H1 b [x1, x2] → ToldV K H1 true x1 r → ToldV K H1 false x2 r → tz D (σ.set j (some (.ref b))) H1) :
    tSeq (tAsg (tIf (tB (tCB (rIsi K) (tCons (tVar i) (tCons (tC (.ty "tuple")) tNil)))) (tVar i) (tTup (tCons (tVar i) (tCons (tVar i) tNil)))) (gName j)) tz D σ H := by
  cases r with
  | inr s =>
    obtain ⟨q, v', t, rfl, h1, h2, h3⟩ := hd
    refine (et_B (ev_isi (K := K) (σ := σ) (H := H) (te := tVar i) (b := true) (ev_var hy) (.tup (st_of h1)) (by decide +kernel))) H (Ex.refl H) _ fun H1 e1 => ?_
    exact ⟨.ref q, hy, k q v' (.ref t) H1 e1 (st_of (e1 _ _ h1)) (h2.ex e1) ⟨t, rfl, ex_t e1 h3⟩⟩
  | inl n =>
    have hd : y = .int (n : Int) := hd
    subst hd
    refine (et_B (ev_isi (K := K) (σ := σ) (H := H) (te := tVar i) (b := false) (ev_var hy) (.int _) (by decide +kernel))) H (Ex.refl H) _ fun H1 e1 => ?_
    exact ⟨_, hy, _, hy, by show 2 ≤ sizeLine; decide, fun b hb => k b _ _ _ (e1.trans (Ex.new hb)) (st_of upd_same) rfl rfl⟩
/-- told of both, beside what is due -/
theorem ev_both {f1 f2 : Addr} {v : V} {rs : HH.Row} {a b : Addr} {us : List V} {ds : List ZD} {x1 x2 : V} {X : XK} (h2 : Ev ta σ H v) (hv : RowAt K H v rs) (hl : rs.length ≤ 30) (h6 : Ev tb σ H (.ref a)) (g6 : H a = some (.lst us)) (d6 : DeedsZ K H us ds) (few : ds.length ≤ 1000) (h9 : Ev tc σ H (.ref b)) (g9 : SqT K H b [x1, x2]) (w1 : ToldV K H true x1 (ledK (rs, List.range rs.length) ds 0)) (w2 : ToldV K H false x2 (ledK (rs, List.range rs.length) ds 0)) :
    Ev (tCall (spSame K 4) [] X (tCons (tLst (tCons (tCall (spTold2 K f1 f2) [] X (tCons (tC (.ref f1)) (tCons ta (tCons tb tNil)))) (tCons (tCall (spTold2 K f1 f2) [] X (tCons (tC (.ref f2)) (tCons ta (tCons (tThen tb (kTup K)) tNil)))) tNil))) (tCons (tCB (rListS K) (tCons tc tNil)) tNil))) σ H (.bl true) := fun H1 e1 Q q =>
  h2 H1 e1 _ fun H2 e2 => h6 H2 (e1.trans e2) _ fun H3 e3 => ⟨true, v, rs, a, us, ds, rfl, hv.ex (e1.trans (e2.trans e3)), by omega, .inl (sq_of ((e1.trans (e2.trans e3)) _ _ g6)), d6.ex' (e1.trans (e2.trans e3)), few, fun y1 H4 e4 t1 =>
    h2 H4 (e1.trans (e2.trans (e3.trans e4))) _ fun H5 e5 => h6 H5 (e1.trans (e2.trans (e3.trans (e4.trans e5)))) _ fun H6 e6 => .inl ⟨a, us, rfl, sq_of ((e1.trans (e2.trans (e3.trans (e4.trans (e5.trans e6))))) _ _ g6), fun T hT => by
      have e16 := e1.trans (e2.trans (e3.trans (e4.trans (e5.trans e6))))
      have e26 := e2.trans (e3.trans (e4.trans (e5.trans e6)))
      have nT := Ex.new (o := .tup us) hT
      refine ⟨false, v, rs, T, us, ds, rfl, hv.ex (e16.trans nT), by omega, .inr (st_of upd_same), d6.ex' (e16.trans nT), few, fun y2 H7 e7 t2 => ⟨by show 2 ≤ sizeLine; decide, fun c hc => h9 _ (e16.trans (nT.trans (e7.trans (Ex.new hc)))) _ fun H8 e8 => ⟨b, _, rfl, .inr (ex_t (e16.trans (nT.trans (e7.trans ((Ex.new hc).trans e8)))) g9), fun l hl => ?_⟩⟩⟩
      have nc := Ex.new (o := .lst [y1, y2]) hc
      have gc : (upd H7 c (.lst [y1, y2])) c = some (.lst [y1, y2]) := upd_same
      have nl := Ex.new (o := .lst [x1, x2]) hl
      have all := e16.trans (nT.trans (e7.trans (nc.trans (e8.trans nl))))
      have sm : ∀ s, ledK (rs, List.range rs.length) ds 0 = .inr s → s.1.length ≤ 40000 ∧ s.2.length ≤ 40000 := fun s hs => by
        obtain ⟨q1, q2⟩ := led_lens (by rw [List.length_range]) hs
        rw [List.length_range] at q2
        dsimp only at q1
        omega
      exact ⟨_, _, rfl, alike_two (sq_of ((e8.trans nl) _ _ gc)) (sq_of upd_same) (alike_told sm (t1.ex ((e5.trans e6).trans (nT.trans (e7.trans (nc.trans (e8.trans nl)))))) (w1.ex all)) (alike_told sm (t2.ex (nc.trans (e8.trans nl))) (w2.ex all)), fun H9 e9 => q H9 (e26.trans (nT.trans (e7.trans (nc.trans (e8.trans (nl.trans e9))))))⟩⟩⟩
/-- asked by names, beside what is due -/
theorem ev_bothN {C : Addr} {v : V} {rs : HH.Row} {a b : Addr} {us : List V} {ds : List ZD} {s : StZ} {x1 : V} {o : Addr} {X : XK} (h2 : Ev ta σ H v) (hv : RowAt K H v rs) (hl : rs.length ≤ 30) (h3 : Ev tb σ H (.ref a)) (g3 : H a = some (.lst us)) (d3 : DeedsZ K H us ds) (few : ds.length ≤ 1000) (h7 : Ev tc σ H (.ref b)) (g7 : H b = some (.tup [x1, .ref o])) (hs : ledK (rs, List.range rs.length) ds 0 = .inr s) (r1 : RowAt K H x1 s.1) (r2 : SqT K H o (natsV s.2)) :
    Ev (tCall (spSame K 4) [] X (tCons (tLst (tCons (tCallN 0 2 (spPickX K C true) (fun _ zs => zs.reverse) X tNil (tCons tb (tCons ta tNil))) (tCons (tCallN 0 2 (spPickX K C false) (fun _ zs => zs.reverse) X tNil (tCons tb (tCons ta tNil))) tNil))) (tCons (tCB (rListS K) (tCons tc tNil)) tNil))) σ H (.bl true) := fun H1 e1 Q q => by
  have no : ∀ {P : Prop} (k : Nat), ledK (rs, List.range rs.length) ds 0 = .inl k → P := fun k hk => by rw [hs] at hk; cases hk
  refine h3 H1 e1 _ fun H2 e2 => h2 H2 (e1.trans e2) _ fun H3 e3 => ⟨rfl, rfl, v, rs, a, us, ds, rfl, hv.ex (e1.trans (e2.trans e3)), by omega, .inl (sq_of ((e1.trans (e2.trans e3)) _ _ g3)), d3.ex' (e1.trans (e2.trans e3)), few, fun s1 hs1 y1 H4 e4 t1 => ?_, fun k hk => no k hk⟩
  have e14 := e1.trans (e2.trans (e3.trans e4))
  refine h3 H4 e14 _ fun H5 e5 => h2 H5 (e14.trans e5) _ fun H6 e6 => ⟨rfl, rfl, v, rs, a, us, ds, rfl, hv.ex (e14.trans (e5.trans e6)), by omega, .inl (sq_of ((e14.trans (e5.trans e6)) _ _ g3)), d3.ex' (e14.trans (e5.trans e6)), few, fun s2 hs2 y2 H7 e7 t2 => ?_, fun k hk => no k hk⟩
  have e17 := e14.trans (e5.trans (e6.trans e7))
  refine ⟨by show 2 ≤ sizeLine; decide, fun c hc => h7 _ (e17.trans (Ex.new hc)) _ fun H8 e8 => ⟨b, _, rfl, .inr (st_of ((e17.trans ((Ex.new hc).trans e8)) _ _ g7)), fun l hl => ?_⟩⟩
  have nc := Ex.new (o := .lst [y1, y2]) hc
  have gc : (upd H7 c (.lst [y1, y2])) c = some (.lst [y1, y2]) := upd_same
  have nl := Ex.new (o := .lst [x1, .ref o]) hl
  have all := e17.trans (nc.trans (e8.trans nl))
  rw [hs] at hs1 hs2
  cases hs1
  cases hs2
  obtain ⟨q1, q2⟩ := led_lens (by rw [List.length_range]) hs
  rw [List.length_range] at q2
  dsimp only at q1
  obtain ⟨t', rfl, ht'⟩ := t2
  have back := e2.trans (e3.trans (e4.trans (e5.trans (e6.trans e7))))
  exact ⟨_, _, rfl, alike_two (sq_of ((e8.trans nl) _ _ gc)) (sq_of upd_same) (alike_row (by omega) (RowAt.ex t1 ((e5.trans (e6.trans e7)).trans (nc.trans (e8.trans nl)))) (r1.ex all)) (alike_ints (ns := s.2) (by omega) (ex_t (nc.trans (e8.trans nl)) ht') (ex_t all r2)).up, fun H9 e9 => q H9 (back.trans (nc.trans (e8.trans (nl.trans e9))))⟩
end
end HH
namespace HH
open PySem PySem.Spec PyProof.Rows L2 Evl RZ
theorem run_places {L0 L : List Cow} {ds : List Deed} (r : MRun L0 L ds) (hl : L0.length ≤ 1000 := by rw [tag_len]; omega) : ∀ d ∈ ds, d.2 ≤ 1000 := by
  have key : L.length = L0.length ∧ ∀ d ∈ ds, d.2 ≤ 1000 := by
    induction r with
    | nil => exact ⟨rfl, fun d hd => by cases hd⟩
    | @pass pre post a b ds r hp ih =>
      obtain ⟨i1, i2⟩ := ih
      rw [List.length_append] at i1
      simp only [List.length_cons] at i1
      refine ⟨by rw [List.length_append]; simp only [List.length_cons]; omega, fun d hd => ?_⟩
      rcases List.mem_append.mp hd with hd | hd
      · exact i2 d hd
      · cases List.mem_singleton.mp hd
        show pre.length + 1 ≤ 1000
        omega
    | @fall pre post a b ds r hp ih =>
      obtain ⟨i1, i2⟩ := ih
      rw [List.length_append] at i1
      simp only [List.length_cons] at i1
      refine ⟨by rw [List.length_append]; simp only [List.length_cons]; omega, fun d hd => ?_⟩
      rcases List.mem_append.mp hd with hd | hd
      · exact i2 d hd
      · cases List.mem_singleton.mp hd
        show pre.length ≤ 1000
        omega
  exact key.2
end HH
namespace HH
open PySem PySem.Spec PyProof.Rows L2 Evl RZ
theorem q_par2 {i j : Nat} {ta tb : TE} {tz : TS} {D : Ends} {σ : L2.St} {H : Hp} (h : ta σ H fun x H1 => tb σ H1 fun y H2 => ∃ v w, [x, y] = [v, w] ∧ tz D ((σ.set i (some v)).set j (some w)) H2) : tSeq (tPar i j (tCons ta (tCons tb tNil))) tz D σ H := h
theorem q_unless {t : TT} {tu tz : TS} {D : Ends} {σ : L2.St} {H : Hp} (h : t σ H fun c H1 => c = false ∧ tz D σ H1) (mono : ∀ Q R : Bool → Hp → Prop, (∀ c H1, Q c H1 → R c H1) → t σ H Q → t σ H R) : tSeq (tIfS t tu tNext) tz D σ H := mono _ _ (fun c H1 hc => by
  obtain ⟨rfl, k⟩ := hc
  exact k) h
end HH
set_option maxHeartbeats 4000000
namespace HH
open PySem PySem.Spec PyProof.Rows L2 Evl RZ
/-! ### tuples that keep their object, so that their methods can be called -/
theorem FrzT.exL {H H' : Hp} {p a : Addr} {xs ys : List V} (h : FrzT H a xs) (e : ExB p H H') (hp : H p = some (.lst ys)) : FrzT H' a xs := by
  obtain ⟨o, po, h⟩ := h
  refine ⟨o, po, e _ _ (fun z => ?_) h⟩
  rw [z, hp] at h
  cases h
def tTupF (t : TA) : TE := fun σ H Q => t σ H fun xs H1 => xs.length ≤ sizeLine ∧ ∀ (p : Addr) (o : Obj), PlainT o → H1 p = none → Q (.ref p) (upd H1 p (.frz o (.tup xs)))
def rCatF (K : PySem.W.Frag) : R2 := fun x y H Q => ∃ a b xs ys, x = .ref a ∧ y = .ref b ∧ SqT K H a xs ∧ SqT K H b ys ∧ xs ≠ [] ∧ ys ≠ [] ∧ xs.length + ys.length ≤ sizeLine ∧ ∀ (p : Addr) (o : Obj), PlainT o → H p = none → Q (.ref p) (upd H p (.frz o (.tup (xs ++ ys))))
def rSlF (K : PySem.W.Frag) : V → Option Int → Option Int → Hp → VK → Prop := fun x lo hi H Q => ∃ a xs, x = .ref a ∧ SqT K H a xs ∧ (¬ (HT.sIx xs.length 0 lo = 0 ∧ HT.sIx xs.length xs.length hi = xs.length)) ∧ ∀ (p : Addr) (o : Obj), PlainT o → H p = none → Q (.ref p) (upd H p (.frz o (.tup (cutV xs lo hi))))
def tTupRgF (te : L2.St → Hp → (Int → Int → Hp → Prop) → Prop) : TE := fun σ H Q => te σ H fun a b H1 => RgOk a b ∧ ∀ (q : Addr) (o : Obj), PlainT o → H1 q = none → Q (.ref q) (upd H1 q (.frz o (.tup (rgV a b))))
section
variable {X : Cx} {es : List Expr} {t : TA} {pos : Pos}
theorem pe_tupF {x1} (h : PA X es t) : PE X (.Tuple es x1 pos) (tTupF t) := by
  refine ⟨fun pins s σ H Q I hq => ?_⟩
  refine wpAny_Tuple_spliced (thn (h.run pos pins s σ H _ I hq) fun us s1 ⟨xs, H1, I1, r, z, q⟩ => ⟨by rw [← r.length]; exact z, ?_⟩)
  have hf : H1 s1.heap.objs.size = none := I1.hok.fresh (Nat.le_refl _)
  have okF : ObjOk X.prog X.w (upd H1 s1.heap.objs.size (.frz { cls := .type "tuple", data := .seq us.toArray } (.tup xs))) (s1.heap.push { cls := .type "tuple", data := .seq us.toArray }) s1.heap.objs.size (.frz { cls := .type "tuple", data := .seq us.toArray } (.tup xs)) :=
    ⟨Heap.get?_push_size _ rfl, z, us, r, IsTup.new _ _⟩
  exact ⟨.ref s1.heap.objs.size, _, I1.laid (t' := s1.toks) (fun b u e => Heap.get?_push_of_some _ e) (Nat.le_refl _) okF, rfl, q _ _ ⟨rfl, rfl⟩ hf⟩
theorem op_catF : OpR X (binaryOp .Add) (rCatF X.K) := by
  intro pins s σ H x y v u Q I rx ry h
  obtain ⟨a, b, xs, ys, rfl, rfl, ha, hb, hx, hy, hz, q⟩ := h
  cases rx
  cases ry
  obtain ⟨its, r1, p1, _⟩ := I.tuple ha
  obtain ⟨its2, r2, p2, _⟩ := I.tuple hb
  refine HT.cat_tup p1 p2 (fun z => hx (r1.nil_iff.mp z)) (fun z => (hy (r2.nil_iff.mp z)).elim) (fun z => ?_) (by rw [← r1.length, ← r2.length]; exact hz)
  exact ⟨.ref s.heap.objs.size, _, I.laid (t' := s.toks) (fun b ob q => Heap.get?_push_of_some _ q) (Nat.le_refl _) (show ObjOk X.prog X.w (upd H s.heap.objs.size (.frz { cls := .type "tuple", data := .seq (its ++ its2).toArray } (.tup (xs ++ ys)))) _ _ (.frz { cls := .type "tuple", data := .seq (its ++ its2).toArray } (.tup (xs ++ ys))) from ⟨Heap.get?_push_size _ rfl, by rw [List.length_append]; exact hz, its ++ its2, r1.append r2, IsTup.new _ _⟩), rfl, q _ _ ⟨rfl, rfl⟩ (I.hok.fresh (Nat.le_refl _))⟩
theorem sl_tupF : SlR X (rSlF X.K) := by
  intro pins s σ H x v vl vu lo hi sl Q I rx hs pl pu h
  obtain ⟨a, xs, rfl, hx, hw, q⟩ := h
  cases rx
  obtain ⟨its, r, ht, hz⟩ := I.tuple hx
  have hlen : its.toArray.size = xs.length := by rw [List.size_toArray]; exact r.length.symm
  refine ⟨"tuple", _, PyProof.Rows.slot_tuple_getitem.lookup, ht.typeIs, ?_⟩
  refine HT.getItem_tuple_cut ht hs pl pu (by rw [hlen]; exact hw) ?_ (by rw [hlen]; exact hz)
  rw [hlen]
  exact ⟨.ref s.heap.objs.size, _, I.laid (t' := s.toks) (fun b ob q => Heap.get?_push_of_some _ q) (Nat.le_refl _) (show ObjOk X.prog X.w (upd H s.heap.objs.size (.frz _ (.tup (cutV xs lo hi)))) _ _ (.frz _ (.tup (cutV xs lo hi))) from ⟨Heap.get?_push_size _ rfl, Nat.le_trans (cutV_length xs lo hi) hz, _, (r.drop (HT.sIx xs.length 0 lo)).take (HT.sIx xs.length xs.length hi - HT.sIx xs.length 0 lo), IsTup.new _ _⟩), rfl, q _ _ ⟨rfl, rfl⟩ (I.hok.fresh (Nat.le_refl _))⟩
theorem pe_tupRgF {e : Expr} {te : L2.St → Hp → (Int → Int → Hp → Prop) → Prop} {p pos : Pos} (hc : X.calm = true) (hg : Gl X "tuple") (hm : X.mg "tuple" = none) (he : PRg X e te) (na : starEach [e] X.env = (false, eval e X.env) :: starEach [] X.env := by rfl) : PE X (.Call (.Name "tuple" p) [e] [] pos) (tTupRgF te) := by
  refine ⟨fun pins s σ H Q I h => ?_⟩
  refine Call_ (ld_blt I hg hm boot_tuple (PyProof.Rows.callWith_type1 (args_cons (thn (he pins s σ H _ I h) fun x s1 ⟨r, a, b, t, u, v, H1, ex, hr, I1, ok, q⟩ => args_nil ?_) na) na))
  subst ex
  obtain ⟨b1, b2, b3, b4, b5⟩ := ok
  refine call_tuple_range (n := (b - a).toNat) (I1.ok.hd hc) hr (small_one b1 b2 b3 b4) (rangeSize_nat a b) b5 fun h' tk acc hk hi => ?_
  have I2 : Inv X pins σ H1 { s1 with heap := h', toks := tk } := I1.kept hk
  have okF : ObjOk X.prog X.w (upd H1 h'.objs.size (.frz { cls := .type "tuple", data := .seq acc } (.tup (rgV a b)))) (h'.push { cls := .type "tuple", data := .seq acc }) h'.objs.size (.frz { cls := .type "tuple", data := .seq acc } (.tup (rgV a b))) :=
    ⟨Heap.get?_push_size _ rfl, by rw [rgV_length, sizeLine_eq]; omega, acc.toList, vals_rg hi, by rw [Array.toArray_toList]; exact IsTup.new _ _⟩
  exact ⟨.ref h'.objs.size, _, I2.laid (t' := tk) (fun c o e => Heap.get?_push_of_some _ e) (Nat.le_refl _) okF, rfl, q _ _ ⟨rfl, rfl⟩ (I2.hok.fresh (Nat.le_refl _))⟩
end
end HH
namespace HH
open PySem PySem.Spec PyProof.Rows L2 Evl RZ
theorem call_isiK {X : Cx} {K : PySem.W.Frag} (h : X.K = K := by rfl) : CallR X (.builtin "isinstance") (rIsi K) := by
  subst h
  exact call_isi
end HH
set_option maxHeartbeats 4000000
namespace HH
open PySem PySem.Spec PyProof.Rows L2 Evl RZ
/-! ### any thing, read as data, apart from the list at p -/
def StrFit (s : Str) : Prop := PyData.strOk s = true ∧ (reprText s).length ≤ 40
def atomOk (c : Nat) : V → PyData → Prop
  | .non, .none => True
  | .bl b, .bool b' => b = b'
  | .int i, .int i' => i = i' ∧ i.natAbs ≤ 10 ^ 30 + c
  | .str s, .str s' => s = s' ∧ StrFit s
  | _, _ => False
def DaS (R : V → PyData → Prop) (xs : List V) (ds : List PyData) : Prop := xs.length = ds.length ∧ ∀ (i : Nat) (x : V) (e : PyData), xs[i]? = some x → ds[i]? = some e → R x e
def Da (P : Addr → Prop) (K : PySem.W.Frag) (c : Nat) (H : Hp) : Nat → V → PyData → Prop
  | 0, v, d => atomOk c v d
  | k + 1, v, d => atomOk c v d ∨ ∃ (a : Addr) (xs : List V) (ds : List PyData), v = .ref a ∧ ((¬ P a ∧ H a = some (.lst xs) ∧ d = .list ds) ∨ (FrzT H a xs ∧ d = .tuple ds)) ∧ DaS (Da P K c H k) xs ds
section
variable {P : Addr → Prop} {K : PySem.W.Frag} {c : Nat} {H H' : Hp}
theorem Da.ex (e : Ex H H') : ∀ {k : Nat} {v : V} {d : PyData}, Da P K c H k v d → Da P K c H' k v d
  | 0, _, _, h => h
  | k + 1, _, _, .inl h => .inl h
  | k + 1, _, _, .inr ⟨a, xs, ds, h1, h2, h3, h4⟩ => .inr ⟨a, xs, ds, h1, h2.imp (fun ⟨q1, q2, q3⟩ => ⟨q1, e _ _ q2, q3⟩) (fun ⟨q1, q2⟩ => ⟨q1.ex e, q2⟩), h3, fun i x y hx hy => Da.ex e (h4 i x y hx hy)⟩
theorem Da.exB {p : Addr} {ys : List V} (hP : P p) (e : ExB p H H') (hp : H p = some (.lst ys)) : ∀ {k : Nat} {v : V} {d : PyData}, Da P K c H k v d → Da P K c H' k v d
  | 0, _, _, h => h
  | k + 1, _, _, .inl h => .inl h
  | k + 1, _, _, .inr ⟨a, xs, ds, h1, h2, h3, h4⟩ => .inr ⟨a, xs, ds, h1, h2.imp (fun ⟨q1, q2, q3⟩ => ⟨q1, e _ _ (fun z => q1 (by rw [z]; exact hP)) q2, q3⟩) (fun ⟨q1, q2⟩ => ⟨q1.exL e hp, q2⟩), h3, fun i x y hx hy => Da.exB hP e hp (h4 i x y hx hy)⟩
theorem Da.add {l : Addr} (hl : H l = none) : ∀ {k : Nat} {v : V} {d : PyData}, Da P K c H k v d → Da (fun a => P a ∨ a = l) K c H k v d
  | 0, _, _, h => h
  | k + 1, _, _, .inl h => .inl h
  | k + 1, _, _, .inr ⟨a, xs, ds, h1, h2, h3, h4⟩ => .inr ⟨a, xs, ds, h1, h2.imp (fun ⟨q1, q2, q3⟩ => ⟨fun z => z.elim q1 fun z => ne_of_none q2 hl z, q2, q3⟩) (fun q => q), h3, fun i x y hx hy => Da.add hl (h4 i x y hx hy)⟩
theorem Da.sub {P' : Addr → Prop} (hs : ∀ a, P' a → P a) : ∀ {k : Nat} {v : V} {d : PyData}, Da P K c H k v d → Da P' K c H k v d
  | 0, _, _, h => h
  | k + 1, _, _, .inl h => .inl h
  | k + 1, _, _, .inr ⟨a, xs, ds, h1, h2, h3, h4⟩ => .inr ⟨a, xs, ds, h1, h2.imp (fun ⟨q1, q2, q3⟩ => ⟨fun z => q1 (hs a z), q2, q3⟩) (fun q => q), h3, fun i x y hx hy => Da.sub hs (h4 i x y hx hy)⟩
theorem Da.up : ∀ {k : Nat} {v : V} {d : PyData}, Da P K c H k v d → Da P K c H (k + 1) v d
  | 0, _, _, h => .inl h
  | k + 1, _, _, .inl h => .inl h
  | k + 1, _, _, .inr ⟨a, xs, ds, h1, h2, h3, h4⟩ => .inr ⟨a, xs, ds, h1, h2, h3, fun i x y hx hy => Da.up (h4 i x y hx hy)⟩
theorem Da.ups {k : Nat} {v : V} {d : PyData} (h : Da P K c H k v d) : ∀ j, Da P K c H (k + j) v d
  | 0 => h
  | j + 1 => (Da.ups h j).up
theorem Da.to {k k' : Nat} {v : V} {d : PyData} (h : Da P K c H k v d) (e : k ≤ k') : Da P K c H k' v d := by
  have := h.ups (k' - k)
  rw [show k + (k' - k) = k' by omega] at this
  exact this
theorem atomOk.cc {c' : Nat} (e : c ≤ c') {v : V} {d : PyData} (h : atomOk c v d) : atomOk c' v d := by
  unfold atomOk at h
  split at h
  · exact True.intro
  · exact h
  · exact ⟨h.1, by have := h.2; omega⟩
  · exact h
  · exact h.elim
theorem Da.cc {c' : Nat} (e : c ≤ c') : ∀ {k : Nat} {v : V} {d : PyData}, Da P K c H k v d → Da P K c' H k v d
  | 0, _, _, h => atomOk.cc e h
  | k + 1, _, _, .inl h => .inl (atomOk.cc e h)
  | k + 1, _, _, .inr ⟨a, xs, ds, h1, h2, h3, h4⟩ => .inr ⟨a, xs, ds, h1, h2, h3, fun i x y hx hy => Da.cc e (h4 i x y hx hy)⟩
end
/-! its weight, its kind -/
mutual
def wtD : PyData → Nat
  | .none => 50
  | .bool _ => 50
  | .int _ => 50
  | .str _ => 50
  | .list xs => 10 + wtDs xs
  | .tuple xs => 10 + wtDs xs
  | .dict _ => 50
def wtDs : List PyData → Nat
  | [] => 0
  | x :: xs => wtD x + 2 + wtDs xs
end
theorem wtDs_app : ∀ a b : List PyData, wtDs (a ++ b) = wtDs a + wtDs b
  | [], b => by simp [wtDs]
  | x :: a, b => by
    have := wtDs_app a b
    simp only [List.cons_append, wtDs]
    omega
theorem wtDs_get : ∀ {ds : List PyData} {i : Nat} {e : PyData}, ds[i]? = some e → wtD e + 2 ≤ wtDs ds
  | [], _, _, h => by simp at h
  | x :: xs, 0, e, h => by
    cases h
    simp only [wtDs]
    omega
  | x :: xs, i + 1, e, h => by
    have := wtDs_get (ds := xs) (i := i) h
    simp only [wtDs]
    omega
theorem wtDs_set : ∀ {ds : List PyData} {i : Nat} {e e' : PyData}, ds[i]? = some e → wtDs (ds.set i e') + wtD e = wtDs ds + wtD e'
  | [], _, _, _, h => by simp at h
  | x :: xs, 0, e, e', h => by
    cases h
    simp only [List.set, wtDs]
    omega
  | x :: xs, i + 1, e, e', h => by
    have := wtDs_set (ds := xs) (i := i) (e' := e') h
    simp only [List.set, wtDs]
    omega
theorem wtDs_erase : ∀ (ds : List PyData) (i : Nat), wtDs (ds.eraseIdx i) ≤ wtDs ds
  | [], _ => by simp
  | x :: xs, 0 => by
    simp only [List.eraseIdx, wtDs]
    omega
  | x :: xs, i + 1 => by
    have := wtDs_erase xs i
    simp only [List.eraseIdx, wtDs]
    omega
theorem wtDs_len : ∀ ds : List PyData, 2 * ds.length ≤ wtDs ds
  | [] => by simp [wtDs]
  | x :: xs => by
    have := wtDs_len xs
    simp only [wtDs, List.length_cons]
    omega
def tyD : PyData → String
  | .none => "NoneType"
  | .bool _ => "bool"
  | .int _ => "int"
  | .str _ => "str"
  | .list _ => "list"
  | .tuple _ => "tuple"
  | .dict _ => "dict"
section
variable {P : Addr → Prop} {K : PySem.W.Frag} {c : Nat} {H H' : Hp}
theorem atomOk.ty {v : V} {d : PyData} (h : atomOk c v d) : TyN K H v (tyD d) := by
  unfold atomOk at h
  split at h
  · exact .non
  · exact .bl _
  · exact .int _
  · exact .str _
  · exact h.elim
theorem Da.ty {k : Nat} {v : V} {d : PyData} (h : Da P K c H k v d) : TyN K H v (tyD d) := by
  cases k with
  | zero => exact atomOk.ty h
  | succ k =>
    rcases h with h | ⟨a, xs, ds, rfl, h2, _⟩
    · exact atomOk.ty h
    · rcases h2 with ⟨_, h2, rfl⟩ | ⟨h2, rfl⟩
      · exact .lst (K := K) (sq_of h2)
      · exact .tup h2.sq
theorem daS_all {R : V → PyData → Prop} (hR : ∀ v d, R v d → Dp K H v d) : ∀ {xs : List V} {ds : List PyData}, DaS R xs ds → DpAll K H xs ds
  | [], [], _ => .nil
  | [], _ :: _, h => by cases h.1
  | _ :: _, [], h => by cases h.1
  | x :: xs, d :: ds, h => .cons (hR _ _ (h.2 0 x d rfl rfl)) (daS_all hR ⟨Nat.succ.inj h.1, fun i y e hy he => h.2 (i + 1) y e hy he⟩)
theorem atomOk.dp {v : V} {d : PyData} (h : atomOk c v d) : Dp K H v d ∧ Nice 0 d := by
  unfold atomOk at h
  split at h
  · exact ⟨.non, by simp [PyData.canLay0], by simp [PyData.depth]⟩
  · subst h
    exact ⟨.bl _, by simp [PyData.canLay0], by simp [PyData.depth]⟩
  · obtain ⟨rfl, _⟩ := h
    exact ⟨.int _, by simp [PyData.canLay0], by simp [PyData.depth]⟩
  · obtain ⟨rfl, h⟩ := h
    exact ⟨.str _, by simp only [PyData.canLay0]; exact h.1, by simp [PyData.depth]⟩
  · exact h.elim
theorem Da.dp : ∀ {k : Nat} {v : V} {d : PyData}, Da P K c H k v d → Dp K H v d
  | 0, _, _, h => (atomOk.dp h).1
  | k + 1, _, _, .inl h => (atomOk.dp h).1
  | k + 1, _, _, .inr ⟨a, xs, ds, h1, h2, h3⟩ => by
    subst h1
    have := daS_all (K := K) (H := H) (fun v d h => Da.dp h) h3
    rcases h2 with ⟨_, h2, rfl⟩ | ⟨h2, rfl⟩
    · exact .lst (sq_of h2) this
    · exact .tup h2.sq this
theorem daS_mem {R : V → PyData → Prop} {xs : List V} {ds : List PyData} (h : DaS R xs ds) {d : PyData} (hd : d ∈ ds) : ∃ v ∈ xs, R v d := by
  obtain ⟨i, hi⟩ := List.getElem?_of_mem hd
  have hl := (List.getElem?_eq_some_iff.mp hi).1
  have hx : i < xs.length := by rw [h.1]; exact hl
  exact ⟨xs[i], List.getElem_mem hx, h.2 i _ _ (List.getElem?_eq_getElem hx) hi⟩
theorem Da.nice : ∀ {k : Nat} {v : V} {d : PyData}, Da P K c H k v d → Nice k d
  | 0, _, _, h => (atomOk.dp (K := K) (H := H) h).2
  | k + 1, _, _, .inl h => nice_mono (atomOk.dp (K := K) (H := H) h).2 (Nat.zero_le _)
  | k + 1, _, _, .inr ⟨a, xs, ds, h1, h2, h3⟩ => by
    have : ∀ d ∈ ds, Nice k d := fun d hd => by
      obtain ⟨v, _, hv⟩ := daS_mem h3 hd
      exact Da.nice hv
    rcases h2 with ⟨_, h2, rfl⟩ | ⟨h2, rfl⟩
    · exact nice_list this
    · exact nice_tuple this
theorem shw_ds {ds : List PyData} (h : ∀ d ∈ ds, d.showable = true ∧ d.shown.length ≤ wtD d) : PyData.showableAll ds = true ∧ ((PyData.shownAll ds).map (·.length)).sum + 2 * (PyData.shownAll ds).length ≤ wtDs ds := by
  induction ds with
  | nil => exact ⟨by simp [PyData.showableAll], by simp [PyData.shownAll, wtDs]⟩
  | cons d r ih =>
    obtain ⟨a1, a2⟩ := h d (List.mem_cons_self ..)
    obtain ⟨b1, b2⟩ := ih fun c hc => h c (List.mem_cons_of_mem _ hc)
    refine ⟨by simp only [PyData.showableAll, a1, b1]; rfl, ?_⟩
    simp only [List.map_cons, PyData.shownAll, List.sum_cons, List.length_cons, wtDs]
    omega
theorem wide_log {i : Int} (h : i.natAbs ≤ 10 ^ 30 + 1000) : i.natAbs.log2 < 1920 := by
  by_cases z : i.natAbs = 0
  · rw [z]
    decide
  · rw [Nat.log2_lt z]
    have h1 : (10 : Nat) ^ 30 + 1000 < 2 ^ 120 := by decide
    have h2 : (2 : Nat) ^ 120 ≤ 2 ^ 1920 := Nat.pow_le_pow_right (by decide) (by decide)
    omega
theorem atomOk.shw {v : V} {d : PyData} (hc : c ≤ 1000) (h : atomOk c v d) : d.showable = true ∧ d.shown.length ≤ wtD d := by
  unfold atomOk at h
  split at h
  · exact ⟨by simp [PyData.showable], by simp only [PyData.shown, wtD]; decide⟩
  · rename_i b b'
    exact ⟨by simp [PyData.showable], by simp only [PyData.shown, wtD]; cases b' <;> decide⟩
  · rename_i i i'
    obtain ⟨rfl, h⟩ := h
    refine ⟨by simp only [PyData.showable]; exact decide_eq_true (wide_log (by omega)), ?_⟩
    have h1 : (10 : Nat) ^ 30 + 1000 < 10 ^ 31 := by decide
    have e := int_text_length_le10 (k := 31) (a := i) (by decide) (by omega)
    show (Str.ofString (toString i)).length ≤ wtD (.int i)
    rw [PySem.ofString_length]
    simp only [wtD]
    omega
  · obtain ⟨rfl, h⟩ := h
    refine ⟨by simp [PyData.showable], ?_⟩
    have := h.2
    simp only [PyData.shown, wtD]
    omega
  · exact h.elim
theorem Da.shw (hc : c ≤ 1000) : ∀ {k : Nat} {v : V} {d : PyData}, Da P K c H k v d → d.showable = true ∧ d.shown.length ≤ wtD d
  | 0, _, _, h => atomOk.shw hc h
  | k + 1, _, _, .inl h => atomOk.shw hc h
  | k + 1, _, _, .inr ⟨a, xs, ds, h1, h2, h3⟩ => by
    obtain ⟨q1, q2⟩ := shw_ds (ds := ds) fun d hd => by
      obtain ⟨v, _, hv⟩ := daS_mem h3 hd
      exact Da.shw hc hv
    rcases h2 with ⟨_, h2, rfl⟩ | ⟨h2, rfl⟩
    · refine ⟨by simp only [PyData.showable]; exact q1, ?_⟩
      have e : (PyData.list ds).shown = listText (PyData.shownAll ds) := by simp only [PyData.shown]
      rw [e]
      have := listText_len_le (PyData.shownAll ds)
      simp only [wtD]
      omega
    · refine ⟨by simp only [PyData.showable]; exact q1, ?_⟩
      have e : (PyData.tuple ds).shown = tupleText (PyData.shownAll ds) := by simp only [PyData.shown]
      rw [e]
      have := tupleText_len_le (PyData.shownAll ds)
      simp only [wtD]
      omega
end
/-! repr of any thing -/
theorem call_reprA {X : Cx} (gd : X.A.guards = some []) (hu : X.A.units + 70 < cLine) : CallR X (.builtin "repr") (fun xs H Q => ∃ (v : V) (d : PyData), xs = [v] ∧ Dp X.K H v d ∧ Nice 60 d ∧ d.showable = true ∧ d.shown.length ≤ sizeLine ∧ Q (.str d.shown) H) := by
  intro pins s σ H xs us Q I0 r h
  obtain ⟨v, d, rfl, hd, hn, hs, hz, q⟩ := h
  obtain ⟨u, rfl, ru⟩ := vals1 r
  cases hd with
  | non =>
    cases ru
    exact PySem.P.repr_of_none ⟨.str (PyData.shown .none), H, I0.kept (t' := s.toks + 1) (fun _ _ z => z), ⟨_, rfl⟩, q⟩
  | bl b =>
    cases ru
    exact PySem.P.repr_of_bool ⟨.str (PyData.shown (.bool b)), H, I0.kept (t' := s.toks + 1) (fun _ _ z => z), ⟨_, rfl⟩, q⟩
  | int i =>
    obtain ⟨t, rfl⟩ := ru
    have hs' : i.natAbs.log2 < 1920 := by
      simp only [PyData.showable] at hs
      exact of_decide_eq_true hs
    exact PySem.P.repr_of_int hs' ⟨.str (PyData.shown (.int i)), H, I0.kept (t' := s.toks + 1) (fun _ _ z => z), ⟨_, rfl⟩, q⟩
  | str x =>
    obtain ⟨t, rfl⟩ := ru
    exact PySem.P.repr_of_str ⟨.str (PyData.shown (.str x)), H, I0.kept (t' := s.toks + 1) (fun _ _ z => z), ⟨_, rfl⟩, q⟩ (by simp only [PyData.shown] at hz; exact hz)
  | lst h1 h2 => exact call_reprD gd hu pins s σ H _ _ Q I0 r ⟨_, _, rfl, .lst h1 h2, hn, hs, hz, q⟩
  | tup h1 h2 => exact call_reprD gd hu pins s σ H _ _ Q I0 r ⟨_, _, rfl, .tup h1 h2, hn, hs, hz, q⟩
end HH
set_option maxHeartbeats 4000000
namespace HH
open PySem PySem.Spec PyProof.Rows L2 Evl RZ
/-! a walk over a list or a tuple -/
def iSeqA (K : PySem.W.Frag) (tl : TE) : TI := fun σ H R => tl σ H fun x H1 => ∃ a xs, x = .ref a ∧ ((SqL K H1 a xs ∧ R (Itl K a) H1) ∨ (SqT K H1 a xs ∧ R (Itt K a) H1))
theorem pi_seqA {X : Cx} {tg : Expr} {l : Expr} {tl : TE} (hl : PE X l tl) : PI X tg l (iSeqA X.K tl) := by
  refine ⟨fun pins s σ H R I h => ?_⟩
  refine thn (hl.run pins s σ H _ I h) fun v s1 ⟨x, H1, I1, r1, q1⟩ => ?_
  obtain ⟨a, xs, e, q1⟩ := q1
  subst e
  cases r1
  have fp : ∀ b, b ∈ [s1.heap.objs.size] → FpOk X pins H1 b := fun b hb => by
    have e : b = s1.heap.objs.size := by simpa using hb
    subst e
    exact I1.fpOk (Nat.le_refl _) (I1.hok.fresh (Nat.le_refl _))
  rcases q1 with ⟨hq, q⟩ | ⟨hq, q⟩
  · obtain ⟨its, rv, p, hz⟩ := I1.list hq
    refine wpAny_pyIter_list p.isList ?_
    exact ⟨s1.heap.objs.size, [s1.heap.objs.size], _, _, H1, rfl, I1.kept (t' := s1.toks) fun b o e => Heap.get?_push_of_some _ e, turn_list a _, ⟨_, Heap.get?_push_size _ rfl, rfl, rfl⟩, fp, q⟩
  · obtain ⟨its, rv, p, hz⟩ := I1.tuple hq
    refine wpAny_pyIter_tuple (show s1.heap.IsTuple a its.toArray from p) ?_
    exact ⟨s1.heap.objs.size, [s1.heap.objs.size], _, _, H1, rfl, I1.kept (t' := s1.toks) fun b o e => Heap.get?_push_of_some _ e, turn_tuple a _, ⟨_, Heap.get?_push_size _ rfl, rfl, rfl⟩, fp, q⟩
theorem pi_seqAK {X : Cx} {K : PySem.W.Frag} {tg : Expr} {l : Expr} {tl : TE} (hl : PE X l tl) (hK : X.K = K := by rfl) : PI X tg l (iSeqA K tl) := by
  subst hK
  exact pi_seqA hl
/-! kinds -/
def isIntB : PyData → Bool
  | .int _ => true
  | .bool _ => true
  | _ => false
def isBoolB : PyData → Bool
  | .bool _ => true
  | _ => false
def isListB : PyData → Bool
  | .list _ => true
  | _ => false
def isTupB : PyData → Bool
  | .tuple _ => true
  | _ => false
def isNumD : PyData → Bool
  | .int _ => true
  | _ => false
theorem kitI (d : PyData) : kitB (tyD d) "int" = some (isIntB d) := by
  cases d with
  | none => exact (by decide +kernel : kitB "NoneType" "int" = some false)
  | bool _ => exact (by decide +kernel : kitB "bool" "int" = some true)
  | int _ => exact (by decide +kernel : kitB "int" "int" = some true)
  | str _ => exact (by decide +kernel : kitB "str" "int" = some false)
  | list _ => exact (by decide +kernel : kitB "list" "int" = some false)
  | tuple _ => exact (by decide +kernel : kitB "tuple" "int" = some false)
  | dict _ => exact (by decide +kernel : kitB "dict" "int" = some false)
theorem kitBo (d : PyData) : kitB (tyD d) "bool" = some (isBoolB d) := by
  cases d with
  | none => exact (by decide +kernel : kitB "NoneType" "bool" = some false)
  | bool _ => exact (by decide +kernel : kitB "bool" "bool" = some true)
  | int _ => exact (by decide +kernel : kitB "int" "bool" = some false)
  | str _ => exact (by decide +kernel : kitB "str" "bool" = some false)
  | list _ => exact (by decide +kernel : kitB "list" "bool" = some false)
  | tuple _ => exact (by decide +kernel : kitB "tuple" "bool" = some false)
  | dict _ => exact (by decide +kernel : kitB "dict" "bool" = some false)
theorem kitL (d : PyData) : kitB (tyD d) "list" = some (isListB d) := by
  cases d with
  | none => exact (by decide +kernel : kitB "NoneType" "list" = some false)
  | bool _ => exact (by decide +kernel : kitB "bool" "list" = some false)
  | int _ => exact (by decide +kernel : kitB "int" "list" = some false)
  | str _ => exact (by decide +kernel : kitB "str" "list" = some false)
  | list _ => exact (by decide +kernel : kitB "list" "list" = some true)
  | tuple _ => exact (by decide +kernel : kitB "tuple" "list" = some false)
  | dict _ => exact (by decide +kernel : kitB "dict" "list" = some false)
theorem kitT (d : PyData) : kitB (tyD d) "tuple" = some (isTupB d) := by
  cases d with
  | none => exact (by decide +kernel : kitB "NoneType" "tuple" = some false)
  | bool _ => exact (by decide +kernel : kitB "bool" "tuple" = some false)
  | int _ => exact (by decide +kernel : kitB "int" "tuple" = some false)
  | str _ => exact (by decide +kernel : kitB "str" "tuple" = some false)
  | list _ => exact (by decide +kernel : kitB "list" "tuple" = some false)
  | tuple _ => exact (by decide +kernel : kitB "tuple" "tuple" = some true)
  | dict _ => exact (by decide +kernel : kitB "dict" "tuple" = some false)
theorem kitLT {K : PySem.W.Frag} (d : PyData) : PySem.W.kitAny K (.type (tyD d)) [.type "list", .type "tuple"] = some (isListB d || isTupB d) := by
  refine kitAny_cons (b := isListB d) (kit_ty (kitL d)) (fun h => kitAny_cons (b := isTupB d) (kit_ty (kitT d)) (fun h2 => ?_) (fun h2 => ?_)) (fun h => ?_)
  · rw [h, h2]
    exact kitAny_nil
  · rw [h, h2]
    rfl
  · rw [h]
    rfl
section
variable {P : Addr → Prop} {K : PySem.W.Frag} {c k : Nat} {H H' : Hp} {σ : L2.St} {te ta tb : TE} {D : Ends} {v : V} {d : PyData}
theorem ev_isiD {C : String} {b : Bool} (h : Ev te σ H v) (hd : Da P K c H k v d) (kk : kitB (tyD d) C = some b) : Ev (tCB (rIsi K) (tCons te (tCons (tC (.ty C)) tNil))) σ H (.bl b) := ev_isi h hd.ty kk
theorem ev_isiLT (h : Ev te σ H v) (hd : Da P K c H k v d) : Ev (tCB (rIsiT K) (tCons te (tCons (tTup (tCons (tC (.ty "list")) (tCons (tC (.ty "tuple")) tNil))) tNil))) σ H (.bl (isListB d || isTupB d)) := ev_isiT h hd.ty (kitLT d)
theorem Da.cont (hd : Da P K c H (k + 1) v d) (h : (isListB d || isTupB d) = true) : ∃ (a : Addr) (xs : List V) (ds : List PyData), v = .ref a ∧ ((¬ P a ∧ H a = some (.lst xs) ∧ d = .list ds) ∨ (FrzT H a xs ∧ d = .tuple ds)) ∧ DaS (Da P K c H k) xs ds := by
  rcases hd with hd | hd
  · unfold atomOk at hd
    split at hd
    · cases h
    · cases h
    · cases h
    · cases h
    · exact hd.elim
  · exact hd
theorem Da.cont0 (hd : Da P K c H 0 v d) (h : (isListB d || isTupB d) = true) : False := by
  have hd : atomOk c v d := hd
  unfold atomOk at hd
  split at hd
  · cases h
  · cases h
  · cases h
  · cases h
  · exact hd.elim
theorem Da.tupAt {ds : List PyData} (hd : Da P K c H k v (.tuple ds)) : ∃ (k' : Nat) (a : Addr) (xs : List V), k = k' + 1 ∧ v = .ref a ∧ FrzT H a xs ∧ DaS (Da P K c H k') xs ds := by
  cases k with
  | zero => exact (Da.cont0 hd rfl).elim
  | succ k =>
    obtain ⟨a, xs, ds', h1, h2, h3⟩ := hd.cont rfl
    rcases h2 with ⟨_, _, e⟩ | ⟨h2, e⟩
    · cases e
    · cases e
      exact ⟨k, a, xs, rfl, h1, h2, h3⟩
theorem Da.intAt {i : Int} (hd : Da P K c H k v (.int i)) : v = .int i := by
  have at0 : atomOk c v (.int i) → v = .int i := fun h => by
    unfold atomOk at h
    split at h
    · rename_i h0
      cases h0
    · rename_i h0
      cases h0
    · rename_i h0
      cases h0
      rw [h.1]
    · rename_i h0
      cases h0
    · exact h.elim
  cases k with
  | zero => exact at0 hd
  | succ k =>
    rcases hd with h | ⟨a, xs, ds, _, h2, _⟩
    · exact at0 h
    · rcases h2 with ⟨_, _, e⟩ | ⟨_, e⟩ <;> cases e
end
/-! whether it's a number, a beast, a row -/
def isBeastD : PyData → Bool
  | .tuple [.int _, .int t] => decide (0 ≤ t)
  | _ => false
def isRowD : PyData → Bool
  | .tuple ds => !ds.isEmpty && ds.all isBeastD
  | _ => false
def spAnyB (K : PySem.W.Frag) (f : PyData → Bool) : Sp := fun vs H Q _ => ∃ (P : Addr → Prop) (v : V) (d : PyData) (c k : Nat), vs = [v] ∧ Da P K c H k v d ∧ wtD d ≤ 40000 ∧ ∀ H', Ex H H' → Q (.bl (f d)) H'
theorem sv_any {K : PySem.W.Frag} {f : PyData → Bool} {P : Addr → Prop} {v : V} {d : PyData} {c k : Nat} {H : Hp} (hd : Da P K c H k v d) (hw : wtD d ≤ 40000) : SpV (spAnyB K f) [v] H (.bl (f d)) := fun H1 e Q q E => ⟨P, v, d, c, k, rfl, hd.ex e, hw, q⟩
/-! one thing or two otherwise -/
def spBentA (K : PySem.W.Frag) : Nat → Sp
  | 0 => fun _ _ _ _ => False
  | j + 1 => fun vs H Q _ => ∃ (P : Addr → Prop) (p : Addr) (x : V) (d : PyData) (c n : Nat), vs = [.ref p, x] ∧ P p ∧ (∀ a, P a → ∃ o, H a = some o) ∧ Da P K c H j x d ∧ wtD d ≤ 20000 ∧ c ≤ 100 ∧ Bx H p n ∧ n + 5 * (j + 1) < Lim ∧
    ∀ (y : V) (d' : PyData) (H' : Hp), ExB p H H' → Bx H' p (n + 5 * (j + 1)) → Da P K (c + 1) H' (j + 2) y d' → wtD d' ≤ 2 * wtD d + 400 → Q y H'
def spListsA (K : PySem.W.Frag) : Nat → Sp
  | 0 => fun _ _ _ _ => False
  | j + 1 => fun vs H Q _ => ∃ (P : Addr → Prop) (x : V) (d : PyData) (c : Nat), vs = [x] ∧ (∀ a, P a → ∃ o, H a = some o) ∧ Da P K c H j x d ∧ wtD d ≤ 20000 ∧
    ∀ (y : V) (d' : PyData) (H' : Hp), Ex H H' → Da P K c H' j y d' → wtD d' = wtD d → Q y H'
/-! lists and tuples of any things -/
def EvDa (P : Addr → Prop) (K : PySem.W.Frag) (c k : Nat) (te : TE) (σ : L2.St) (H : Hp) (d : PyData) : Prop := ∀ H1, Ex H H1 → ∀ Q : VK, (∀ v H2, Ex H1 H2 → Da P K c H2 k v d → Q v H2) → te σ H1 Q
def EvDs (P : Addr → Prop) (K : PySem.W.Frag) (c k : Nat) (ta : TA) (σ : L2.St) (H : Hp) (ds : List PyData) : Prop := ∀ H1, Ex H H1 → ∀ Q : List V → Hp → Prop, (∀ us H2, Ex H1 H2 → DaS (Da P K c H2 k) us ds → Q us H2) → ta σ H1 Q
section
variable {P : Addr → Prop} {K : PySem.W.Frag} {c k : Nat} {H H' : Hp} {σ : L2.St} {te ta tb : TE} {D : Ends} {v : V} {d : PyData}
theorem DaS.ex {xs : List V} {ds : List PyData} (h : DaS (Da P K c H k) xs ds) (e : Ex H H') : DaS (Da P K c H' k) xs ds := ⟨h.1, fun i x y hx hy => (h.2 i x y hx hy).ex e⟩
theorem DaS.exB {p : Addr} {xs ys : List V} {ds : List PyData} (h : DaS (Da P K c H k) xs ds) (hP : P p) (e : ExB p H H') (hp : H p = some (.lst ys)) : DaS (Da P K c H' k) xs ds := ⟨h.1, fun i x y hx hy => (h.2 i x y hx hy).exB hP e hp⟩
theorem DaS.add {l : Addr} {xs : List V} {ds : List PyData} (h : DaS (Da P K c H k) xs ds) (hl : H l = none) : DaS (Da (fun a => P a ∨ a = l) K c H k) xs ds := ⟨h.1, fun i x y hx hy => (h.2 i x y hx hy).add hl⟩
theorem DaS.sub {P' : Addr → Prop} {xs : List V} {ds : List PyData} (h : DaS (Da P K c H k) xs ds) (hs : ∀ a, P' a → P a) : DaS (Da P' K c H k) xs ds := ⟨h.1, fun i x y hx hy => (h.2 i x y hx hy).sub hs⟩
theorem DaS.to {c' k' : Nat} {xs : List V} {ds : List PyData} (h : DaS (Da P K c H k) xs ds) (e : k ≤ k') (e2 : c ≤ c') : DaS (Da P K c' H k') xs ds := ⟨h.1, fun i x y hx hy => ((h.2 i x y hx hy).to e).cc e2⟩
theorem DaS.nil {R : V → PyData → Prop} : DaS R [] [] := ⟨rfl, fun i x e h => by simp at h⟩
theorem DaS.cons {R : V → PyData → Prop} {x : V} {d : PyData} {xs : List V} {ds : List PyData} (h : R x d) (g : DaS R xs ds) : DaS R (x :: xs) (d :: ds) := ⟨by rw [List.length_cons, List.length_cons, g.1], fun i y e hy he => by
  cases i with
  | zero =>
    cases hy
    cases he
    exact h
  | succ i => exact g.2 i y e hy he⟩
theorem DaS.app {R : V → PyData → Prop} {xs ys : List V} {ds es : List PyData} (h : DaS R xs ds) (g : DaS R ys es) : DaS R (xs ++ ys) (ds ++ es) := ⟨by rw [List.length_append, List.length_append, h.1, g.1], fun i y e hy he => by
  by_cases hi : i < xs.length
  · rw [List.getElem?_append_left hi] at hy
    rw [List.getElem?_append_left (by rw [← h.1]; exact hi)] at he
    exact h.2 i y e hy he
  · rw [List.getElem?_append_right (by omega)] at hy
    rw [List.getElem?_append_right (by rw [← h.1]; omega)] at he
    rw [← h.1] at he
    exact g.2 _ y e hy he⟩
theorem DaS.set {R : V → PyData → Prop} {xs : List V} {ds : List PyData} {i : Nat} {x : V} {d : PyData} (h : DaS R xs ds) (g : R x d) : DaS R (xs.set i x) (ds.set i d) := ⟨by rw [List.length_set, List.length_set, h.1], fun j y e hy he => by
  rw [List.getElem?_set] at hy he
  by_cases c : i = j
  · rw [if_pos c] at hy he
    by_cases c2 : j < xs.length
    · rw [if_pos (by omega)] at hy
      rw [if_pos (by rw [← h.1]; omega)] at he
      cases hy
      cases he
      exact g
    · rw [if_neg (by omega)] at hy
      cases hy
  · rw [if_neg c] at hy he
    exact h.2 j y e hy he⟩
theorem DaS.erase {R : V → PyData → Prop} {xs : List V} {ds : List PyData} (i : Nat) (h : DaS R xs ds) : DaS R (xs.eraseIdx i) (ds.eraseIdx i) := ⟨by rw [List.length_eraseIdx, List.length_eraseIdx, h.1], fun j y e hy he => by
  rw [List.getElem?_eraseIdx] at hy he
  by_cases c : j < i
  · rw [if_pos c] at hy he
    exact h.2 j y e hy he
  · rw [if_neg c] at hy he
    exact h.2 _ y e hy he⟩
theorem DaS.take {R : V → PyData → Prop} {xs : List V} {ds : List PyData} (n : Nat) (h : DaS R xs ds) : DaS R (xs.take n) (ds.take n) := ⟨by rw [List.length_take, List.length_take, h.1], fun j y e hy he => by
  rw [List.getElem?_take] at hy he
  by_cases c : j < n
  · rw [if_pos c] at hy he
    exact h.2 j y e hy he
  · rw [if_neg c] at hy
    cases hy⟩
theorem DaS.drop {R : V → PyData → Prop} {xs : List V} {ds : List PyData} (n : Nat) (h : DaS R xs ds) : DaS R (xs.drop n) (ds.drop n) := ⟨by rw [List.length_drop, List.length_drop, h.1], fun j y e hy he => by
  rw [List.getElem?_drop] at hy he
  exact h.2 _ y e hy he⟩
theorem DaS.at' {R : V → PyData → Prop} {xs : List V} {ds : List PyData} {i : Nat} (h : DaS R xs ds) (hi : i < xs.length) : ∃ x d, xs[i]? = some x ∧ ds[i]? = some d ∧ R x d := by
  have h2 : i < ds.length := by rw [← h.1]; exact hi
  exact ⟨_, _, List.getElem?_eq_getElem hi, List.getElem?_eq_getElem h2, h.2 i _ _ (List.getElem?_eq_getElem hi) (List.getElem?_eq_getElem h2)⟩
theorem da_lst {a : Addr} {xs : List V} {ds : List PyData} (n : ¬ P a) (h : H a = some (.lst xs)) (g : DaS (Da P K c H k) xs ds) : Da P K c H (k + 1) (.ref a) (.list ds) := .inr ⟨a, xs, ds, rfl, .inl ⟨n, h, rfl⟩, g⟩
theorem da_tup {a : Addr} {xs : List V} {ds : List PyData} (h : FrzT H a xs) (g : DaS (Da P K c H k) xs ds) : Da P K c H (k + 1) (.ref a) (.tuple ds) := .inr ⟨a, xs, ds, rfl, .inr ⟨h, rfl⟩, g⟩
theorem da_atom (h : atomOk c v d) : Da P K c H k v d := by
  cases k with
  | zero => exact h
  | succ k => exact .inl h
theorem ed_val (h : Ev te σ H v) (g : Da P K c H k v d) : EvDa P K c k te σ H d := fun H1 e1 Q q => h H1 e1 _ fun H2 e2 => q v H2 e2 (g.ex (e1.trans e2))
theorem ed_at (h : Ev te σ H v) (g : atomOk c v d) : EvDa P K c k te σ H d := fun H1 e1 Q q => h H1 e1 _ fun H2 e2 => q v H2 e2 (da_atom g)
theorem ed_up {k' : Nat} (h : EvDa P K c k te σ H d) (e : k ≤ k') : EvDa P K c k' te σ H d := fun H1 e1 Q q => h H1 e1 _ fun v H2 e2 g => q v H2 e2 (g.to e)
theorem as_nil : EvDs P K c k tNil σ H [] := fun H1 e1 Q q => q [] H1 (Ex.refl H1) DaS.nil
theorem as_cons {tr : TA} {ds : List PyData} (h : EvDa P K c k ta σ H d) (hr : EvDs P K c k tr σ H ds) : EvDs P K c k (tCons ta tr) σ H (d :: ds) := fun H1 e1 Q q => h H1 e1 _ fun v H2 e2 hv => hr H2 (e1.trans e2) _ fun us H3 e3 b => q (v :: us) H3 (e2.trans e3) (DaS.cons (hv.ex e3) b)
theorem ed_tup {tr : TA} {ds : List PyData} (h : EvDs P K c k tr σ H ds) (hl : ds.length ≤ 10000) : EvDa P K c (k + 1) (tTupF tr) σ H (.tuple ds) := fun H1 e1 Q q => h H1 e1 _ fun us H2 e2 g => ⟨sz_of (by rw [g.1]; omega), fun t o po ht => q _ _ (e2.trans (Ex.new ht)) (da_tup ⟨o, po, upd_same⟩ (g.ex (Ex.new ht)))⟩
theorem ed_lst {tr : TA} {ds : List PyData} (hp : ∀ a, P a → ∃ o, H a = some o) (h : EvDs P K c k tr σ H ds) (hl : ds.length ≤ 10000) : EvDa P K c (k + 1) (tLst tr) σ H (.list ds) := fun H1 e1 Q q => h H1 e1 _ fun us H2 e2 g => ⟨sz_of (by rw [g.1]; omega), fun t ht => q _ _ (e2.trans (Ex.new ht)) (da_lst (fun z => by
    obtain ⟨o, ho⟩ := hp _ z
    exact ne_of_none ((e1.trans e2) _ _ ho) ht rfl) upd_same (g.ex (Ex.new ht)))⟩
/-- a list of things given to a name -/
theorem q_asgDs {i : Nat} {tr : TA} {ds : List PyData} {tz : TS} (h : EvDs P K c k tr σ H ds) (hl : ds.length ≤ 10000) (kk : ∀ a us H1, H a = none → Ex H H1 → H1 a = some (.lst us) → DaS (Da P K c H1 k) us ds → tz D (σ.set i (some (.ref a))) H1) : tSeq (tAsg (tLst tr) (gName i)) tz D σ H :=
  h H (Ex.refl H) _ fun us H1 e1 g => ⟨sz_of (by rw [g.1]; omega), fun a ha => kk a us _ (fresh_back e1 ha) (e1.trans (Ex.new ha)) upd_same (g.ex (Ex.new ha))⟩
end
end HH
namespace HH
open PySem PySem.Spec PyProof.Rows L2 Evl RZ
section
variable {P : Addr → Prop} {K : PySem.W.Frag} {c k : Nat} {H H' : Hp} {σ : L2.St} {te te2 ta tb : TE} {D : Ends} {v : V} {d : PyData}
theorem ev_allB {bs : List Bool} (h : EvL te σ H (bs.map V.bl)) : Ev (tCB (rAll K) (tCons te tNil)) σ H (.bl (bs.all id)) := fun H1 e Q q => h H1 e _ fun p H2 hp e2 h2 => ⟨p, bs, rfl, sq_of h2, q H2 e2⟩
/-- [f(x) for x in t], t a tuple of things -/
theorem el_dsB {a : Addr} {xs : List V} {ds : List PyData} {R : V → PyData → Prop} {j : Nat} {vs : List Nat} (f : PyData → Bool) (h : Ev te σ H (.ref a)) (hs : SqT K H a xs) (hx : DaS R xs ds) (hl : xs.length ≤ 40000) (hw : ∀ x, wipe ((wipe σ vs).set j (some x)) vs = wipe σ vs)
    (he : ∀ (i : Nat) x d, xs[i]? = some x → ds[i]? = some d → ∀ H1, Ex H H1 → Ev te2 ((wipe σ vs).set j (some x)) H1 (.bl (f d))) : EvL (tLc (iTup K te) (gName j) tYes te2 vs) σ H ((ds.map f).map V.bl) := fun H0 e Q q =>
  h H0 e _ fun H1 e1 => ⟨a, rfl, ⟨xs, ex_t (e.trans e1) hs⟩, fun Dl hD => by
    refine in_it (walk_tup (xs := xs)) (fun k H2 => Ex H1 H2 ∧ H2 Dl = some (.lst (((ds.take k).map f).map V.bl))) ⟨Ex.new hD, upd_same⟩ (fun k H2 _ p => ex_t ((e.trans e1).trans p.1) hs) (fun k x H2 H3 hk p y => ?_) (fun H2 p => ?_)
    · obtain ⟨rfl, hxx⟩ := y
      obtain ⟨p1, p2⟩ := p
      have hk2 : k < ds.length := by rw [← hx.1]; exact hk
      have e2 := (e.trans e1).trans p1
      refine ⟨hw _, t_yes ((he k x _ hxx (List.getElem?_eq_getElem hk2) H3 e2) H3 (Ex.refl H3) _ fun H4 e4 => ⟨_, e4 _ _ p2, sz_lt (by rw [List.length_map, List.length_map, List.length_take]; omega), Ex.mut (p1.trans e4) hD, ?_⟩)⟩
      rw [upd_same, List.take_add_one, List.getElem?_eq_getElem hk2, List.map_append, List.map_append]
      rfl
    · obtain ⟨p1, p2⟩ := p
      rw [hx.1, List.take_length] at p2
      exact q Dl H2 (fresh_back e1 hD) (e1.trans p1) p2⟩
theorem wtD_at {ds : List PyData} {i : Nat} {e : PyData} (h : ds[i]? = some e) : wtD e ≤ wtD (.tuple ds) ∧ wtD e ≤ wtD (.list ds) := by
  have := wtDs_get h
  simp only [wtD]
  omega
theorem wtD_len (ds : List PyData) : 2 * ds.length ≤ wtD (.tuple ds) ∧ 2 * ds.length ≤ wtD (.list ds) := by
  have := wtDs_len ds
  simp only [wtD]
  omega
end
def shapeD : PyData → Bool
  | .tuple [a, b] => isNumD a && isNumD b
  | _ => false
end HH
namespace HH
open PySem PySem.Spec PyProof.Rows L2 Evl RZ
theorem isCont {P : Addr → Prop} {K : PySem.W.Frag} {c : Nat} {H : Hp} {k : Nat} {v : V} {d : PyData} (hd : Da P K c H k v d) : (isListB d || isTupB d) = true ∨ ((isListB d || isTupB d) = false ∧ atomOk c v d) := by
  cases k with
  | zero =>
    refine .inr ⟨?_, hd⟩
    cases e : (isListB d || isTupB d) with
    | false => rfl
    | true => exact (Da.cont0 hd e).elim
  | succ k =>
    rcases hd with h | ⟨a, xs, ds, rfl, h2, _⟩
    · refine .inr ⟨?_, h⟩
      cases e : (isListB d || isTupB d) with
      | false => rfl
      | true => exact (Da.cont0 (P := P) (K := K) (H := H) h e).elim
    · rcases h2 with ⟨_, _, rfl⟩ | ⟨_, rfl⟩
      · exact .inl rfl
      · exact .inl rfl
/-- the odd things -/
def oddL : List PyData := [.none, .bool true, .bool false, .int 0, .int 1, .int (-1), .int (10 ^ 30), .str "", .str "a", .tuple [], .list [], .tuple [.int 0, .int 0], .list [.int 0], .tuple [.tuple [.int 0, .int 0]]]
theorem odd_wt {d : PyData} (h : d ∈ oddL) : wtD d ≤ 400 := by
  unfold oddL at h
  simp only [List.mem_cons, List.not_mem_nil, or_false] at h
  rcases h with rfl | rfl | rfl | rfl | rfl | rfl | rfl | rfl | rfl | rfl | rfl | rfl | rfl | rfl <;> simp [wtD, wtDs]
theorem fit0 : StrFit "" := ⟨by decide +kernel, by decide +kernel⟩
theorem fitA : StrFit "a" := ⟨by decide +kernel, by decide +kernel⟩
end HH
namespace HH
open PySem PySem.Spec PyProof.Rows L2 Evl RZ
theorem ret_if {t : TT} {ta tb : TE} {b : Bool} {D : Ends} {σ : L2.St} {H : Hp} (h : EvT t σ H b) (h1 : b = true → ∀ H1, Ex H H1 → ta σ H1 D.rt) (h2 : b = false → ∀ H1, Ex H H1 → tb σ H1 D.rt) : tRet (tIf t ta tb) D σ H := h H (Ex.refl H) _ fun H1 e1 => by
  cases b with
  | true => exact h1 rfl H1 e1
  | false => exact h2 rfl H1 e1
/-- a comprehension over a list or a tuple -/
theorem lc_seqA {K : PySem.W.Frag} {σ : L2.St} {H : Hp} {te : TE} {g : TG} {tt : TT} {te2 : TE} {vs : List Nat} {Q : VK} {a : Addr} {xs : List V} (h : Ev te σ H (.ref a)) (hs : H a = some (.lst xs) ∨ SqT K H a xs) (Pv : Addr → Nat → Hp → Prop) (h0 : ∀ Dl H1, Ex H H1 → H1 Dl = none → Pv Dl 0 (upd H1 Dl (.lst []))) (hG : ∀ Dl i H', Pv Dl i H' → Ex H H')
    (hb : ∀ Dl i x H', xs[i]? = some x → Pv Dl i H' → g x (wipe σ vs) H' fun σ2 H2 => wipe σ2 vs = wipe σ vs ∧ tt σ2 H2 fun b H3 => if b = true then te2 σ2 H3 fun y H4 => ∃ acc, H4 Dl = some (.lst acc) ∧ acc.length < sizeLine ∧ Pv Dl (i + 1) (upd H4 Dl (.lst (acc ++ [y]))) else Pv Dl (i + 1) H3)
    (hd : ∀ Dl H', Pv Dl xs.length H' → Q (.ref Dl) H') : tLc (iSeqA K te) g tt te2 vs σ H Q := h H (Ex.refl H) _ fun H1 e1 => by
  rcases hs with hs | hs
  · exact ⟨a, xs, rfl, .inl ⟨sq_of (e1 _ _ hs), fun Dl hD => lc_it (walk_list (xs := xs)) (Pv Dl) (h0 Dl H1 e1 hD) (fun i H' _ p => sq_of ((hG Dl i H' p) _ _ hs)) (fun i x H2 H3 hi p y => by
      obtain ⟨rfl, hx⟩ := y
      exact hb Dl i x H3 hx p) (hd Dl)⟩⟩
  · exact ⟨a, xs, rfl, .inr ⟨ex_t e1 hs, fun Dl hD => lc_it (walk_tup (xs := xs)) (Pv Dl) (h0 Dl H1 e1 hD) (fun i H' _ p => ex_t (hG Dl i H' p) hs) (fun i x H2 H3 hi p y => by
      obtain ⟨rfl, hx⟩ := y
      exact hb Dl i x H3 hx p) (hd Dl)⟩⟩
end HH
namespace HH
open PySem PySem.Spec PyProof.Rows L2 Evl RZ
section
variable {K : PySem.W.Frag} {σ : L2.St} {H : Hp} {t u : TT} {tu tw tz : TS} {D : Ends} {QB : Bool → Hp → Prop}
theorem and_run (h : EvT t σ H true) (k : ∀ H1, Ex H H1 → u σ H1 QB) : tAnd t u σ H QB := h H (Ex.refl H) _ fun H1 e1 => k H1 e1
theorem and_no (h : EvT t σ H false) (k : ∀ H1, Ex H H1 → QB false H1) : tAnd t u σ H QB := h H (Ex.refl H) _ fun H1 e1 => k H1 e1
theorem or_run (h : EvT t σ H false) (k : ∀ H1, Ex H H1 → u σ H1 QB) : tOr t u σ H QB := h H (Ex.refl H) _ fun H1 e1 => k H1 e1
theorem or_yes (h : EvT t σ H true) (k : ∀ H1, Ex H H1 → QB true H1) : tOr t u σ H QB := h H (Ex.refl H) _ fun H1 e1 => k H1 e1
theorem if_run (h : t σ H fun c H1 => (c = true → tu D σ H1) ∧ (c = false → tw D σ H1)) (mono : ∀ QA QC : Bool → Hp → Prop, (∀ c H1, QA c H1 → QC c H1) → t σ H QA → t σ H QC) : tIfS t tu tw D σ H := mono _ _ (fun c H1 hc => by
  cases c with
  | true => exact hc.1 rfl
  | false => exact hc.2 rfl) h
/-- a test that draws -/
theorem draw0 {p : Addr} {ib n : Nat} {m : Int} {X : XK} (hp : σ[ib]? = some (some (.ref p))) (h0 : 0 < m) (h1 : m < 1073741824) (hb : Bx H p n) (hn : n < Lim) (k : ∀ c H1, ExB p H H1 → Bx H1 p (n + 1) → QB c H1) : tTest (tOp rEq (tCall spTake [] X (tCons (tVar ib) (tCons (tC (.int m)) tNil))) (tC (.int 0))) σ H QB :=
  ⟨.ref p, hp, p, m, n, rfl, h0, h1, hb, hn, fun r H1 r0 r1 x1 b1 => ⟨rfl, _, rfl, k _ H1 x1 b1⟩⟩
theorem s_ifB {b : Bool} (h : EvT t σ H b) (h1 : b = true → ∀ H1, Ex H H1 → tu D σ H1) (h2 : b = false → ∀ H1, Ex H H1 → tw D σ H1) : tIfS t tu tw D σ H := s_if h h1 h2
end
end HH
namespace HH
open PySem PySem.Spec PyProof.Rows L2 Evl RZ
theorem Da.intB {P : Addr → Prop} {K : PySem.W.Frag} {c k : Nat} {H : Hp} {v : V} {i : Int} (hd : Da P K c H k v (.int i)) : i.natAbs ≤ 10 ^ 30 + c := by
  have at0 : atomOk c v (.int i) → i.natAbs ≤ 10 ^ 30 + c := fun h => by
    unfold atomOk at h
    split at h
    · rename_i h0
      cases h0
    · rename_i h0
      cases h0
    · rename_i h0
      cases h0
      rw [← h.1]
      exact h.2
    · rename_i h0
      cases h0
    · exact h.elim
  cases k with
  | zero => exact at0 hd
  | succ k =>
    rcases hd with h | ⟨a, xs, ds, _, h2, _⟩
    · exact at0 h
    · rcases h2 with ⟨_, _, e⟩ | ⟨_, e⟩ <;> cases e
end HH
set_option maxHeartbeats 4000000
namespace HH
open PySem PySem.Spec PyProof.Rows L2 Evl RZ
/-! things whose data isn't named -/
def ItA (P : Addr → Prop) (K : PySem.W.Frag) (H : Hp) (v : V) : Prop := ∃ d, Da P K 2 H 6 v d ∧ wtD d ≤ 20000
def EvI (P : Addr → Prop) (K : PySem.W.Frag) (te : TE) (σ : L2.St) (H : Hp) : Prop := ∀ H1, Ex H H1 → ∀ Q : VK, (∀ v H2, Ex H1 H2 → ItA P K H2 v → Q v H2) → te σ H1 Q
def EvIs (P : Addr → Prop) (K : PySem.W.Frag) (n : Nat) (ta : TA) (σ : L2.St) (H : Hp) : Prop := ∀ H1, Ex H H1 → ∀ Q : List V → Hp → Prop, (∀ us H2, Ex H1 H2 → us.length = n → (∀ v ∈ us, ItA P K H2 v) → Q us H2) → ta σ H1 Q
def spBentE (K : PySem.W.Frag) : Sp := fun vs H Q E => spBentA K 3 vs H Q E ∨ spBentA K 5 vs H Q E
section
variable {P : Addr → Prop} {K : PySem.W.Frag} {c k n : Nat} {H H' : Hp} {σ : L2.St} {te ta tb : TE} {D : Ends} {v : V} {d : PyData} {rs : HH.Row}
theorem ItA.ex (e : Ex H H') (h : ItA P K H v) : ItA P K H' v := by
  obtain ⟨d, h, w⟩ := h
  exact ⟨d, h.ex e, w⟩
theorem ItA.exB {p : Addr} {ys : List V} (hP : P p) (e : ExB p H H') (hp : H p = some (.lst ys)) (h : ItA P K H v) : ItA P K H' v := by
  obtain ⟨d, h, w⟩ := h
  exact ⟨d, h.exB hP e hp, w⟩
theorem ItA.add {l : Addr} (hl : H l = none) (h : ItA P K H v) : ItA (fun a => P a ∨ a = l) K H v := by
  obtain ⟨d, h, w⟩ := h
  exact ⟨d, h.add hl, w⟩
theorem ItA.sub {P' : Addr → Prop} (hs : ∀ a, P' a → P a) (h : ItA P K H v) : ItA P' K H v := by
  obtain ⟨d, h, w⟩ := h
  exact ⟨d, h.sub hs, w⟩
theorem ei_of (h : EvDa P K c k te σ H d) (hk : k ≤ 6) (hc : c ≤ 2) (hw : wtD d ≤ 8000) : EvI P K te σ H := fun H1 e1 Q q => h H1 e1 _ fun v H2 e2 g => q v H2 e2 ⟨d, (g.to hk).cc hc, by omega⟩
theorem is_nil : EvIs P K 0 tNil σ H := fun H1 e1 Q q => q [] H1 (Ex.refl H1) rfl fun v hv => by simp at hv
theorem is_cons {tr : TA} (h : EvI P K ta σ H) (hr : EvIs P K n tr σ H) : EvIs P K (n + 1) (tCons ta tr) σ H := fun H1 e1 Q q => h H1 e1 _ fun v H2 e2 hv => hr H2 (e1.trans e2) _ fun us H3 e3 hl b => q (v :: us) H3 (e2.trans e3) (by rw [List.length_cons, hl]) fun x hx => by
  rcases List.mem_cons.mp hx with rfl | hx
  · exact hv.ex e3
  · exact b x hx
theorem is_ds {tr : TA} {ds : List PyData} (h : EvDs P K c k tr σ H ds) (hk : k ≤ 6) (hc : c ≤ 2) (hw : ∀ d ∈ ds, wtD d ≤ 8000) : EvIs P K ds.length tr σ H := fun H1 e1 Q q => h H1 e1 _ fun us H2 e2 g => q us H2 e2 g.1 fun v hv => by
  obtain ⟨i, hi⟩ := List.getElem?_of_mem hv
  obtain ⟨x, d, hx, hd, r⟩ := g.at' (i := i) (List.getElem?_eq_some_iff.mp hi).1
  rw [hx] at hi
  cases hi
  exact ⟨d, (r.to hk).cc hc, Nat.le_trans (hw d (List.mem_of_getElem? hd)) (by decide)⟩
theorem q_asgIs {i : Nat} {tr : TA} {tz : TS} (h : EvIs P K n tr σ H) (hl : n ≤ 10000) (kk : ∀ a us H1, H a = none → Ex H H1 → H1 a = some (.lst us) → us.length = n → (∀ v ∈ us, ItA P K H1 v) → tz D (σ.set i (some (.ref a))) H1) : tSeq (tAsg (tLst tr) (gName i)) tz D σ H :=
  h H (Ex.refl H) _ fun us H1 e1 hn g => ⟨sz_of (by omega), fun a ha => kk a us _ (fresh_back e1 ha) (e1.trans (Ex.new ha)) upd_same hn fun v hv => (g v hv).ex (Ex.new ha)⟩
theorem q_catIs {i : Nat} {tr : TA} {tz : TS} {T : Addr} {us : List V} (h0 : Ev te σ H (.ref T)) (gT : H T = some (.lst us)) (hu : ∀ v ∈ us, ItA P K H v) (h : EvIs P K n tr σ H) (hl : us.length + n ≤ 10000)
    (kk : ∀ a vs H1, H a = none → Ex H H1 → H1 a = some (.lst (us ++ vs)) → vs.length = n → (∀ v ∈ us ++ vs, ItA (fun z => P z ∨ z = a) K H1 v) → tz D (σ.set i (some (.ref a))) H1) : tSeq (tAsg (tOp rCat te (tLst tr)) (gName i)) tz D σ H :=
  h0 H (Ex.refl H) _ fun H1 e1 => h H1 e1 _ fun vs H2 e2 hn g => ⟨sz_of (by omega), fun b hb => by
    have eb := (e1.trans e2).trans (Ex.new (o := .lst vs) hb)
    refine ⟨T, b, us, vs, rfl, rfl, eb _ _ gT, upd_same, sz_of (by omega), fun a ha => kk a vs _ (fresh_back eb ha) (eb.trans (Ex.new ha)) upd_same hn fun v hv => ?_⟩
    rcases List.mem_append.mp hv with hv | hv
    · exact (((hu v hv).ex eb).add ha).ex (Ex.new ha)
    · exact (((g v hv).ex (Ex.new hb)).add ha).ex (Ex.new ha)⟩
theorem rc_reprI (hd : Da P K c H k v d) (hk : k ≤ 60) (hc : c ≤ 1000) (hw : wtD d ≤ 100000) : RC (fun xs H Q => ∃ (v : V) (d : PyData), xs = [v] ∧ Dp K H v d ∧ Nice 60 d ∧ d.showable = true ∧ d.shown.length ≤ sizeLine ∧ Q (.str d.shown) H) [v] H (.str d.shown) := fun H1 e1 Q q =>
  ⟨v, d, rfl, (hd.ex e1).dp, nice_mono hd.nice hk, (hd.shw hc).1, sz_of (Nat.le_trans (hd.shw hc).2 hw), q H1 (Ex.refl H1)⟩
end
end HH
namespace HH
theorem ite_t {p q : Prop} (h : p) : if true = true then p else q := h
theorem ite_f {p q : Prop} (h : q) : if false = true then p else q := h
end HH
set_option maxHeartbeats 4000000
namespace HH
open PySem PySem.Spec PyProof.Rows L2 Evl RZ
/-! ### orders among any things -/
def rTCnt (K : PySem.W.Frag) : V → List V → Hp → VK → Prop := fun x xs H Q => ∃ (p : Addr) (ns : List Int) (k : Int), x = .ref p ∧ xs = [.int k] ∧ SqT K H p (ns.map V.int) ∧ Q (.int (ns.count k : Nat)) H
theorem mt_tcount {X : Cx} {K : PySem.W.Frag} (hK : X.K = K := by rfl) : MtR X "tuple.count" (rTCnt K) := by
  subst hK
  intro pins s σ H x xs v us Q I rx rxs h
  obtain ⟨p, ns, k, rfl, rfl, hs, q⟩ := h
  cases rx
  obtain ⟨u, rfl, ru⟩ := rxs.one
  obtain ⟨t, rfl⟩ := ru
  obtain ⟨its, rv, ⟨⟨cls, dd, data, sl⟩, ho, hc, n, hd⟩, _⟩ := I.tuple hs
  dsimp only at hc hd
  subst hc hd
  have hi := ints_of_vals rv
  refine call_meets PySem.F.slot_tuple_count ⟨_, ho, rfl⟩ PySem.F.entry_tuple_count (PySem.F.args_tuple_count_2 _ _)
    (SeqAt.tuple_countAt p its.toArray n dd sl (.int k t) (eqk k)) ⟨ho, fun y hy => (eqk_gives hi y (by simpa using hy)).at _ _, ?_⟩
  have ec : its.toArray.toList.countP (eqk k) = ns.count k := eqk_count hi
  refine ⟨.int (ns.count k : Nat), H, I.tok _, ⟨s.toks, ?_⟩, q⟩
  show Value.int ((its.toArray.toList.countP (eqk k) : Nat) : Int) s.toks = Value.int ((ns.count k : Nat) : Int) s.toks
  rw [ec]
/-! 0, 1, .. n - 1, each once -/
def rgI (n : Nat) : List Int := (List.range n).map fun (i : Nat) => (i : Int)
def orderB (n : Nat) (ns : List Int) : Bool := decide (ns.length = n) && ((List.range n).map fun (i : Nat) => decide (ns.count (i : Int) = 1)).all id
theorem rgI_succ (n : Nat) : rgI (n + 1) = rgI n ++ [(n : Int)] := by
  unfold rgI
  rw [List.range_succ, List.map_append]
  rfl
theorem rgI_len (n : Nat) : (rgI n).length = n := by
  unfold rgI
  rw [List.length_map, List.length_range]
theorem count_rg : ∀ (n i : Nat), (rgI n).count (i : Int) = if i < n then 1 else 0
  | 0, i => rfl
  | n + 1, i => by
    rw [rgI_succ, List.count_append, count_rg n i, List.count_singleton]
    by_cases h : i = n
    · subst h
      simp
    · have h2 : ¬ ((n : Int) = (i : Int)) := by omega
      have h3 : ((n : Int) == (i : Int)) = false := by simpa using h2
      rw [h3]
      rw [if_neg (show ¬ (false = true) by decide)]
      split <;> split <;> omega
theorem perm_rg : ∀ (n : Nat) (ns : List Int), ns.length = n → (∀ i : Nat, i < n → ns.count (i : Int) = 1) → ns.Perm (rgI n)
  | 0, ns, h, _ => by
    rw [List.length_eq_zero_iff.mp h]
    exact .nil
  | n + 1, ns, h, g => by
    have hm : (n : Int) ∈ ns := List.count_pos_iff.mp (by rw [g n (by omega)]; decide)
    have p1 := List.perm_cons_erase hm
    have l1 : (ns.erase (n : Int)).length = n := by
      have := p1.length_eq
      rw [List.length_cons] at this
      omega
    have ih := perm_rg n (ns.erase (n : Int)) l1 fun i hi => by
      rw [List.count_erase_of_ne (by omega)]
      exact g i (by omega)
    rw [rgI_succ]
    exact p1.trans ((List.Perm.cons _ ih).trans (List.perm_append_singleton _ _).symm)
theorem order_perm {n : Nat} {ns : List Int} : orderB n ns = true ↔ ns.Perm (rgI n) := by
  constructor
  · intro h
    obtain ⟨h1, h2⟩ := Bool.and_eq_true_iff.mp h
    exact perm_rg n ns (of_decide_eq_true h1) fun i hi => of_decide_eq_true (List.all_eq_true.mp h2 _ (List.mem_map.mpr ⟨i, List.mem_range.mpr hi, rfl⟩))
  · intro h
    refine Bool.and_eq_true_iff.mpr ⟨decide_eq_true (by rw [h.length_eq, rgI_len]), List.all_eq_true.mpr fun b hb => ?_⟩
    obtain ⟨i, hi, rfl⟩ := List.mem_map.mp hb
    show decide (ns.count (i : Int) = 1) = true
    rw [h.count_eq, count_rg, if_pos (List.mem_range.mp hi)]
    rfl
theorem rgI_rise : ∀ n, (rgI n).Pairwise (· ≤ ·)
  | 0 => .nil
  | n + 1 => by
    rw [rgI_succ, List.pairwise_append]
    refine ⟨rgI_rise n, List.pairwise_singleton _ _, fun a ha b hb => ?_⟩
    rw [List.mem_singleton.mp hb]
    obtain ⟨i, hi, rfl⟩ := List.mem_map.mp ha
    have := List.mem_range.mp hi
    omega
theorem sort_order {n : Nat} {ns ns' : List Int} (p : ns'.Perm ns) (s : ns'.Pairwise (· ≤ ·)) : decide (ns' = rgI n) = orderB n ns := by
  rw [Bool.eq_iff_iff, decide_eq_true_iff, order_perm]
  constructor
  · intro h
    rw [← h]
    exact p.symm
  · intro h
    exact sorted_same (p.trans h) s (rgI_rise n)
theorem rg0 (n : Nat) : rgV 0 (n : Int) = (rgI n).map V.int := by
  unfold rgV rgI
  rw [List.map_map, Int.sub_zero, Int.toNat_natCast]
  refine List.map_congr_left fun i _ => ?_
  show V.int (0 + (i : Int)) = V.int (i : Int)
  rw [Int.zero_add]
theorem rg1 (n : Nat) : rgV 1 ((n : Int) + 1) = ((List.range n).map fun (i : Nat) => (1 : Int) + (i : Int)).map V.int := by
  unfold rgV
  rw [List.map_map, show ((n : Int) + 1 - 1).toNat = n by omega]
  rfl
def intsD (ds : List PyData) : List Int := ds.map fun d => match d with
  | .int i => i
  | _ => 0
def isOrderD (n : Nat) : PyData → Bool
  | .tuple ds => ds.all isNumD && orderB n (intsD ds)
  | _ => false
theorem num_is {d : PyData} (h : isNumD d = true) : ∃ i, d = .int i := by
  cases d with
  | int i => exact ⟨i, rfl⟩
  | none => cases h
  | bool _ => cases h
  | str _ => cases h
  | list _ => cases h
  | tuple _ => cases h
  | dict _ => cases h
theorem tup_is {d : PyData} (h : isTupB d = true) : ∃ ds, d = .tuple ds := by
  cases d with
  | tuple ds => exact ⟨ds, rfl⟩
  | none => cases h
  | bool _ => cases h
  | int _ => cases h
  | str _ => cases h
  | list _ => cases h
  | dict _ => cases h
theorem notTupO {n : Nat} {d : PyData} (h : isTupB d = false) : isOrderD n d = false := by
  cases d with
  | tuple _ => cases h
  | none => rfl
  | bool _ => rfl
  | int _ => rfl
  | str _ => rfl
  | list _ => rfl
  | dict _ => rfl
theorem eqvA_ints : ∀ ns ms : List Int, PyData.eqvAll (ns.map PyData.int) (ms.map PyData.int) = decide (ns = ms)
  | [], [] => by simp [PyData.eqvAll]
  | [], _ :: _ => by simp [PyData.eqvAll]
  | _ :: _, [] => by simp [PyData.eqvAll]
  | a :: ns, b :: ms => by
    have ih := eqvA_ints ns ms
    have e : PyData.eqv (.int a) (.int b) = decide (a = b) := by
      simp [PyData.eqv]
      rfl
    simp only [List.map_cons, PyData.eqvAll, ih, e]
    rw [Bool.eq_iff_iff, Bool.and_eq_true_iff, decide_eq_true_iff, decide_eq_true_iff, decide_eq_true_iff]
    exact ⟨fun ⟨h1, h2⟩ => by rw [h1, h2], fun h => List.cons.inj h⟩
theorem eqv_ints (ns ms : List Int) : PyData.eqv (.list (ns.map PyData.int)) (.list (ms.map PyData.int)) = decide (ns = ms) := by
  rw [← eqvA_ints]
  simp only [PyData.eqv]
theorem dp_intsA {K : PySem.W.Frag} {H : Hp} : ∀ ns : List Int, DpAll K H (ns.map V.int) (ns.map PyData.int)
  | [] => .nil
  | n :: ns => .cons (.int n) (dp_intsA ns)
theorem wts_ints : ∀ ns : List Int, wtDs (ns.map PyData.int) = 52 * ns.length
  | [] => rfl
  | n :: ns => by
    have := wts_ints ns
    simp only [List.map_cons, wtDs, this, wtD, List.length_cons]
    omega
section
variable {P : Addr → Prop} {K : PySem.W.Frag} {c k n : Nat} {H H' : Hp} {σ : L2.St} {te ta tb : TE} {D : Ends} {v x : V} {d : PyData} {rs : HH.Row}
theorem das_num {xs : List V} {ds : List PyData} (h : DaS (Da P K c H k) xs ds) (g : ds.all isNumD = true) : xs = (intsD ds).map V.int ∧ ds = (intsD ds).map PyData.int := by
  constructor
  · refine List.ext_getElem? fun i => ?_
    rw [List.getElem?_map, intsD, List.getElem?_map]
    by_cases hi : i < xs.length
    · obtain ⟨y, e, h1, h2, r⟩ := h.at' hi
      obtain ⟨j, rfl⟩ := num_is (List.all_eq_true.mp g _ (List.mem_of_getElem? h2))
      rw [h1, h2, r.intAt]
      rfl
    · rw [List.getElem?_eq_none (by omega), List.getElem?_eq_none (by rw [← h.1]; omega)]
      rfl
  · unfold intsD
    rw [List.map_map]
    conv => lhs; rw [← List.map_id ds]
    refine List.map_congr_left fun d hd => ?_
    obtain ⟨j, rfl⟩ := num_is (List.all_eq_true.mp g _ hd)
    rfl
theorem das_ints {ns : List Int} (b : ∀ i ∈ ns, i.natAbs ≤ 10 ^ 30 + c) : DaS (Da P K c H k) (ns.map V.int) (ns.map PyData.int) := ⟨by rw [List.length_map, List.length_map], fun i x y hx hy => by
  rw [List.getElem?_map] at hx hy
  cases h : ns[i]? with
  | none =>
    rw [h] at hx
    cases hx
  | some j =>
    rw [h] at hx hy
    cases hx
    cases hy
    exact da_atom ⟨rfl, b j (List.mem_of_getElem? h)⟩⟩
theorem ev_ifB {t : TT} {b : Bool} (h : EvT t σ H b) (h1 : b = true → Ev ta σ H v) (h2 : b = false → Ev tb σ H v) : Ev (tIf t ta tb) σ H v := fun H1 e1 Q q => h H1 e1 _ fun H2 e2 => by
  cases b with
  | true => exact h1 rfl H2 (e1.trans e2) Q fun H3 e3 => q H3 (e2.trans e3)
  | false => exact h2 rfl H2 (e1.trans e2) Q fun H3 e3 => q H3 (e2.trans e3)
def spOrd (K : PySem.W.Frag) : Sp := fun vs H Q _ => ∃ (P : Addr → Prop) (v : V) (rs : HH.Row) (x : V) (d : PyData) (c k : Nat), vs = [v, x] ∧ RowAt K H v rs ∧ rs.length ≤ 1000 ∧ Da P K c H k x d ∧ wtD d ≤ 40000 ∧ ∀ H', Ex H H' → Q (.bl (isOrderD rs.length d)) H'
def spOrdL (K : PySem.W.Frag) : Sp := fun vs H Q _ => ∃ (P : Addr → Prop) (n : Nat) (x : V) (d : PyData) (c k : Nat), vs = [.int (n : Int), x] ∧ n ≤ 1000 ∧ Da P K c H k x d ∧ wtD d ≤ 40000 ∧ ∀ H', Ex H H' → Q (.bl (isOrderD n d)) H'
theorem sv_ord (hv : RowAt K H v rs) (hl : rs.length ≤ 1000) (hd : Da P K c H k x d) (hw : wtD d ≤ 40000) : SpV (spOrd K) [v, x] H (.bl (isOrderD rs.length d)) := fun H1 e Q q E => ⟨P, v, rs, x, d, c, k, rfl, hv.ex e, hl, hd.ex e, hw, q⟩
theorem sv_ordL (hn : n ≤ 1000) (hd : Da P K c H k x d) (hw : wtD d ≤ 40000) : SpV (spOrdL K) [.int (n : Int), x] H (.bl (isOrderD n d)) := fun H1 e Q q E => ⟨P, n, x, d, c, k, rfl, hn, hd.ex e, hw, q⟩
theorem el_bothO {X : XK} (h1 : Ev ta σ H v) (h2 : Ev tb σ H x) (hv : RowAt K H v rs) (hl : rs.length ≤ 1000) (hd : Da P K c H k x d) (hw : wtD d ≤ 40000) : EvL (tLst (tCons (tCall (spOrd K) [] X (tCons ta (tCons tb tNil))) (tCons (tCallN 0 2 (spOrd K) (fun _ zs => zs.reverse) X tNil (tCons tb (tCons ta tNil))) tNil))) σ H [.bl (isOrderD rs.length d), .bl (isOrderD rs.length d)] :=
  el_lst (ea_cons (ev_call (ea_cons h1 (ea_cons h2 ea_nil)) (sv_ord hv hl hd hw)) (ea_cons (ev_callN2 h2 h1 (sv_ord hv hl hd hw)) ea_nil)) (by show 2 ≤ 100000; decide)
/-- repr([row, thing]) -/
theorem ev_reprRI (h1 : Ev ta σ H v) (hv : RowAt K H v rs) (low : ∀ b ∈ rs, Low b) (hl : rs.length ≤ 100) (h2 : Ev tb σ H x) (hd : Da P K c H k x d) (hk : k ≤ 50) (hc : c ≤ 1000) (hw : wtD d ≤ 30000) :
    Ev (tCB (fun xs H Q => ∃ (a : Addr) (d : PyData), xs = [.ref a] ∧ Dp K H (.ref a) d ∧ Nice 60 d ∧ d.showable = true ∧ d.shown.length ≤ sizeLine ∧ Q (.str d.shown) H) (tCons (tLst (tCons ta (tCons tb tNil))) tNil)) σ H (.str (PyData.list [rowD rs, d]).shown) := fun H1 e1 Q q =>
  h1 H1 e1 _ fun H2 e2 => h2 H2 (e1.trans e2) _ fun H3 e3 => ⟨by show 2 ≤ sizeLine; decide, fun l hl2 => by
    have nc := Ex.new (o := .lst [v, x]) hl2
    have e := ((e1.trans e2).trans e3).trans nc
    obtain ⟨a, rfl, hdp⟩ := (hv.ex e).dp
    have s1 : Shw 60100 (PyData.list [rowD rs, d]) := (shw_list (n := 30000) fun d' hd' => by
      rcases List.mem_cons.mp hd' with rfl | hd'
      · exact (shw_row low).le (by omega)
      · cases List.mem_singleton.mp hd'
        exact ⟨(hd.shw hc).1, Nat.le_trans (hd.shw hc).2 hw⟩).le (by show 30002 * 2 + 10 ≤ 60100; decide)
    refine ⟨l, .list [rowD rs, d], rfl, .lst (sq_of upd_same) (.cons hdp (.cons (hd.ex e).dp .nil)), nice_mono (k := 51) (nice_list fun d' hd' => ?_) (by decide), s1.1, sz_of (Nat.le_trans s1.2 (by decide)), q _ ((e2.trans e3).trans nc)⟩
    rcases List.mem_cons.mp hd' with rfl | hd'
    · exact nice_mono (nice_row rs) (by decide)
    · cases List.mem_singleton.mp hd'
      exact nice_mono hd.nice hk⟩
end
end HH
set_option maxHeartbeats 4000000
namespace HH
open PySem PySem.Spec PyProof.Rows L2 Evl
/-- a row and any order of it -/
structure OrdAt (K : PySem.W.Frag) (H : Hp) (v : V) (o : Addr) (rs : HH.Row) (l : List Nat) : Prop where
  row : RowAt K H v rs
  len : rs.length ≤ 30
  tl : ∀ b ∈ rs, 0 ≤ b.2
  ord : SqT K H o (natsV l)
  ids : l.Perm (List.range rs.length)
section
variable {K : PySem.W.Frag} {H H' : Hp} {v : V} {o : Addr} {rs : HH.Row} {l : List Nat}
theorem OrdAt.ex (h : OrdAt K H v o rs l) (e : Ex H H') : OrdAt K H' v o rs l := ⟨h.row.ex e, h.len, h.tl, ex_t e h.ord, h.ids⟩
theorem OrdAt.nd (h : OrdAt K H v o rs l) : l.Nodup := h.ids.nodup_iff.mpr List.nodup_range
theorem OrdAt.lenL (h : OrdAt K H v o rs l) : l.length = rs.length := by rw [h.ids.length_eq, List.length_range]
theorem OrdAt.all (h : OrdAt K H v o rs l) (x : Nat) (hx : x < l.length) : x ∈ l := h.ids.mem_iff.mpr (List.mem_range.mpr (by rw [← h.lenL]; exact hx))
end
/-- the first kept pair that is turned about -/
def barF (e b l : List Nat) (n : Nat) : Option (Int × Int) := (tabP (keepP e b) n n).find? fun pr => bef l pr.2.toNat pr.1.toNat
theorem find_at {α : Type} {p : α → Bool} {l : List α} {k : Nat} {x : α} (hk : l[k]? = some x) (hx : p x = true) (h0 : (l.take k).find? p = none) : l.find? p = some x := by
  obtain ⟨h1, h2⟩ := List.getElem?_eq_some_iff.mp hk
  have e : l = l.take k ++ x :: l.drop (k + 1) := by
    have := List.drop_eq_getElem_cons h1
    rw [h2] at this
    exact (List.take_append_drop k l).symm.trans (by rw [this])
  rw [e, List.find?_append, h0, List.find?_cons_of_pos hx]
  rfl
theorem find_none_step {α : Type} {p : α → Bool} {l : List α} {k : Nat} {x : α} (hk : l[k]? = some x) (hx : p x = false) (h0 : (l.take k).find? p = none) : (l.take (k + 1)).find? p = none := by
  rw [List.take_add_one, hk, List.find?_append, h0]
  show (none : Option α).or ([x].find? p) = none
  rw [List.find?_cons_of_neg (by rw [hx]; decide)]
  rfl
theorem keeps_none {rs : HH.Row} {E B : List Cow} {l : List Nat} (tl : ∀ x ∈ rs, 0 ≤ x.2) (sE : Steps (tag 0 rs) E) (nE : Nf E) (sB : FSteps (tag 0 rs) B) (nB : Ff B) (ids : l.Perm (List.range rs.length)) (h : barF (E.map (·.1)) (B.map (·.1)) l rs.length = none) : Keeps rs l := by
  refine ⟨ids, fun E' B' sE' nE' sB' nB' i j h1 h2 h3 h4 => ?_⟩
  have t0 : ∀ x ∈ tag 0 rs, 0 ≤ x.2.2 := (good_tag tl).tl
  rw [nf_any t0 sE' nE' sE nE] at h3
  rw [ff_any t0 sB' nB' sB nB] at h4
  have := List.find?_eq_none.mp h ((i : Int), (j : Int)) (mem_tabP.mpr ⟨i, j, h1, h2, rfl, (keep_iff h1).mpr ⟨h3, h4⟩⟩)
  simpa using this
def spFirstNK (K : PySem.W.Frag) : Sp := fun vs H Q _ => ∃ (v : V) (o : Addr) (rs : HH.Row) (l : List Nat) (E B : List Cow), vs = [v, .ref o] ∧ OrdAt K H v o rs l ∧ Steps (tag 0 rs) E ∧ Nf E ∧ FSteps (tag 0 rs) B ∧ Ff B ∧
  (barF (E.map (·.1)) (B.map (·.1)) l rs.length = none → ∀ H', Ex H H' → Q .non H') ∧ ∀ pr, barF (E.map (·.1)) (B.map (·.1)) l rs.length = some pr → ∀ (T : Addr) (H' : Hp), Ex H H' → H' T = some (.tup [.int pr.1, .int pr.2]) → Q (.ref T) H'
def spRefuseX (K : PySem.W.Frag) (C : Addr) : Sp := fun vs H Q X => ∃ (v : V) (o : Addr) (rs : HH.Row) (l : List Nat) (E B : List Cow), vs = [v, .ref o] ∧ OrdAt K H v o rs l ∧ Steps (tag 0 rs) E ∧ Nf E ∧ FSteps (tag 0 rs) B ∧ Ff B ∧
  (barF (E.map (·.1)) (B.map (·.1)) l rs.length = none → ∀ H', Ex H H' → Q .non H') ∧ ∀ pr, barF (E.map (·.1)) (B.map (·.1)) l rs.length = some pr → ∀ (T d : Addr) (H' : Hp), Ex H H' → H' T = some (.tup [.int pr.1, .int pr.2]) → H' d = none → X (.ref C) (some d) (upd H' d (.xd [(("pair" : Str), .ref T)]))
def spHayX (K : PySem.W.Frag) (C : Addr) : Sp := fun vs H Q X => ∃ (v : V) (o : Addr) (rs : HH.Row) (l : List Nat) (E B : List Cow), vs = [v, .ref o] ∧ OrdAt K H v o rs l ∧ Steps (tag 0 rs) E ∧ Nf E ∧ FSteps (tag 0 rs) B ∧ Ff B ∧
  (barF (E.map (·.1)) (B.map (·.1)) l rs.length = none → ∀ (q : Addr) (us : List V) (H' : Hp), H q = none → Ex H H' → H' q = some (.lst us) → BeastsT H' us (hayL (E.map (·.1)) rs (tab l rs.length rs.length) rs.length) → Q (.ref q) H') ∧
  ∀ pr, barF (E.map (·.1)) (B.map (·.1)) l rs.length = some pr → ∀ (T d : Addr) (H' : Hp), Ex H H' → H' T = some (.tup [.int pr.1, .int pr.2]) → H' d = none → X (.ref C) (some d) (upd H' d (.xd [(("pair" : Str), .ref T)]))
def spToldX (K : PySem.W.Frag) : Sp := fun vs H Q _ => ∃ (v : V) (o : Addr) (rs : HH.Row) (l : List Nat) (E B : List Cow), vs = [v, .ref o] ∧ OrdAt K H v o rs l ∧ Steps (tag 0 rs) E ∧ Nf E ∧ FSteps (tag 0 rs) B ∧ Ff B ∧
  (barF (E.map (·.1)) (B.map (·.1)) l rs.length = none → ∀ (q : Addr) (us : List V) (H' : Hp), H q = none → Ex H H' → H' q = some (.lst us) → BeastsT H' us (hayL (E.map (·.1)) rs (tab l rs.length rs.length) rs.length) → Q (.ref q) H') ∧
  ∀ pr, barF (E.map (·.1)) (B.map (·.1)) l rs.length = some pr → ∀ (T : Addr) (H' : Hp), Ex H H' → H' T = some (.tup [.int pr.1, .int pr.2]) → Q (.ref T) H'
/-- some order of them -/
def spStrewn (K : PySem.W.Frag) : Sp := fun vs H Q _ => ∃ (p a : Addr) (l : List Nat) (n : Nat), vs = [.ref p, .ref a] ∧ H a = some (.lst (natsV l)) ∧ a ≠ p ∧ l.length ≤ 30 ∧ Bx H p n ∧ n + 30 < Lim ∧ ∀ (q : Addr) (l' : List Nat) (H' : Hp), H q = none → ExB p H H' → Bx H' p (n + 30) → H' q = some (.lst (natsV l')) → l'.Perm l → Q (.ref q) H'
def spNearS (K : PySem.W.Frag) : Sp := fun vs H Q _ => ∃ (p a : Addr) (l : List Nat) (n : Nat), vs = [.ref p, .ref a] ∧ SqT K H a (natsV l) ∧ 2 ≤ l.length ∧ l.length ≤ 30 ∧ Bx H p n ∧ n + 40 < Lim ∧ ∀ (q : Addr) (l' : List Nat) (H' : Hp), H q = none → ExB p H H' → Bx H' p (n + 40) → H' q = some (.tup (natsV l')) → l'.Perm l → Q (.ref q) H'
def spTurnedP (K : PySem.W.Frag) : Sp := fun vs H Q _ => ∃ (o : Addr) (l : List Nat), vs = [.ref o] ∧ SqT K H o (natsV l) ∧ l.Perm (List.range l.length) ∧ l.length ≤ 30 ∧ ∀ (q : Addr) (us : List V) (H' : Hp), H q = none → Ex H H' → H' q = some (.lst us) → Beasts K H' us (tab l l.length l.length) → Q (.ref q) H'
end HH
set_option maxHeartbeats 4000000
namespace K05
open PySem PySem.Spec PyProof.Rows L2 Evl HH RZ
def topS (i : Nat) : Stmt := PySem.Challenge.pw_hayherd_k05_orders_or_not.main.body.getD i (.Pass ⟨0, 0, 0, 0⟩)
abbrev s_is_number : Stmt := topS 1
theorem sc_is_number : FnScope ["thing"] ["thing"] (defScope s_is_number) := ⟨rfl, rfl, rfl, by decide +kernel, rfl, by decide +kernel, by decide +kernel⟩
abbrev s_is_order : Stmt := topS 2
theorem sc_is_order : FnScope ["row", "thing", "part"] ["row", "thing"] (defScope s_is_order) := ⟨rfl, rfl, rfl, by decide +kernel, rfl, by decide +kernel, by decide +kernel⟩
abbrev s_law_dip : Stmt := topS 4
theorem sc_law_dip : FnScope ["_law_script", "_law_k", "_law_cell"] ["_law_script", "_law_k"] (defScope s_law_dip) := ⟨rfl, rfl, rfl, by decide +kernel, rfl, by decide +kernel, by decide +kernel⟩
abbrev s_law_take : Stmt := topS 5
theorem sc_law_take : FnScope ["_law_box", "_law_many", "_law_found", "_law_once", "_law_pair"] ["_law_box", "_law_many"] (defScope s_law_take) := ⟨rfl, rfl, rfl, by decide +kernel, rfl, by decide +kernel, by decide +kernel⟩
abbrev s_law_folded : Stmt := topS 6
theorem sc_law_folded : FnScope ["_law_script", "_law_many", "_law_cells", "_law_k", "_law_cell"] ["_law_script", "_law_many"] (defScope s_law_folded) := ⟨rfl, rfl, rfl, by decide +kernel, rfl, by decide +kernel, by decide +kernel⟩
abbrev s_law_strewn : Stmt := topS 7
theorem sc_law_strewn : FnScope ["_law_box", "_law_pool", "_law_found", "_law_one"] ["_law_box", "_law_pool"] (defScope s_law_strewn) := ⟨rfl, rfl, rfl, by decide +kernel, rfl, by decide +kernel, by decide +kernel⟩
abbrev s_law_same : Stmt := topS 8
theorem sc_law_same : FnScope ["_law_found", "_law_due", "_law_one", "_law_two"] ["_law_found", "_law_due"] (defScope s_law_same) := ⟨rfl, rfl, rfl, by decide +kernel, rfl, by decide +kernel, by decide +kernel⟩
abbrev s_law_of : Stmt := topS 9
theorem sc_law_of : FnScope ["_law_box", "_law_pool"] ["_law_box", "_law_pool"] (defScope s_law_of) := ⟨rfl, rfl, rfl, by decide +kernel, rfl, by decide +kernel, by decide +kernel⟩
abbrev s_law_row : Stmt := topS 10
theorem sc_law_row : FnScope ["_law_box", "_law_most", "_law_many", "_law_way", "_law_rise", "_law_high", "_law_dear", "_law_base", "_law_toll", "_law_found", "_law_place"] ["_law_box", "_law_most"] (defScope s_law_row) := ⟨rfl, rfl, rfl, by decide +kernel, rfl, by decide +kernel, by decide +kernel⟩
abbrev s_law_bent : Stmt := topS 11
theorem sc_law_bent : FnScope ["_law_box", "_law_item", "_law_odd", "_law_some", "_law_at", "_law_way"] ["_law_box", "_law_item"] (defScope s_law_bent) := ⟨rfl, rfl, rfl, by decide +kernel, rfl, by decide +kernel, by decide +kernel⟩
abbrev s_law_is_order : Stmt := topS 12
theorem sc_law_is_order : FnScope ["_law_many", "_law_item", "_law_place", "_law_part"] ["_law_many", "_law_item"] (defScope s_law_is_order) := ⟨rfl, rfl, rfl, by decide +kernel, rfl, by decide +kernel, by decide +kernel⟩
abbrev s_law_right : Stmt := topS 13
theorem sc_law_right : FnScope ["_law_box", "_law_turn", "_law_pen", "_law_many", "_law_order", "_law_things", "_law_again", "_law_bent_here", "_law_item", "_law_kept", "_law_due"] ["_law_box"] (defScope s_law_right) := ⟨rfl, rfl, rfl, by decide +kernel, rfl, by decide +kernel, by decide +kernel⟩
abbrev s_law : Stmt := topS 14
theorem sc_law : FnScope ["_law_script", "_law_cells", "_law_k"] ["_law_script"] (defScope s_law) := ⟨rfl, rfl, rfl, by decide +kernel, rfl, by decide +kernel, by decide +kernel⟩
end K05
set_option maxHeartbeats 4000000
namespace K05
open PySem PySem.Spec PyProof.Rows L2 Evl HH RZ
section
variable {P : Program} {w : World} {K : PySem.W.Frag} {mg : Str → Option Value} {base : Heap}
theorem ok_law_dip {f : Addr} {fd : FuncData} (F : FnP K "_law_dip" s_law_dip f fd) (g : mg "_law_dip" = some (.ref f)) (b : Binds K fd ["_law_script", "_law_k"] []) (m_len : mg "len" = none) (m_abs : mg "abs" = none) (m_int : mg "int" = none) :
    Has P w K mg base 1 "_law_dip" ["_law_script", "_law_k"] (spDip K) f fd := by
  refine ⟨F.ok sc_law_dip (fun vs H Q E h => ?_) (fun cdv A outer s H vs Q E hr h => ?_), g, F.kp, b⟩
  · obtain ⟨a, k, ns, rfl, _⟩ := h
    rfl
  · obtain ⟨a, k, ns, rfl, hS, hk, q⟩ := h
    refine ⟨_, PSs.nox (pss_cons (ps_set (i := 2) sc_law_dip.nd rfl (.inl rfl) (pe_ifExp (pt_cmpR op_lt (pv 1) (pe_callB call_len_seq (by rfl) m_len PySem.boot_len (pa_cons (pv 0) pa_nil)) (nomark _)) (pe_ix ix_list (pv 0) (pv 1) (fun _ _ => rfl)) pe_int))
      (pss_one (ps_ret (pe_lst (pa_cons (pe_op op_mul (pe_callB call_abs (by rfl) m_abs (by decide +kernel) (pa_cons (pv 2) pa_nil)) (pe_callTy call_int1 (by rfl) m_int (by decide +kernel) (pa_cons (pe_cmpR op_ge (pe_callB call_abs (by rfl) m_abs (by decide +kernel) (pa_cons (pv 2) pa_nil)) (pe_op op_pow pe_int pe_int) (nomark _)) pa_nil))) (pa_cons (pe_op op_add (pe_op op_add (pe_op op_modN (pv 2) pe_int) (pe_op op_mul pe_int (pv 1))) pe_int) (pa_cons pe_int pa_nil))))))), ?_⟩
    refine q_asg (v := .int (ns.getD k 0)) (ev_if (b := decide ((k : Int) < ((ns.map V.int).length : Int))) (et_test (ev_op (ev_var rfl) (ev_len (ev_var rfl) hS) rv_I0)) (fun hd => ?_) (fun hd => ?_)) fun H1 e1 => ?_
    · have hk2 : k < ns.length := by
        have := of_decide_eq_true hd
        rw [List.length_map] at this
        omega
      have e : (ns.map V.int)[k]? = some (.int (ns.getD k 0)) := by
        rw [List.getElem?_map, List.getElem?_eq_getElem hk2, List.getD_eq_getElem?_getD, List.getElem?_eq_getElem hk2] <;> rfl
      exact ev_op (ev_var rfl) (ev_var rfl) (rv_ixL hS (atI_nat e))
    · have hk2 : ns.length ≤ k := by
        have := of_decide_eq_false hd
        rw [List.length_map] at this
        omega
      refine ev_is ev_c ?_
      rw [List.getD_eq_getElem?_getD, List.getElem?_eq_none hk2] <;> rfl
    · generalize ns.getD k 0 = c
      have r1 := fmod_lo (a := c) (show (0 : Int) < 2305843009213693951 by decide)
      have r2 := fmod_hi (a := c) (show (0 : Int) < 2305843009213693951 by decide)
      refine s_retL (el_lst (ea_cons (ev_op (ev_cb (ea_cons (ev_var rfl) ea_nil) rc_abs) (ev_cb (ea_cons (ev_op (ev_cb (ea_cons (ev_var rfl) ea_nil) rc_abs) (ev_op ev_c ev_c (rv_I ⟨by decide, by decide, by decide⟩)) rv_I0) ea_nil) rc_intB) (rv_I (.inr ?_))) (ea_cons (ev_op (ev_op (ev_op (ev_var rfl) ev_c (rv_I (by decide))) (ev_op ev_c (ev_var rfl) (rv_I (.inl ⟨by decide, by decide⟩))) rv_I0) ev_c rv_I0) (ea_cons ev_c ea_nil))) (by show 3 ≤ 100000; decide)) fun p H2 hp e2 h2 => ?_
      · exact b01 _
      · refine q p H2 (fresh_back e1 hp) (e1.trans e2) ⟨_, _, _, h2, ?_, by omega, by omega, by decide, by decide⟩
        refine Int.mul_nonneg ?_ ?_
        · split <;> omega
        · exact b01n _
theorem ok_law_take {f : Addr} {fd : FuncData} (F : FnP K "_law_take" s_law_take f fd) (g : mg "_law_take" = some (.ref f)) (b : Binds K fd ["_law_box", "_law_many"] []) : Has P w K mg base 1 "_law_take" ["_law_box", "_law_many"] spTake f fd := by
  refine ⟨F.ok sc_law_take (fun vs H Q E h => ?_) (fun cdv A outer s H vs Q E hr h => ?_), g, F.kp, b⟩
  · obtain ⟨p, m, n, rfl, _⟩ := h
    rfl
  · obtain ⟨p, m, n, rfl, hm, hm2, ⟨a, b, c, hb, ha, hb0, hb1, hc0, hc1⟩, hn, q⟩ := h
    refine ⟨_, PSs.nox (pss_cons (ps_if (pt_cmpR op_gt (pe_ix ix_list (pv 0) pe_int (fun _ _ => rfl)) pe_int (nomark _)) (pss_cons (ps_set (i := 2) sc_law_take.nd rfl (.inl rfl) (pe_op op_modN (pe_ix ix_list (pv 0) pe_int (fun _ _ => rfl)) (pv 1)))
      (pss_cons (ps_asg (pe_op op_fdivW (pe_ix ix_list (pv 0) pe_int (fun _ _ => rfl)) (pv 1)) (pg_sub (pv 0) pe_int set_list))
      (pss_one (ps_ret (pv 2))))) pss_nil)
      (pss_cons (ps_asg (pe_op op_add (pe_ix ix_list (pv 0) pe_int (fun _ _ => rfl)) pe_int) (pg_sub (pv 0) pe_int set_list))
      (pss_cons (ps_set (i := 3) sc_law_take.nd rfl (.inl rfl) (pe_op op_modN (pe_op op_powW (pe_op op_add (pe_ix ix_list (pv 0) pe_int (fun _ _ => rfl)) (pe_op op_mul pe_int (pe_ix ix_list (pv 0) pe_int (fun _ _ => rfl)))) pe_int) pe_int))
      (pss_cons (ps_set (i := 4) sc_law_take.nd rfl (.inl rfl) (pe_op op_modN (pe_op op_mulW (pe_op op_add (pe_op op_add (pv 3) (pe_ix ix_list (pv 0) pe_int (fun _ _ => rfl))) (pe_op op_fdivW (pe_ix ix_list (pv 0) pe_int (fun _ _ => rfl)) pe_int)) (pe_op op_add (pe_op op_add (pe_op op_modN (pv 3) pe_int) pe_int) (pe_ix ix_list (pv 0) pe_int (fun _ _ => rfl)))) pe_int))
      (pss_one (ps_ret (pe_op op_modN (pe_op op_fdivW (pe_op op_modN (pe_op op_add (pe_op op_mul (pv 4) pe_int) (pv 3)) pe_int) pe_int) (pv 1)))))))), ?_⟩
    refine q_when (b := decide (a > 0)) (et_B (ev_op (ev_op (ev_var rfl) ev_c (rv_ixL (sq_of hb) rfl)) ev_c rv_I0)) (fun hd H1 e1 => ?_) (fun hd H1 e1 => ?_)
    · have hb1' := e1 _ _ hb
      refine q_asg (ev_op (ev_op (ev_var rfl) ev_c (rv_ixL (sq_of hb1') rfl)) (ev_var rfl) (rv_I (show m ≠ 0 by omega))) fun H2 e2 => ?_
      have hb2' := e2 _ _ hb1'
      refine q_setL (j := 0) hb2' (ev_op (ev_op (ev_var rfl) ev_c (rv_ixL (sq_of hb2') rfl)) (ev_var rfl) (rv_I (divW_ok hm hm2))) (ev_var rfl) ev_c (by show 0 < 3; decide) fun H3 e3 => ?_
      refine s_ret (ev_var rfl) fun H4 e4 => ?_
      refine q _ H4 (fmod_lo hm) (fmod_hi hm) (((ExB.of ((e1.trans e2).trans e3)).upd).trans (.of e4)) ⟨a / m, b, c, e4 _ _ upd_same, Int.ediv_nonneg ha (by omega), hb0, hb1, hc0, by omega⟩
    · have hb1' := e1 _ _ hb
      refine q_setL (j := 2) hb1' (ev_op (ev_op (ev_var rfl) ev_c (rv_ixL (sq_of hb1') rfl)) ev_c rv_I0) (ev_var rfl) ev_c (by show 2 < 3; decide) fun H2 e2 => ?_
      have hx : upd H2 p (.lst ([V.int a, .int b, .int c].set 2 (.int (c + 1)))) p = some (.lst [V.int a, .int b, .int (c + 1)]) := upd_same
      have eb : ExB p H (upd H2 p (.lst ([V.int a, .int b, .int c].set 2 (.int (c + 1))))) := (ExB.of (e1.trans e2)).upd
      generalize upd H2 p (.lst ([V.int a, .int b, .int c].set 2 (.int (c + 1)))) = H3 at hx eb ⊢
      have hlim : c + 1 ≤ (Lim : Int) + 1 := by omega
      have g1 : CPowW (b + 39373 * (c + 1)) 5 := pow_ok (big_of (by omega) hlim 39373 b (by decide) (by decide) hb0 (by omega))
      have r1 := fmod_lo (a := (b + 39373 * (c + 1)) ^ (5 : Int).toNat) (show (0 : Int) < 2147483647 by decide)
      have r2 := fmod_hi (a := (b + 39373 * (c + 1)) ^ (5 : Int).toNat) (show (0 : Int) < 2147483647 by decide)
      refine q_asg (v := .int (((b + 39373 * (c + 1)) ^ (5 : Int).toNat).fmod 2147483647)) (ev_op (ev_op (ev_op (ev_op (ev_var rfl) ev_c (rv_ixL (sq_of hx) rfl)) (ev_op ev_c (ev_op (ev_var rfl) ev_c (rv_ixL (sq_of hx) rfl)) (rv_I (.inl ⟨by decide, by decide⟩))) rv_I0) ev_c (rv_I g1)) ev_c (rv_I (by decide))) fun H4 e4 => ?_
      generalize ((b + 39373 * (c + 1)) ^ (5 : Int).toNat).fmod 2147483647 = o at r1 r2 ⊢
      have hx4 := e4 _ _ hx
      have d0 : 0 ≤ b / 1000003 := by omega
      have d1 : b / 1000003 ≤ b := by omega
      have g2 : CMulW (o + (c + 1) + b / 1000003) (o.fmod 40009 + 7 + (c + 1)) := by
        have s1 := fmod_lo (a := o) (show (0 : Int) < 40009 by decide)
        have s2 := fmod_hi (a := o) (show (0 : Int) < 40009 by decide)
        have e1 : o + (c + 1) + b / 1000003 = (o + b / 1000003) + 1 * (c + 1) := by omega
        have e2 : o.fmod 40009 + 7 + (c + 1) = (o.fmod 40009 + 7) + 1 * (c + 1) := by omega
        rw [e1, e2]
        exact mulW_ok (big_of (by omega) hlim 1 _ (by decide) (by decide) (by omega) (by omega)) (big_of (by omega) hlim 1 _ (by decide) (by decide) (by omega) (by omega))
      refine q_asg (ev_op (ev_op (ev_op (ev_op (ev_var rfl) (ev_op (ev_var rfl) ev_c (rv_ixL (sq_of hx4) rfl)) rv_I0) (ev_op (ev_op (ev_var rfl) ev_c (rv_ixL (sq_of hx4) rfl)) ev_c (rv_I (divW_ok (by decide) (by decide)))) rv_I0) (ev_op (ev_op (ev_op (ev_var rfl) ev_c (rv_I (by decide))) ev_c rv_I0) (ev_op (ev_var rfl) ev_c (rv_ixL (sq_of hx4) rfl)) rv_I0) (rv_I g2)) ev_c (rv_I (by decide))) fun H5 e5 => ?_
      refine s_ret (ev_op (ev_op (ev_op (ev_op (ev_op (ev_var rfl) ev_c (rv_I (.inr ⟨by decide, by decide⟩))) (ev_var rfl) rv_I0) ev_c (rv_I (by decide))) ev_c (rv_I (divW_ok (by decide) (by decide)))) (ev_var rfl) (rv_I (show m ≠ 0 by omega))) fun H6 e6 => ?_
      refine q _ H6 (fmod_lo hm) (fmod_hi hm) (eb.trans (.of ((e4.trans e5).trans e6))) ⟨a, b, c + 1, e6 _ _ (e5 _ _ hx4), ha, hb0, hb1, by omega, by omega⟩
theorem ok_law_folded {f : Addr} {fd : FuncData} (F : FnP K "_law_folded" s_law_folded f fd) (g : mg "_law_folded" = some (.ref f)) (b : Binds K fd ["_law_script", "_law_many"] []) (m_list : mg "list" = none) (m_enumerate : mg "enumerate" = none) :
    Has P w K mg base 1 "_law_folded" ["_law_script", "_law_many"] (spFolded K) f fd := by
  refine ⟨F.ok sc_law_folded (fun vs H Q E h => ?_) (fun cdv A outer s H vs Q E hr h => ?_), g, F.kp, b⟩
  · obtain ⟨a, k, ns, rfl, _⟩ := h
    rfl
  · obtain ⟨a, m, ns, rfl, hm, hm2, hS, hlen, q⟩ := h
    refine ⟨_, PSs.nox (pss_cons (ps_set (i := 2) sc_law_folded.nd rfl (.inl rfl) (pe_callTy call_list_of (by rfl) m_list (by decide +kernel) (pa_cons (pe_slice sl_list (pv 0) po_none (po_some (pv 1))) pa_nil)))
      (pss_cons (ps_for PassesOwn.never rfl (pi_enum (by rfl) m_enumerate (pa_cons (pe_slice sl_list (pv 0) (po_some (pv 1)) (po_some pe_int)) pa_nil)) (pg_tup rfl (pgs_cons (pg_name (i := 3) sc_law_folded.nd rfl (Or.inl rfl)) (pgs_cons (pg_name (i := 4) sc_law_folded.nd rfl (Or.inl rfl)) pgs_nil)))
        (pss_one (ps_asg (pe_op op_add (pe_ix ix_list (pv 2) (pe_op op_modN (pv 3) (pv 1)) (fun _ _ => rfl)) (pe_op op_mul (pv 4) (pe_op op_add (pv 3) pe_int))) (pg_sub (pv 2) (pe_op op_modN (pv 3) (pv 1)) set_list))))
      (pss_one (ps_ret (pv 2))))), ?_⟩
    refine q_asgL (el_listN (el_sl (ev_var rfl) eo_none (eo_some (ev_var rfl)) hS)) fun l H1 hl e1 h1 => ?_
    rw [cut_to, ← List.map_take] at h1
    obtain ⟨zs, hzs, hzl⟩ := cut_ints ns (some (m : Int)) (some 63)
    rw [HT.sIx_nat] at hzl
    refine q_forE (el_sl (ev_var rfl) (eo_some (ev_var rfl)) (eo_some ev_c) (ex_l e1 hS)) (fun c i σ' H' => ∃ (y3 y4 : Option V) (ms : List Int), σ' = [some (.ref a), some (.int (m : Int)), some (.ref l), y3, y4] ∧ ms.length = min m ns.length ∧ H' l = some (.lst (ms.map V.int)) ∧ H' c = some (.lst (cutV (ns.map V.int) (some (m : Int)) (some 63))) ∧ Ex H H' ∧ l ≠ c) (fun c H2 hc e2 h2 => ?_) (fun c i σ' H' hi p => ?_) (fun c i x σ' H' T hx p hT => ?_) (fun c σ' H' p => ?_)
    · exact ⟨none, none, ns.take m, rfl, by rw [List.length_take], e2 _ _ h1, h2, e1.trans e2, ne_of_none h1 hc⟩
    · obtain ⟨y3, y4, ms, rfl, p1, p2, p3, p4, p5⟩ := p
      exact sq_of p3
    · obtain ⟨y3, y4, ms, rfl, p1, p2, p3, p4, p5⟩ := p
      rw [hzs, List.getElem?_map] at hx
      obtain ⟨z, hz, rfl⟩ := Option.map_eq_some_iff.mp hx
      have hi := (List.getElem?_eq_some_iff.mp hz).1
      have hms : ms.length = m := by omega
      refine ⟨T, _, rfl, st_of upd_same, rfl, _, _, rfl, _, _, rfl, rfl, ?_⟩
      have hlT : l ≠ T := ne_of_none p2 hT
      have h2 : (upd H' T (.tup [.int (i : Nat), .int z])) l = some (.lst (ms.map V.int)) := by
        rw [upd_ne hlT]
        exact p2
      have hj : i % m < ms.length := by
        rw [hms]
        exact Nat.mod_lt _ hm
      have hg : (ms.map V.int)[i % m]? = some (.int (ms[i % m])) := by
        rw [List.getElem?_map, List.getElem?_eq_getElem hj] <;> rfl
      have eI : Ev (tOp (rI (fun _ j => j ≠ 0) fun i j => .int (i.fmod j)) (tVar 3) (tVar 1)) [some (.ref a), some (.int (m : Int)), some (.ref l), some (.int (i : Nat)), some (.int z)] (upd H' T (.tup [.int (i : Nat), .int z])) (.int ((i % m : Nat) : Int)) := ev_is (ev_op (ev_var rfl) (ev_var rfl) (rv_I (show (m : Int) ≠ 0 by omega))) (by rw [fmod_nat])
      refine s_setL (j := i % m) h2 (ev_op (ev_op (ev_var rfl) eI (rv_ixL (sq_of h2) (atI_nat hg))) (ev_op (ev_var rfl) (ev_op (ev_var rfl) ev_c rv_I0) (rv_I (.inr ?_))) rv_I0) (ev_var rfl) eI (by rw [List.length_map]; exact hj) fun H3 e3 => ?_
      · have : zs.length ≤ 63 := by omega
        exact ⟨by omega, by omega⟩
      · refine ⟨some (.int (i : Nat)), some (.int z), ms.set (i % m) (ms[i % m] + z * ((i : Int) + 2)), rfl, by rw [List.length_set]; exact p1, ?_, ?_, ?_, p5⟩
        · rw [upd_same, List.map_set]
        · rw [upd_ne (Ne.symm p5)]
          exact e3 _ _ (Ex.new hT _ _ p3)
        · exact Ex.mut ((p4.trans (Ex.new hT)).trans e3) hl
    · obtain ⟨y3, y4, ms, rfl, p1, p2, p3, p4, p5⟩ := p
      exact s_ret (ev_var rfl) fun H2 e2 => q l H2 ms hl (p4.trans e2) (by omega) (e2 _ _ p2)
theorem ok_law_same {f : Addr} {fd : FuncData} (F : FnP K "_law_same" s_law_same f fd) (g : mg "_law_same" = some (.ref f)) (b : Binds K fd ["_law_found", "_law_due"] []) (m_isinstance : mg "isinstance" = none) (m_list : mg "list" = none) (m_tuple : mg "tuple" = none) (m_bool : mg "bool" = none) (m_str : mg "str" = none) (m_int : mg "int" = none) (m_len : mg "len" = none) (m_all : mg "all" = none) (m_zip : mg "zip" = none) :
    ∀ d, Has P w K mg base d "_law_same" ["_law_found", "_law_due"] (spSame K d) f fd
  | 0 => ⟨has_none, g, F.kp, b⟩
  | d + 1 => by
    have h_law_same := ok_law_same F g b m_isinstance m_list m_tuple m_bool m_str m_int m_len m_all m_zip d
    refine ⟨F.ok sc_law_same (fun vs H Q E h => ?_) (fun cdv A outer s H vs Q E hr h => ?_), g, F.kp, b⟩
    · obtain ⟨x, y, rfl, _⟩ := h
      rfl
    · obtain ⟨x, y, rfl, hA, q⟩ := h
      refine ⟨_, PSs.nox (pss_cons (ps_if (pt_val (pe_callB call_isiT (by rfl) m_isinstance (by decide +kernel) (pa_cons (pv 1) (pa_cons (pe_tup (pa_cons (pe_bltn (v := .ty "list") (by rfl) m_list (by decide +kernel) rfl) (pa_cons (pe_bltn (v := .ty "tuple") (by rfl) m_tuple (by decide +kernel) rfl) pa_nil))) pa_nil)))) (pss_cons (ps_if (PW.pt (pw_or (pt_cmpR op_ne (pe_callB call_isi (by rfl) m_isinstance (by decide +kernel) (pa_cons (pv 0) (pa_cons (pe_bltn (v := .ty "list") (by rfl) m_list (by decide +kernel) rfl) pa_nil))) (pe_callB call_isi (by rfl) m_isinstance (by decide +kernel) (pa_cons (pv 1) (pa_cons (pe_bltn (v := .ty "list") (by rfl) m_list (by decide +kernel) rfl) pa_nil))) (nomark _)) (pw_or1 (pt_cmpR op_ne (pe_callB call_isi (by rfl) m_isinstance (by decide +kernel) (pa_cons (pv 0) (pa_cons (pe_bltn (v := .ty "tuple") (by rfl) m_tuple (by decide +kernel) rfl) pa_nil))) (pe_callB call_isi (by rfl) m_isinstance (by decide +kernel) (pa_cons (pv 1) (pa_cons (pe_bltn (v := .ty "tuple") (by rfl) m_tuple (by decide +kernel) rfl) pa_nil))) (nomark _))))) (pss_one (ps_ret pe_bl)) pss_nil)
      (pss_one (ps_ret (pe_and (pe_cmpR op_eq (pe_callB call_len_seq (by rfl) m_len PySem.boot_len (pa_cons (pv 0) pa_nil)) (pe_callB call_len_seq (by rfl) m_len PySem.boot_len (pa_cons (pv 1) pa_nil)) (nomark _)) (pe_one (pe_callB (cr_all rfl) (by rfl) m_all (by decide +kernel) (pa_cons (pe_lc (own := [("_law_one", 2), ("_law_two", 3)]) (g := gTup K 2 (gCons (gName 2) (gCons (gName 3) gNil))) (by rfl) sc_law_same.nd (pi_zipA (by rfl) m_zip (pa_cons (pv 0) (pa_cons (pv 1) pa_nil))) (blkOk_by (own := [("_law_one", 2), ("_law_two", 3)]) (N := ["_law_found", "_law_due", "_law_one", "_law_two"]) (sc := defScope s_law_same) (by decide +kernel)) (fun _ _ _ _ _ => (pg_tup rfl (pgs_cons (pg_name (i := 2) sc_law_same.nd rfl (Or.inl rfl)) (pgs_cons (pg_name (i := 3) sc_law_same.nd rfl (Or.inl rfl)) pgs_nil)))) (fun _ _ _ _ _ => pts_nil) (fun _ _ _ _ _ => (pe_call h_law_same.G hr (by rfl) h_law_same.g h_law_same.kp h_law_same.b .nil pass0 (pa_cons (pv 2) (pa_cons (pv 3) pa_nil))))) pa_nil))))))) pss_nil)
      (pss_cons (ps_if (PW.pt (pw_or (pt_cmpR op_isN (pv 1) pe_non (nomark _)) (pw_or1 (pt_cmpR op_isN (pv 0) pe_non (nomark _))))) (pss_one (ps_ret (pe_and (pe_cmpR op_isN (pv 1) pe_non (nomark _)) (pe_one (pe_cmpR op_isN (pv 0) pe_non (nomark _)))))) pss_nil)
      (pss_cons (ps_if (PW.pt (pw_or (pt_val (pe_callB call_isi (by rfl) m_isinstance (by decide +kernel) (pa_cons (pv 1) (pa_cons (pe_bltn (v := .ty "bool") (by rfl) m_bool (by decide +kernel) rfl) pa_nil)))) (pw_or1 (pt_val (pe_callB call_isi (by rfl) m_isinstance (by decide +kernel) (pa_cons (pv 1) (pa_cons (pe_bltn (v := .ty "str") (by rfl) m_str (by decide +kernel) rfl) pa_nil))))))) (pss_one (ps_ret (pe_and (pe_cmpR op_eq (pe_callB call_isi (by rfl) m_isinstance (by decide +kernel) (pa_cons (pv 0) (pa_cons (pe_bltn (v := .ty "bool") (by rfl) m_bool (by decide +kernel) rfl) pa_nil))) (pe_callB call_isi (by rfl) m_isinstance (by decide +kernel) (pa_cons (pv 1) (pa_cons (pe_bltn (v := .ty "bool") (by rfl) m_bool (by decide +kernel) rfl) pa_nil))) (nomark _)) (pe_one (pe_cmpR op_eq (pv 0) (pv 1) (nomark _)))))) pss_nil)
      (pss_one (ps_ret (pe_and (pe_callB call_isi (by rfl) m_isinstance (by decide +kernel) (pa_cons (pv 0) (pa_cons (pe_bltn (v := .ty "int") (by rfl) m_int (by decide +kernel) rfl) pa_nil))) (pe_and (pe_not (pe_callB call_isi (by rfl) m_isinstance (by decide +kernel) (pa_cons (pv 0) (pa_cons (pe_bltn (v := .ty "bool") (by rfl) m_bool (by decide +kernel) rfl) pa_nil)))) (pe_one (pe_cmpR op_eq (pv 0) (pv 1) (nomark _)))))))))), ?_⟩
      rcases hA with ⟨rfl, hf⟩ | ⟨a, c, xs, ys, rfl, rfl, h3, h4, h5, h6⟩
      · cases x with
        | int i =>
          refine q_when (et_B (ev_isiT (ev_var rfl) (.int i) kit_int)) (fun hd => by cases hd) fun _ H1 e1 => ?_
          refine q_when (b := false) (et_or (a := false) (b := false) (et_test (ev_op (ev_var rfl) ev_c (rv_isN2 rfl))) fun _ => et_test (ev_op (ev_var rfl) ev_c (rv_isN2 rfl))) (fun hd => by cases hd) fun _ H2 e2 => ?_
          refine q_when (b := false) (et_or (a := false) (b := false) (et_B (ev_isi (T := "int") (C := "bool") (ev_var rfl) (.int i) (by decide +kernel))) fun _ => et_B (ev_isi (T := "int") (C := "str") (ev_var rfl) (.int i) (by decide +kernel))) (fun hd => by cases hd) fun _ H3 e3 => ?_
          refine s_ret (v := .bl true) (ev_andV (a := true) (b := true) (ev_isi (T := "int") (C := "int") (b := true) (ev_var rfl) (.int i) (by decide +kernel)) fun _ => ev_andV (a := true) (b := true) (ev_notV (ev_isi (T := "int") (C := "bool") (b := false) (ev_var rfl) (.int i) (by decide +kernel))) fun _ => ev_is (ev_op (ev_var rfl) (ev_var rfl) (rv_eq rfl)) (by rw [decide_eq_true rfl])) fun H4 e4 => q H4 (((e1.trans e2).trans e3).trans e4)
        | bl i =>
          refine q_when (et_B (ev_isiT (ev_var rfl) (.bl i) kit_bool)) (fun hd => by cases hd) fun _ H1 e1 => ?_
          refine q_when (b := false) (et_or (a := false) (b := false) (et_test (ev_op (ev_var rfl) ev_c (rv_isN2 rfl))) fun _ => et_test (ev_op (ev_var rfl) ev_c (rv_isN2 rfl))) (fun hd => by cases hd) fun _ H2 e2 => ?_
          refine q_when (b := true) (et_or (a := true) (b := true) (et_B (ev_isi (T := "bool") (C := "bool") (ev_var rfl) (.bl i) (by decide +kernel))) fun hd => by cases hd) (fun _ H3 e3 => ?_) (fun hd => by cases hd)
          refine s_ret (v := .bl true) (ev_andV (a := true) (b := true) (ev_op (ev_isi (T := "bool") (C := "bool") (b := true) (ev_var rfl) (.bl i) (by decide +kernel)) (ev_isi (T := "bool") (C := "bool") (b := true) (ev_var rfl) (.bl i) (by decide +kernel)) (rv_eq rfl)) fun _ => ev_is (ev_op (ev_var rfl) (ev_var rfl) (rv_eq rfl)) (by rw [decide_eq_true rfl])) fun H4 e4 => q H4 (((e1.trans e2).trans e3).trans e4)
        | str i =>
          refine q_when (et_B (ev_isiT (ev_var rfl) (.str i) kit_str)) (fun hd => by cases hd) fun _ H1 e1 => ?_
          refine q_when (b := false) (et_or (a := false) (b := false) (et_test (ev_op (ev_var rfl) ev_c (rv_isN2 rfl))) fun _ => et_test (ev_op (ev_var rfl) ev_c (rv_isN2 rfl))) (fun hd => by cases hd) fun _ H2 e2 => ?_
          refine q_when (b := true) (et_or (a := false) (b := true) (et_B (ev_isi (T := "str") (C := "bool") (b := false) (ev_var rfl) (.str i) (by decide +kernel))) fun _ => et_B (ev_isi (T := "str") (C := "str") (b := true) (ev_var rfl) (.str i) (by decide +kernel))) (fun _ H3 e3 => ?_) (fun hd => by cases hd)
          refine s_ret (v := .bl true) (ev_andV (a := true) (b := true) (ev_op (ev_isi (T := "str") (C := "bool") (b := false) (ev_var rfl) (.str i) (by decide +kernel)) (ev_isi (T := "str") (C := "bool") (b := false) (ev_var rfl) (.str i) (by decide +kernel)) (rv_eq rfl)) fun _ => ev_is (ev_op (ev_var rfl) (ev_var rfl) (rv_eq rfl)) (by rw [decide_eq_true rfl])) fun H4 e4 => q H4 (((e1.trans e2).trans e3).trans e4)
        | non =>
          refine q_when (et_B (ev_isiT (ev_var rfl) .non kit_non)) (fun hd => by cases hd) fun _ H1 e1 => ?_
          refine q_when (b := true) (et_or (a := true) (b := true) (et_test (ev_op (ev_var rfl) ev_c (rv_isN2 rfl))) fun _ => et_test (ev_op (ev_var rfl) ev_c (rv_isN2 rfl))) (fun _ H2 e2 => ?_) (fun hd => by cases hd)
          refine s_ret (v := .bl true) (ev_andV (a := true) (b := true) (ev_op (ev_var rfl) ev_c (rv_isN2 rfl)) fun _ => ev_op (ev_var rfl) ev_c (rv_isN2 rfl)) fun H4 e4 => q H4 ((e1.trans e2).trans e4)
        | byt _ => exact hf.elim
        | flt _ => exact hf.elim
        | ref _ => exact hf.elim
        | ty _ => exact hf.elim
      · rcases h3 with ⟨ha, hc⟩ | ⟨ha, hc⟩
        · refine q_when (et_B (ev_isiT (ev_var rfl) (.lst hc) kit_list)) (fun _ H1 e1 => ?_) (fun hd => by cases hd)
          refine q_when (b := false) (et_or (et_test (ev_op (ev_isi (T := "list") (b := true) (ev_var rfl) (.lst (ex_l e1 ha)) (by decide +kernel)) (ev_isi (T := "list") (b := true) (ev_var rfl) (.lst (ex_l e1 hc)) (by decide +kernel)) (rv_ne rfl))) fun _ => et_test (ev_op (ev_isi (T := "list") (b := false) (ev_var rfl) (.lst (ex_l e1 ha)) (by decide +kernel)) (ev_isi (T := "list") (b := false) (ev_var rfl) (.lst (ex_l e1 hc)) (by decide +kernel)) (rv_ne rfl))) (fun hd => by cases hd) fun _ H2 e2 => ?_
          have e12 := e1.trans e2
          refine s_ret (v := .bl true) (ev_andV (a := true) (b := true) (ev_is (ev_op (ev_lenA (ev_var rfl) (.inl (ex_l e12 ha))) (ev_lenA (ev_var rfl) (.inl (ex_l e12 hc))) (rv_eq rfl)) (by rw [h4, decide_eq_true rfl])) fun _ => ev_allT (el_same h4 h5 (.inl ⟨ex_l e12 ha, ex_l e12 hc⟩) fun i u v hu hv => (h6 i u v hu hv).ex e12)) fun H4 e4 => q H4 (e12.trans e4)
        · refine q_when (et_B (ev_isiT (ev_var rfl) (.tup hc) kit_tuple)) (fun _ H1 e1 => ?_) (fun hd => by cases hd)
          refine q_when (b := false) (et_or (et_test (ev_op (ev_isi (T := "tuple") (b := false) (ev_var rfl) (.tup (ex_t e1 ha)) (by decide +kernel)) (ev_isi (T := "tuple") (b := false) (ev_var rfl) (.tup (ex_t e1 hc)) (by decide +kernel)) (rv_ne rfl))) fun _ => et_test (ev_op (ev_isi (T := "tuple") (b := true) (ev_var rfl) (.tup (ex_t e1 ha)) (by decide +kernel)) (ev_isi (T := "tuple") (b := true) (ev_var rfl) (.tup (ex_t e1 hc)) (by decide +kernel)) (rv_ne rfl))) (fun hd => by cases hd) fun _ H2 e2 => ?_
          have e12 := e1.trans e2
          refine s_ret (v := .bl true) (ev_andV (a := true) (b := true) (ev_is (ev_op (ev_lenA (ev_var rfl) (.inr (ex_t e12 ha))) (ev_lenA (ev_var rfl) (.inr (ex_t e12 hc))) (rv_eq rfl)) (by rw [h4, decide_eq_true rfl])) fun _ => ev_allT (el_same h4 h5 (.inr ⟨ex_t e12 ha, ex_t e12 hc⟩) fun i u v hu hv => (h6 i u v hu hv).ex e12)) fun H4 e4 => q H4 (e12.trans e4)
theorem ok_law_of {f f1 : Addr} {fd fd1 : FuncData} (F : FnP K "_law_of" s_law_of f fd) (g : mg "_law_of" = some (.ref f)) (b : Binds K fd ["_law_box", "_law_pool"] []) (h_law_take : Has P w K mg base 1 "_law_take" ["_law_box", "_law_many"] spTake f1 fd1) (m_len : mg "len" = none) :
    Has P w K mg base 2 "_law_of" ["_law_box", "_law_pool"] (spOf K) f fd := by
  refine ⟨F.ok sc_law_of (fun vs H Q E h => ?_) (fun cdv A outer s H vs Q E hr h => ?_), g, F.kp, b⟩
  · obtain ⟨p, l, xs, n, rfl, _⟩ := h
    rfl
  · obtain ⟨p, l, xs, n, rfl, hl, h0, h1, hne, hb, hn, q⟩ := h
    refine ⟨_, PSs.nox (pss_one (ps_ret (pe_ix ix_list (pv 1) (pe_call h_law_take.G (hr.mono (by decide)) (by rfl) h_law_take.g h_law_take.kp h_law_take.b .nil pass0 (pa_cons (pv 0) (pa_cons (pe_callB call_len_seq (by rfl) m_len PySem.boot_len (pa_cons (pv 1) pa_nil)) pa_nil))) (fun _ _ => rfl)))), ?_⟩
    refine ⟨.ref l, rfl, .ref p, rfl, .ref l, rfl, l, xs, rfl, .inl hl, p, (xs.length : Int), n, rfl, by omega, by omega, hb, hn, fun r H1 r0 r1 e1 hb1 => ?_⟩
    obtain ⟨k, rfl⟩ := Int.eq_ofNat_of_zero_le r0
    have hk : k < xs.length := by omega
    exact ⟨l, xs, k, xs[k], rfl, rfl, e1.l hne hl, atI_nat (List.getElem?_eq_getElem hk), q k _ H1 (List.getElem?_eq_getElem hk) e1 hb1⟩
theorem ok_law_row {f f1 f2 : Addr} {fd fd1 fd2 : FuncData} (F : FnP K "_law_row" s_law_row f fd) (g : mg "_law_row" = some (.ref f)) (b : Binds K fd ["_law_box", "_law_most"] []) (h_law_take : Has P w K mg base 1 "_law_take" ["_law_box", "_law_many"] spTake f1 fd1) (h_law_of : Has P w K mg base 2 "_law_of" ["_law_box", "_law_pool"] (spOf K) f2 fd2) (m_range : mg "range" = none) (m_tuple : mg "tuple" = none) :
    Has P w K mg base 3 "_law_row" ["_law_box", "_law_most"] (spRow K) f fd := by
  refine ⟨F.ok sc_law_row (fun vs H Q E h => ?_) (fun cdv A outer s H vs Q E hr h => ?_), g, F.kp, b⟩
  · obtain ⟨p, m, n, rfl, _⟩ := h
    rfl
  · obtain ⟨p, m, n, rfl, hm, hm2, hb, hn, q⟩ := h
    refine ⟨_, PSs.nox (pss_cons (ps_par3 (i := 2) (j := 3) (l := 4) (by rfl) sc_law_row.nd rfl rfl rfl (by decide) (by decide) (by decide) rfl rfl rfl (pa_cons (pe_op op_add pe_int (pe_call h_law_take.G (hr.mono (by decide)) (by rfl) h_law_take.g h_law_take.kp h_law_take.b .nil pass0 (pa_cons (pv 0) (pa_cons (pv 1) pa_nil)))) (pa_cons (pe_call h_law_take.G (hr.mono (by decide)) (by rfl) h_law_take.g h_law_take.kp h_law_take.b .nil pass0 (pa_cons (pv 0) (pa_cons pe_int pa_nil))) (pa_cons (pe_call h_law_of.G (hr.mono (by decide)) (by rfl) h_law_of.g h_law_of.kp h_law_of.b .nil pass0 (pa_cons (pv 0) (pa_cons (pe_lst (pa_cons pe_int (pa_cons pe_int (pa_cons pe_int (pa_cons pe_int pa_nil))))) pa_nil))) pa_nil))) (by rfl))
      (pss_cons (ps_par (i := 5) (j := 6) (by rfl) sc_law_row.nd rfl rfl (by decide) rfl rfl (pa_cons (pe_ix ix_list (pe_lst (pa_cons pe_int (pa_cons pe_int (pa_cons pe_int (pa_cons pe_int (pa_cons pe_int (pa_cons pe_int pa_nil))))))) (pv 3) (fun _ _ => rfl)) (pa_cons (pe_ix ix_list (pe_lst (pa_cons pe_int (pa_cons pe_int (pa_cons pe_int (pa_cons pe_int (pa_cons pe_int (pa_cons pe_int pa_nil))))))) (pv 3) (fun _ _ => rfl)) pa_nil)) (by rfl))
      (Evl.pss_cut (ps_par (i := 7) (j := 8) (by rfl) sc_law_row.nd rfl rfl (by decide) rfl rfl (pa_cons (pe_ix ix_list (pe_lst (pa_cons pe_int (pa_cons (pe_un un_neg pe_int) (pa_cons (pe_un un_neg pe_int) (pa_cons pe_int (pa_cons (pe_op op_sub (pe_op op_pow pe_int pe_int) pe_int) (pa_cons (pe_un un_neg pe_int) pa_nil))))))) (pv 3) (fun _ _ => rfl)) (pa_cons (pe_ifExp (pt_cmpR op_eq (pv 3) pe_int (nomark _)) (pe_call h_law_take.G (hr.mono (by decide)) (by rfl) h_law_take.g h_law_take.kp h_law_take.b .nil pass0 (pa_cons (pv 0) (pa_cons pe_int pa_nil))) pe_int) pa_nil)) (by rfl))
      (pss_cons (ps_set (i := 9) sc_law_row.nd rfl (.inl rfl) (pe_lst pa_nil))
      (pss_cons (ps_for PassesOwn.never rfl (pi_range1 (by rfl) m_range (pa_cons (pv 2) pa_nil)) (pg_name (i := 10) sc_law_row.nd rfl (Or.inl rfl))
        (pss_one (ps_expr (pe_bm PySem.F.plainAttrs_list PySem.F.slot_list_append PySem.F.type_list_append mt_append (pv 9) (pa_cons (pe_tup (pa_cons (pe_op op_add (pe_op op_add (pv 7) (pe_op op_mul (pv 4) (pv 10))) (pe_call h_law_take.G (hr.mono (by decide)) (by rfl) h_law_take.g h_law_take.kp h_law_take.b .nil pass0 (pa_cons (pv 0) (pa_cons (pv 5) pa_nil)))) (pa_cons (pe_op op_add (pv 8) (pe_call h_law_take.G (hr.mono (by decide)) (by rfl) h_law_take.g h_law_take.kp h_law_take.b .nil pass0 (pa_cons (pv 0) (pa_cons (pv 6) pa_nil)))) pa_nil))) pa_nil)))))
      (pss_one (ps_ret (pe_tupleOf (by rfl) m_tuple (pv 9))))))))), ?_⟩
    refine ⟨.ref p, rfl, .int (m : Int), rfl, p, (m : Int), n, rfl, by omega, by omega, hb, by omega, fun r1 H1 r10 r11 e1 hb1 => ?_⟩
    refine ⟨1, r1, rfl, rfl, .ref p, rfl, p, 6, n + 1, rfl, by decide, by decide, hb1, by omega, fun way H2 w0 w1 e2 hb2 => ?_⟩
    refine ⟨.ref p, rfl, by show 4 ≤ sizeLine; decide, fun l hl => ?_⟩
    refine ⟨p, l, _, n + 2, rfl, sq_of upd_same, by show 0 < 4; decide, by show 4 < 100000; decide, (hb2.ne hl).symm, hb2.ex (Ex.new hl), by omega, fun k x H3 hx e3 hb3 => ?_⟩
    obtain ⟨rise, rfl, hr0, hr1⟩ : ∃ rise : Int, x = .int rise ∧ 0 ≤ rise ∧ rise ≤ 3 := by
      match k, hx with
      | 0, hx => cases hx; exact ⟨0, rfl, by decide, by decide⟩
      | 1, hx => cases hx; exact ⟨0, rfl, by decide, by decide⟩
      | 2, hx => cases hx; exact ⟨1, rfl, by decide, by decide⟩
      | 3, hx => cases hx; exact ⟨3, rfl, by decide, by decide⟩
      | k + 4, hx => cases hx
    have eb3 : ExB p H H3 := ((e1.trans e2).trans (.of (Ex.new hl))).trans e3
    clear e1 e2 e3 hb1 hb2
    refine ⟨_, _, _, rfl, ?_⟩
    obtain ⟨high, hh, ah⟩ := at_ints (zs := [9, 9, 30, 60, 25, 200]) w0 w1
    obtain ⟨dear, hd, ad⟩ := at_ints (zs := [3, 1, 1, 10, 4, 40]) w0 w1
    have hh0 : 0 < high ∧ high ≤ 200 := by
      simp only [List.mem_cons, List.not_mem_nil, or_false] at hh
      omega
    have hd0 : 0 < dear ∧ dear ≤ 40 := by
      simp only [List.mem_cons, List.not_mem_nil, or_false] at hd
      omega
    refine ⟨by show 6 ≤ sizeLine; decide, fun l2 hl2 => ⟨.int way, rfl, l2, _, way, .int high, rfl, rfl, sq_of upd_same, ah, ?_⟩⟩
    refine ⟨by show 6 ≤ sizeLine; decide, fun l3 hl3 => ⟨.int way, rfl, l3, _, way, .int dear, rfl, rfl, sq_of upd_same, ad, _, _, rfl, ?_⟩⟩
    have eb4 := (eb3.new (o := .lst [.int 9, .int 9, .int 30, .int 60, .int 25, .int 200]) hl2).new (o := .lst [.int 3, .int 1, .int 1, .int 10, .int 4, .int 40]) hl3
    have hb4 := (hb3.ex (Ex.new (o := .lst [.int 9, .int 9, .int 30, .int 60, .int 25, .int 200]) hl2)).ex (Ex.new (o := .lst [.int 3, .int 1, .int 1, .int 10, .int 4, .int 40]) hl3)
    clear eb3 hb3
    obtain ⟨bs, hbs, abs⟩ := at_ints (zs := [0, -4, -15, 0, 10 ^ (12 : Int).toNat - 1000, -100]) w0 w1
    have hbs0 : -100 ≤ bs ∧ bs ≤ 999999999000 := by
      have e12 : (10 : Int) ^ (12 : Int).toNat - 1000 = 999999999000 := by decide
      rw [e12] at hbs
      simp only [List.mem_cons, List.not_mem_nil, or_false] at hbs
      omega
    refine q_cut (M := fun σ' H' => ∃ toll : Int, σ' = [some (.ref p), some (.int (m : Int)), some (.int (1 + r1)), some (.int way), some (.int rise), some (.int high), some (.int dear), some (.int bs), some (.int toll), none, none] ∧ 0 ≤ toll ∧ toll ≤ 6 ∧ ExB p H H' ∧ Bx H' p (n + 4)) ?_ (fun σ' H5 hM => ?_)
    · refine ⟨4, rfl, 15, rfl, 10, 12, rfl, rfl, ⟨by decide, by decide, by decide⟩, _, 1000, rfl, rfl, 100, rfl, by show 6 ≤ sizeLine; decide, fun l4 hl4 => ⟨.int way, rfl, l4, _, way, .int bs, rfl, rfl, sq_of upd_same, abs, ?_⟩⟩
      refine ⟨.int way, rfl, rfl, _, rfl, ite2 (fun e => ?_) (fun e => ?_)⟩
      · refine ⟨.ref p, rfl, p, 6, n + 3, rfl, by decide, by decide, hb4.ex (Ex.new hl4), by omega, fun r H5 r0 r1 e5 hb5 => ⟨_, _, rfl, r, rfl, r0, by omega, (eb4.new hl4).trans e5, hb5⟩⟩
      · exact ⟨_, _, rfl, 0, rfl, by decide, by decide, eb4.new hl4, (hb4.ex (Ex.new hl4)).le (by omega)⟩
    · obtain ⟨toll, rfl, t0, t1, eb5, hb5⟩ := hM
      refine q_asgL (el_lst ea_nil (by show 0 ≤ 100000; decide)) fun l5 H6 hl5 e6 h6 => ?_
      have hpl : p ≠ l5 := hb5.ne hl5
      have hl5H : H l5 = none := eb5.back hl5 (Ne.symm hpl)
      refine q_forR1 (n := 1 + r1) (ea_cons (ev_var rfl) ea_nil) (by omega) (fun i σ' H' => ∃ (y : Option V) (vs : List V) (rs : HH.Row), σ' = [some (.ref p), some (.int (m : Int)), some (.int (1 + r1)), some (.int way), some (.int rise), some (.int high), some (.int dear), some (.int bs), some (.int toll), some (.ref l5), y] ∧ rs.length = i ∧ H' l5 = some (.lst vs) ∧ Beasts K H' vs rs ∧ (∀ b ∈ rs, Tame b) ∧ Bx H' p (n + 4 + 2 * i) ∧ ExB p H H') (fun H7 e7 => ?_) (fun i σ' H7 hi hp => ?_) (fun σ' H7 hp => ?_)
      · exact ⟨none, [], [], rfl, rfl, e7 _ _ h6, Beasts.nil, (fun b h => by cases h), (hb5.ex (e6.trans e7)).le (by omega), eb5.trans (.of (e6.trans e7))⟩
      · obtain ⟨y, vs, rs, rfl, p1, p2, p3, p4, p5, p6⟩ := hp
        have hri := mul_bd hr0 hr1 (Int.natCast_nonneg i) (show (i : Int) ≤ 40 by omega)
        refine ⟨.ref l5, rfl, .inl ⟨rfl, _, sq_of p2⟩, .int bs, rfl, .int rise, rfl, .int (i : Int), rfl, rise, (i : Int), rfl, rfl, .inl ⟨by omega, by omega⟩, bs, rise * (i : Int), rfl, rfl, .ref p, rfl, .int high, rfl, p, high, n + 4 + 2 * i, rfl, by omega, by omega, p5, by omega, fun s1 H8 s10 s11 e8 hb8 => ?_⟩
        refine ⟨_, _, rfl, rfl, .int toll, rfl, .ref p, rfl, .int dear, rfl, p, dear, n + 4 + 2 * i + 1, rfl, by omega, by omega, hb8, by omega, fun s2 H9 s20 s21 e9 hb9 => ?_⟩
        refine ⟨toll, s2, rfl, rfl, by show 2 ≤ sizeLine; decide, fun T hT => ?_⟩
        have q8 := e8 _ _ (Ne.symm hpl) p2
        have q9 := e9 _ _ (Ne.symm hpl) q8
        have hlT : l5 ≠ T := ne_of_none q9 hT
        have q10 : (upd H9 T (.tup [.int (bs + rise * (i : Int) + s1), .int (toll + s2)])) l5 = some (.lst vs) := by
          rw [upd_ne hlT]
          exact q9
        obtain ⟨xs8, hx8⟩ := p5.lst
        obtain ⟨xs9, hx9⟩ := hb8.lst
        have b10 : Beasts K (upd H9 T (.tup [.int (bs + rise * (i : Int) + s1), .int (toll + s2)])) vs rs := ((p3.exB e8 hx8).exB e9 hx9).ex (Ex.new hT)
        have bt : BeastAt K (upd H9 T (.tup [.int (bs + rise * (i : Int) + s1), .int (toll + s2)])) (.ref T) (bs + rise * (i : Int) + s1, toll + s2) := ⟨T, rfl, st_of upd_same⟩
        refine ⟨l5, vs, .ref T, rfl, rfl, q10, sz_lt (by rw [p3.1]; omega), some (.int (i : Int)), vs ++ [.ref T], rs ++ [(bs + rise * (i : Int) + s1, toll + s2)], rfl, ?_, upd_same, ?_, ?_, ?_, ?_⟩
        · rw [List.length_append, p1]
          rfl
        · exact (b10.app (Beasts.one bt)).exB (ExB.refl _ _).upd q10
        · intro b hb
          rcases List.mem_append.mp hb with h | h
          · exact p4 b h
          · have e := List.mem_singleton.mp h
            subst e
            have e12 : (10 : Int) ^ 12 = 1000000000000 := by decide
            unfold Tame
            rw [e12]
            refine ⟨?_, ?_, ?_, ?_⟩ <;> dsimp only <;> omega
        · exact (((hb9.ex (Ex.new hT)).mut hpl).le (by omega))
        · exact ((((p6.trans e8).trans e9).new hT).mut hl5H)
      · obtain ⟨y, vs, rs, rfl, p1, p2, p3, p4, p5, p6⟩ := hp
        refine ⟨.ref l5, rfl, .inl ⟨l5, vs, rfl, sq_of p2, fun T hT => ?_⟩⟩
        exact q _ _ rs (p6.new hT) ((p5.ex (Ex.new hT)).le (by omega)) ⟨T, vs, rfl, st_of upd_same, p3.ex (Ex.new hT)⟩ (by omega) (by omega) p4
theorem ins_nats (l : List Nat) (r x : Nat) : (natsV l).take r ++ [V.int (x : Int)] ++ (natsV l).drop r = natsV (l.take r ++ x :: l.drop r) := by
  unfold natsV
  rw [List.map_append, List.map_cons, List.map_take, List.map_drop, List.append_assoc]
  rfl
theorem ok_law_strewn {f f1 : Addr} {fd fd1 : FuncData} (F : FnP K "_law_strewn" s_law_strewn f fd) (g : mg "_law_strewn" = some (.ref f)) (b : Binds K fd ["_law_box", "_law_pool"] []) (h_law_take : Has P w K mg base 1 "_law_take" ["_law_box", "_law_many"] spTake f1 fd1) (m_len : mg "len" = none) : Has P w K mg base 2 "_law_strewn" ["_law_box", "_law_pool"] (spStrewn K) f fd := by
  refine ⟨F.ok sc_law_strewn (fun vs H Q E h => ?_) (fun cdv A outer s H vs Q E hr h => ?_), g, F.kp, b⟩
  · obtain ⟨p, a, l, n, rfl, _⟩ := h
    rfl
  · obtain ⟨p, a, l, n, rfl, ha, nap, hl, hb, hlim, q⟩ := h
    refine ⟨_, PSs.nox (pss_cons (ps_set (i := 2) sc_law_strewn.nd rfl (.inl rfl) (pe_lst pa_nil))
      (pss_cons (ps_for PassesOwn.never rfl (pi_list (pv 1)) (pg_name (i := 3) sc_law_strewn.nd rfl (Or.inl rfl))
        (pss_one (ps_expr (pe_bm PySem.F.plainAttrs_list PySem.F.slot_list_insert PySem.F.type_list_insert mt_insert (pv 2) (pa_cons (pe_call h_law_take.G (hr.mono (by decide)) (by rfl) h_law_take.g h_law_take.kp h_law_take.b .nil pass0 (pa_cons (pv 0) (pa_cons (pe_op op_add (pe_callB call_len_seq (by rfl) m_len PySem.boot_len (pa_cons (pv 2) pa_nil)) pe_int) pa_nil))) (pa_cons (pv 3) pa_nil))))))
      (pss_one (ps_ret (pv 2))))), ?_⟩
    refine ⟨by show 0 ≤ sizeLine; decide, fun fa hfa => ?_⟩
    have n1 := Ex.new (o := .lst []) hfa
    have gf : (upd H fa (.lst [])) fa = some (.lst []) := upd_same
    have npf : fa ≠ p := (hb.ne hfa).symm
    have naf : a ≠ fa := ne_of_none ha hfa
    generalize upd H fa (.lst []) = H1 at n1 gf ⊢
    refine g_at [some (.ref p), some (.ref a), some (.ref fa), none] rfl ?_
    refine q_forL (K := K) (xs := natsV l) (ev_var rfl) (sq_of (n1 _ _ ha)) (fun k σ' H' => ∃ (y3 : Option V) (l' : List Nat), σ' = [some (.ref p), some (.ref a), some (.ref fa), y3] ∧ H' fa = some (.lst (natsV l')) ∧ l'.Perm (l.take k) ∧ Bx H' p (n + k) ∧ ExB p H H' ∧ H' a = some (.lst (natsV l))) (fun H2 e2 => ⟨none, [], rfl, e2 _ _ gf, .refl _, hb.ex (n1.trans e2), .of (n1.trans e2), (n1.trans e2) _ _ ha⟩) (fun k σ' H' _ hW => ?_) (fun k x σ' H2 hx hW => ?_) (fun σ' H2 hW => ?_)
    · obtain ⟨y3, l', rfl, w1, w2, w3, w4, w5⟩ := hW
      exact sq_of w5
    · obtain ⟨y3, l', rfl, w1, w2, w3, w4, w5⟩ := hW
      have hk : k < l.length := by
        have := (List.getElem?_eq_some_iff.mp hx).1
        rw [natsV_len] at this
        exact this
      have hx' : x = .int (l[k] : Int) := by
        unfold natsV at hx
        rw [List.getElem?_map, List.getElem?_eq_getElem hk] at hx
        exact (Option.some.inj hx).symm
      subst hx'
      have ln : l'.length = k := by
        rw [w2.length_eq, List.length_take]
        omega
      refine g_at [some (.ref p), some (.ref a), some (.ref fa), some (.int (l[k] : Int))] rfl ?_
      refine ⟨.ref fa, rfl, .inl ⟨rfl, _, sq_of w1⟩, .ref p, rfl, (ev_op (ev_len (K := K) (ev_var rfl) (sq_of w1)) ev_c rv_I0 : Ev (tOp (rI0 fun i j => .int (i + j)) (tCB (rLenS K) (tCons (tVar 2) tNil)) (tC (.int 1))) [some (.ref p), some (.ref a), some (.ref fa), some (.int (l[k] : Int))] H2 _) H2 (Ex.refl H2) _ fun H3 e3 => ?_⟩
      refine ⟨p, _, n + k, rfl, by rw [natsV_len]; omega, by rw [natsV_len]; omega, w3.ex e3, by omega, fun r H4 r0 r1 x4 b4 => ?_⟩
      rw [natsV_len] at r1
      obtain ⟨t, rfl⟩ := Int.eq_ofNat_of_zero_le r0
      have w14 := x4 _ _ npf (e3 _ _ w1)
      have w54 := x4 _ _ nap (e3 _ _ w5)
      refine ⟨.int (l[k] : Int), rfl, fa, natsV l', (t : Int), _, rfl, rfl, w14, sz_lt (by rw [natsV_len]; omega), by omega, by omega, ?_⟩
      rw [Int.toNat_natCast, ins_nats]
      refine ⟨_, l'.take t ++ l[k] :: l'.drop t, rfl, upd_same, ?_, b4.mut (Ne.symm npf), ((w4.trans (.of e3)).trans x4).mut hfa, by rw [upd_ne naf]; exact w54⟩
      have tk : l.take (k + 1) = l.take k ++ [l[k]] := by
        rw [List.take_add_one, List.getElem?_eq_getElem hk]
        rfl
      rw [tk]
      refine List.perm_middle.trans ?_
      rw [List.take_append_drop]
      exact (List.Perm.cons _ w2).trans (List.perm_append_comm (l₁ := [l[k]]))
    · obtain ⟨y3, l', rfl, w1, w2, w3, w4, w5⟩ := hW
      rw [natsV_len] at w2 w3
      rw [List.take_length] at w2
      exact s_ret (ev_var rfl) fun H3 e3 => q fa l' H3 hfa (w4.trans (.of e3)) ((w3.ex e3).le (by omega)) (e3 _ _ w1) w2
theorem ok_is_number {f : Addr} {fd : FuncData} (F : FnP K "is_number" s_is_number f fd) (g : mg "is_number" = some (.ref f)) (b : Binds K fd ["thing"] []) (m_isinstance : mg "isinstance" = none) (m_int : mg "int" = none) (m_bool : mg "bool" = none) : Has P w K mg base 1 "is_number" ["thing"] (spAnyB K isNumD) f fd := by
  refine ⟨F.ok sc_is_number (fun vs H Q E h => ?_) (fun cdv A outer s H vs Q E hr h => ?_), g, F.kp, b⟩
  · obtain ⟨p, v, d, c, k, rfl, _⟩ := h
    rfl
  · obtain ⟨p, v, d, c, k, rfl, hd, hw, q⟩ := h
    refine ⟨_, PSs.nox (pss_one (ps_ret (pe_and (pe_callB call_isi (by rfl) m_isinstance (by decide +kernel) (pa_cons (pv 0) (pa_cons (pe_bltn (v := .ty "int") (by rfl) m_int (by decide +kernel) rfl) pa_nil))) (pe_one (pe_not (pe_callB call_isi (by rfl) m_isinstance (by decide +kernel) (pa_cons (pv 0) (pa_cons (pe_bltn (v := .ty "bool") (by rfl) m_bool (by decide +kernel) rfl) pa_nil)))))))), ?_⟩
    exact s_ret (ev_is (ev_andV (ev_isiD (ev_var rfl) hd (kitI d)) fun _ => ev_notV (ev_isiD (ev_var rfl) hd (kitBo d))) (by cases d <;> rfl)) fun H1 e1 => q H1 e1
end
end K05
set_option maxHeartbeats 4000000
namespace K05
open PySem PySem.Spec PyProof.Rows L2 Evl HH RZ
section
variable {P : Program} {w : World} {K : PySem.W.Frag} {mg : Str → Option Value} {base : Heap}
theorem ok_is_order {f f1 : Addr} {fd fd1 : FuncData} (F : FnP K "is_order" s_is_order f fd) (g : mg "is_order" = some (.ref f)) (b : Binds K fd ["row", "thing"] []) (h_is_number : Has P w K mg base 1 "is_number" ["thing"] (spAnyB K isNumD) f1 fd1) (m_isinstance : mg "isinstance" = none) (m_tuple : mg "tuple" = none) (m_len : mg "len" = none) (m_all : mg "all" = none) (m_range : mg "range" = none) (m_list : mg "list" = none) (m_sorted : mg "sorted" = none) : Has P w K mg base 2 "is_order" ["row", "thing"] (spOrd K) f fd := by
  refine ⟨F.ok sc_is_order (fun vs H Q E h => ?_) (fun cdv A outer s H vs Q E hr h => ?_), g, F.kp, b⟩
  · obtain ⟨PP, v, rs, x, d, c, k, rfl, _⟩ := h
    rfl
  · obtain ⟨PP, v, rs, x, d, c, k, rfl, hv, hrl, hd, hw, q⟩ := h
    have hu : (A.deeper (envOfC "is_order" (defScope s_is_order) s.heap.objs.size f cdv)).units + 64 < cLine := by
      have := hr.un
      omega
    refine ⟨_, PSs.nox (pss_cons (ps_if (PW.pt (pw_or (pt_not (pt_val (pe_callB call_isi (by rfl) m_isinstance (by decide +kernel) (pa_cons (pv 1) (pa_cons (pe_bltn (v := .ty "tuple") (by rfl) m_tuple (by decide +kernel) rfl) pa_nil))))) (pw_or1 (pt_not (pt_val (pe_callB (cr_all rfl) (by rfl) m_all (by decide +kernel) (pa_cons (pe_lc (own := [("part", 2)]) (g := gName 2) (by rfl) sc_is_order.nd (pi_tup (pv 1)) (blkOk_by (own := [("part", 2)]) (N := ["row", "thing", "part"]) (sc := defScope s_is_order) (by decide +kernel)) (fun _ _ _ _ _ => (pg_name (i := 2) sc_is_order.nd rfl (Or.inl rfl))) (fun _ _ _ _ _ => pts_nil) (fun _ _ _ _ _ => (pe_call h_is_number.G (hr.mono (by decide)) (by rfl) h_is_number.g h_is_number.kp h_is_number.b .nil pass0 (pa_cons (pv 2) pa_nil)))) pa_nil))))))) (pss_one (ps_ret pe_bl)) pss_nil)
      (pss_one (ps_ret (pe_cmpR (op_eqD hu) (pe_callB cr_sortedIT (by rfl) m_sorted (by decide +kernel) (pa_cons (pv 1) pa_nil)) (pe_listRg rfl (by rfl) m_list (prg_1 (by rfl) m_range (pe_callB call_len_seq (by rfl) m_len PySem.boot_len (pa_cons (pv 0) pa_nil)))) (nomark _))))), ?_⟩
    by_cases ht : isTupB d = true
    · obtain ⟨ds, rfl⟩ := tup_is ht
      obtain ⟨k', a, xs, rfl, rfl, hs, hx⟩ := hd.tupAt
      have wl := (wtD_len ds).1
      have hl := hx.1
      have er : isOrderD rs.length (.tuple ds) = (ds.all isNumD && orderB rs.length (intsD ds)) := rfl
      refine q_when (b := !(ds.map isNumD).all id) (et_is (et_or (a := false) (b := !(ds.map isNumD).all id) (et_is (et_not (et_B (ev_isiD (ev_var rfl) hd (kitT _)))) rfl) fun _ => et_not (et_B (ev_allB (el_dsB isNumD (ev_var rfl) hs.sq hx (by omega) (fun x => rfl) (fun i z e hz he H5 e5 => ev_call (ea_cons (ev_var rfl) ea_nil) (sv_any ((hx.2 i z e hz he).ex e5) (by have := (wtD_at he).1; omega))))))) (Bool.false_or _)) (fun z H1 e1 => ?_) fun z H1 e1 => ?_
      · refine s_ret ev_c fun H2 e2 => ?_
        have := q H2 (e1.trans e2)
        rw [List.all_map] at z
        have z : ds.all isNumD = false := by
          cases h : ds.all isNumD with
          | false => rfl
          | true =>
            rw [show ds.all (id ∘ isNumD) = ds.all isNumD from rfl, h] at z
            cases z
        rw [er, z] at this
        exact this
      · rw [List.all_map] at z
        have z : ds.all isNumD = true := by
          cases h : ds.all isNumD with
          | true => rfl
          | false =>
            rw [show ds.all (id ∘ isNumD) = ds.all isNumD from rfl, h] at z
            cases z
        obtain ⟨exs, eds⟩ := das_num hx z
        have hs1 : SqT K H1 a ((intsD ds).map V.int) := by
          rw [← exs]
          exact (hs.ex e1).sq
        have key : Ev (tOp (rEqD K) (tCB (rSortedIT K) (tCons (tVar 1) tNil)) (tLstRg (tRg1 (tCB (rLenS K) (tCons (tVar 0) tNil))))) [some v, some (.ref a), none] H1 (.bl (orderB rs.length (intsD ds))) := fun H2 e2 Q2 q2 => by
          refine ⟨.ref a, rfl, a, intsD ds, rfl, ex_t e2 hs1, fun ns' p pm srt hp => ?_⟩
          have n3 := Ex.new (o := .lst (ns'.map V.int)) hp
          refine (el_listRg (ev_lenR (K := K) (ev_var rfl) (hv.ex (e1.trans (e2.trans n3)))) (by omega)) _ (Ex.refl _) _ fun p2 H4 hp2 e4 g4 => ?_
          rw [rg0] at g4
          refine ⟨.list (ns'.map PyData.int), .list ((rgI rs.length).map PyData.int), .lst (sq_of (e4 _ _ upd_same)) (dp_intsA _), .lst (sq_of g4) (dp_intsA _), Nice.shaped (k := 1) (nice_list fun d hd => ?_) (by decide), Nice.shaped (k := 1) (nice_list fun d hd => ?_) (by decide), ?_⟩
          · obtain ⟨i, _, rfl⟩ := List.mem_map.mp hd
            exact ⟨by simp [PyData.canLay0], by simp [PyData.depth]⟩
          · obtain ⟨i, _, rfl⟩ := List.mem_map.mp hd
            exact ⟨by simp [PyData.canLay0], by simp [PyData.depth]⟩
          · rw [eqv_ints, sort_order pm srt]
            exact q2 _ (n3.trans e4)
        refine s_ret key fun H2 e2 => ?_
        have := q H2 (e1.trans e2)
        rw [er, z] at this
        exact this
    · have ht : isTupB d = false := by simpa using ht
      refine q_when (b := true) (et_or (a := true) (b := true) (et_is (et_not (et_B (ev_isiD (ev_var rfl) hd (kitT d)))) (by rw [ht]; rfl)) fun z => by cases z) (fun z H1 e1 => s_ret ev_c fun H2 e2 => ?_) (fun z => by cases z)
      have := q H2 (e1.trans e2)
      rw [notTupO ht] at this
      exact this
theorem ok_law_is_order {f : Addr} {fd : FuncData} (F : FnP K "_law_is_order" s_law_is_order f fd) (g : mg "_law_is_order" = some (.ref f)) (b : Binds K fd ["_law_many", "_law_item"] []) (m_isinstance : mg "isinstance" = none) (m_tuple : mg "tuple" = none) (m_len : mg "len" = none) (m_all : mg "all" = none) (m_range : mg "range" = none) (m_int : mg "int" = none) (m_bool : mg "bool" = none) : Has P w K mg base 1 "_law_is_order" ["_law_many", "_law_item"] (spOrdL K) f fd := by
  refine ⟨F.ok sc_law_is_order (fun vs H Q E h => ?_) (fun cdv A outer s H vs Q E hr h => ?_), g, F.kp, b⟩
  · obtain ⟨PP, n, x, d, c, k, rfl, _⟩ := h
    rfl
  · obtain ⟨PP, n, x, d, c, k, rfl, hn, hd, hw, q⟩ := h
    refine ⟨_, PSs.nox (pss_cons (ps_if (PW.pt (pw_or (pt_not (pt_val (pe_callB (call_isiK (K := K)) (by rfl) m_isinstance (by decide +kernel) (pa_cons (pv 1) (pa_cons (pe_bltn (v := .ty "tuple") (by rfl) m_tuple (by decide +kernel) rfl) pa_nil))))) (pw_or1 (pt_cmpR op_ne (pe_callB call_len_seq (by rfl) m_len PySem.boot_len (pa_cons (pv 1) pa_nil)) (pv 0) (nomark _))))) (pss_one (ps_ret pe_bl)) pss_nil)
      (pss_cons (ps_if (pt_not (pt_val (pe_callB (cr_all rfl) (by rfl) m_all (by decide +kernel) (pa_cons (pe_lc (own := [("_law_part", 3)]) (g := gName 3) (by rfl) sc_law_is_order.nd (pi_tup (pv 1)) (blkOk_by (own := [("_law_part", 3)]) (N := ["_law_many", "_law_item", "_law_place", "_law_part"]) (sc := defScope s_law_is_order) (by decide +kernel)) (fun _ _ _ _ _ => (pg_name (i := 3) sc_law_is_order.nd rfl (Or.inl rfl))) (fun _ _ _ _ _ => pts_nil) (fun _ _ _ _ _ => (pe_and (pe_callB (call_isiK (K := K)) (by rfl) m_isinstance (by decide +kernel) (pa_cons (pv 3) (pa_cons (pe_bltn (v := .ty "int") (by rfl) m_int (by decide +kernel) rfl) pa_nil))) (pe_one (pe_not (pe_callB (call_isiK (K := K)) (by rfl) m_isinstance (by decide +kernel) (pa_cons (pv 3) (pa_cons (pe_bltn (v := .ty "bool") (by rfl) m_bool (by decide +kernel) rfl) pa_nil)))))))) pa_nil)))) (pss_one (ps_ret pe_bl)) pss_nil)
      (pss_one (ps_ret (pe_callB (cr_all rfl) (by rfl) m_all (by decide +kernel) (pa_cons (pe_lc (own := [("_law_place", 2)]) (g := gName 2) (by rfl) sc_law_is_order.nd (pi_range1 (by rfl) m_range (pa_cons (pv 0) pa_nil)) (blkOk_by (own := [("_law_place", 2)]) (N := ["_law_many", "_law_item", "_law_place", "_law_part"]) (sc := defScope s_law_is_order) (by decide +kernel)) (fun _ _ _ _ _ => (pg_name (i := 2) sc_law_is_order.nd rfl (Or.inl rfl))) (fun _ _ _ _ _ => pts_nil) (fun _ _ _ _ _ => (pe_cmpR op_eq (pe_bmF PySem.F.slot_tuple_count PySem.F.type_tuple_count (mt_tcount (K := K)) (pv 1) (pa_cons (pv 2) pa_nil)) pe_int (nomark _)))) pa_nil)))))), ?_⟩
    by_cases ht : isTupB d = true
    · obtain ⟨ds, rfl⟩ := tup_is ht
      obtain ⟨k', a, xs, rfl, rfl, hs, hx⟩ := hd.tupAt
      have wl := (wtD_len ds).1
      have hl := hx.1
      have er : isOrderD n (.tuple ds) = (ds.all isNumD && (decide ((intsD ds).length = n) && ((List.range n).map fun (i : Nat) => decide ((intsD ds).count (i : Int) = 1)).all id)) := rfl
      have il : (intsD ds).length = ds.length := List.length_map ..
      refine q_when (b := !decide (xs.length = n)) (et_is (et_or (a := false) (b := !decide (xs.length = n)) (et_is (et_not (et_B (ev_isiD (ev_var rfl) hd (kitT _)))) rfl) fun _ => et_is (et_test (ev_op (ev_lenA (K := K) (ev_var rfl) (.inr hs.sq)) (ev_var rfl) (rv_ne rfl))) (by congr 1; exact decide_eq_decide.mpr ⟨fun h => by injection h with h; omega, fun h => by rw [h]⟩)) (Bool.false_or _)) (fun z H1 e1 => ?_) fun z H1 e1 => ?_
      · refine s_ret ev_c fun H2 e2 => ?_
        have := q H2 (e1.trans e2)
        have z : ¬ (ds.length = n) := by
          rw [← hl]
          intro h
          rw [decide_eq_true h] at z
          cases z
        rw [er, il, decide_eq_false z, Bool.false_and, Bool.and_false] at this
        exact this
      · have z : ds.length = n := by
          by_cases h : xs.length = n
          · omega
          · rw [decide_eq_false h] at z
            cases z
        refine q_when (b := !(ds.map isNumD).all id) (et_not (et_B (ev_allB (el_dsB isNumD (ev_var rfl) (hs.ex e1).sq (hx.ex e1) (by omega) (fun x => rfl) (fun i y e hy he H5 e5 => ?_))))) (fun z2 H2 e2 => ?_) fun z2 H2 e2 => ?_
        · have r := ((hx.2 i y e hy he).ex e1).ex e5
          exact ev_is (ev_andV (ev_isiD (ev_var rfl) r (kitI e)) fun _ => ev_notV (ev_isiD (ev_var rfl) r (kitBo e))) (by cases e <;> rfl)
        · refine s_ret ev_c fun H3 e3 => ?_
          have := q H3 (e1.trans (e2.trans e3))
          rw [List.all_map] at z2
          have z2 : ds.all isNumD = false := by
            cases h : ds.all isNumD with
            | false => rfl
            | true =>
              rw [show ds.all (id ∘ isNumD) = ds.all isNumD from rfl, h] at z2
              cases z2
          rw [er, z2] at this
          exact this
        · rw [List.all_map] at z2
          have z2 : ds.all isNumD = true := by
            cases h : ds.all isNumD with
            | true => rfl
            | false =>
              rw [show ds.all (id ∘ isNumD) = ds.all isNumD from rfl, h] at z2
              cases z2
          obtain ⟨exs, eds⟩ := das_num hx z2
          have fr := (hs.ex e1).ex e2
          have key := el_lcR1 (σ := [some (.int (n : Int)), some (.ref a), none, none]) (H := H2) (ta := tCons (tVar 0) tNil) (j := 2) (vs := [2]) (t := tYes) (te := tOp rEq (tBMF (rTCnt K) (tVar 1) (tCons (tVar 2) tNil)) (tC (.int 1))) (n := (n : Int)) (fun _ => true) (fun (i : Nat) => .bl (decide ((intsD ds).count (i : Int) = 1))) (ea_cons (ev_var rfl) ea_nil) ⟨by omega, by omega⟩ (fun x => rfl) (fun i H1 e1 hi => et_yes) (fun i H3 e3 hi _ => ?_)
          · rw [Int.toNat_natCast, given_all] at key
            refine s_ret (ev_allB key) fun H3 e3 => ?_
            have := q H3 (e1.trans (e2.trans e3))
            rw [er, z2, il, decide_eq_true z, Bool.true_and, Bool.true_and] at this
            exact this
          · refine ev_is (ev_op (x := .int (((intsD ds).count (i : Int) : Nat) : Int)) (fun H4 e4 Q4 q4 => ?_) ev_c (rv_eq rfl)) (congrArg V.bl (decide_eq_decide.mpr ⟨fun h => by injection h with h; omega, fun h => by rw [h]; rfl⟩))
            have f4 := fr.ex (e3.trans e4)
            have s4 : SqT K H4 a ((intsD ds).map V.int) := by
              rw [← exs]
              exact f4.sq
            obtain ⟨o, po, ho⟩ := f4
            exact ⟨.ref a, rfl, ⟨a, o, _, rfl, ho, po⟩, .int (i : Int), rfl, a, intsD ds, (i : Int), rfl, rfl, s4, q4 H4 (Ex.refl H4)⟩
    · have ht : isTupB d = false := by simpa using ht
      refine q_when (b := true) (et_or (a := true) (b := true) (et_is (et_not (et_B (ev_isiD (ev_var rfl) hd (kitT d)))) (by rw [ht]; rfl)) fun z => by cases z) (fun z H1 e1 => s_ret ev_c fun H2 e2 => ?_) (fun z => by cases z)
      have := q H2 (e1.trans e2)
      rw [notTupO ht] at this
      exact this
end
end K05
set_option maxHeartbeats 4000000
namespace K05
open PySem PySem.Spec PyProof.Rows L2 Evl HH RZ
section
variable {P : Program} {w : World} {K : PySem.W.Frag} {mg : Str → Option Value} {base : Heap}
theorem bent_all {f f1 f2 : Addr} {fd fd1 fd2 : FuncData} (F : FnP K "_law_bent" s_law_bent f fd) (g : mg "_law_bent" = some (.ref f)) (b : Binds K fd ["_law_box", "_law_item"] []) (h_law_take : Has P w K mg base 1 "_law_take" ["_law_box", "_law_many"] spTake f1 fd1) (h_law_of : Has P w K mg base 2 "_law_of" ["_law_box", "_law_pool"] (spOf K) f2 fd2) (m_isinstance : mg "isinstance" = none) (m_list : mg "list" = none) (m_tuple : mg "tuple" = none) (m_int : mg "int" = none) (m_bool : mg "bool" = none) (m_len : mg "len" = none) :
    ∀ j, Has P w K mg base (j + 3) "_law_bent" ["_law_box", "_law_item"] (spBentA K j) f fd
  | 0 => ⟨⟨fun _ _ _ _ h => h.elim, fun _ _ _ _ _ _ _ _ _ _ _ _ _ h => h.elim⟩, g, F.kp, b⟩
  | j + 1 => by
    have h_law_bent := bent_all F g b h_law_take h_law_of m_isinstance m_list m_tuple m_int m_bool m_len j
    refine ⟨F.ok sc_law_bent (fun vs H Q E h => ?_) (fun cdv A outer s H vs Q E hr h => ?_), g, F.kp, b⟩
    · obtain ⟨PP, p, x, d, c, n, rfl, _⟩ := h
      rfl
    · obtain ⟨PP, p, x, d, c, n, rfl, hp, hP, hd, hw, hc, hb, hlim, q⟩ := h
      refine ⟨_, PSs.nox (pss_cons (ps_set (i := 2) sc_law_bent.nd rfl (.inl rfl) (pe_lst (pa_cons pe_non (pa_cons pe_bl (pa_cons pe_bl (pa_cons pe_int (pa_cons pe_int (pa_cons (pe_un un_neg pe_int) (pa_cons (pe_op op_pow pe_int pe_int) (pa_cons pe_str (pa_cons pe_str (pa_cons (pe_tupF pa_nil) (pa_cons (pe_lst pa_nil) (pa_cons (pe_tupF (pa_cons pe_int (pa_cons pe_int pa_nil))) (pa_cons (pe_lst (pa_cons pe_int pa_nil)) (pa_cons (pe_tupF (pa_cons (pe_tupF (pa_cons pe_int (pa_cons pe_int pa_nil))) pa_nil)) pa_nil))))))))))))))))
      (pss_cons (ps_if (PW.pt (pw_or (pt_not (pt_val (pe_callB call_isiT (by rfl) m_isinstance (by decide +kernel) (pa_cons (pv 1) (pa_cons (pe_tup (pa_cons (pe_bltn (v := .ty "list") (by rfl) m_list (by decide +kernel) rfl) (pa_cons (pe_bltn (v := .ty "tuple") (by rfl) m_tuple (by decide +kernel) rfl) pa_nil))) pa_nil))))) (pw_or (pt_cmpR op_eq (pe_callB call_len_seq (by rfl) m_len PySem.boot_len (pa_cons (pv 1) pa_nil)) pe_int (nomark _)) (pw_or1 (pt_cmpR op_eq (pe_call h_law_take.G (hr.mono (by omega)) (by rfl) h_law_take.g h_law_take.kp h_law_take.b .nil pass0 (pa_cons (pv 0) (pa_cons pe_int pa_nil))) pe_int (nomark _)))))) (pss_cons (ps_if (PW.pt (pw_and (pt_val (pe_callB call_isi (by rfl) m_isinstance (by decide +kernel) (pa_cons (pv 1) (pa_cons (pe_bltn (v := .ty "int") (by rfl) m_int (by decide +kernel) rfl) pa_nil)))) (pw_and (pt_not (pt_val (pe_callB call_isi (by rfl) m_isinstance (by decide +kernel) (pa_cons (pv 1) (pa_cons (pe_bltn (v := .ty "bool") (by rfl) m_bool (by decide +kernel) rfl) pa_nil))))) (pw_and1 (pt_cmpR op_eq (pe_call h_law_take.G (hr.mono (by omega)) (by rfl) h_law_take.g h_law_take.kp h_law_take.b .nil pass0 (pa_cons (pv 0) (pa_cons pe_int pa_nil))) pe_int (nomark _)))))) (pss_one (ps_ret (pe_op op_add (pv 1) (pe_call h_law_of.G (hr.mono (by omega)) (by rfl) h_law_of.g h_law_of.kp h_law_of.b .nil pass0 (pa_cons (pv 0) (pa_cons (pe_lst (pa_cons pe_int (pa_cons (pe_un un_neg pe_int) (pa_cons (pe_op op_sub (pe_un un_neg (pv 1)) pe_int) pa_nil)))) pa_nil)))))) pss_nil)
      (pss_one (ps_ret (pe_call h_law_of.G (hr.mono (by omega)) (by rfl) h_law_of.g h_law_of.kp h_law_of.b .nil pass0 (pa_cons (pv 0) (pa_cons (pv 2) pa_nil)))))) pss_nil)
      (pss_cons (ps_par3 (i := 3) (j := 4) (l := 5) (by rfl) sc_law_bent.nd rfl rfl rfl (by decide) (by decide) (by decide) rfl rfl rfl (pa_cons (pe_callTy call_list_of (by rfl) m_list (by decide +kernel) (pa_cons (pv 1) pa_nil)) (pa_cons (pe_call h_law_take.G (hr.mono (by omega)) (by rfl) h_law_take.g h_law_take.kp h_law_take.b .nil pass0 (pa_cons (pv 0) (pa_cons (pe_callB call_len_seq (by rfl) m_len PySem.boot_len (pa_cons (pv 1) pa_nil)) pa_nil))) (pa_cons (pe_call h_law_take.G (hr.mono (by omega)) (by rfl) h_law_take.g h_law_take.kp h_law_take.b .nil pass0 (pa_cons (pv 0) (pa_cons pe_int pa_nil))) pa_nil))) (by rfl))
      (pss_cons (ps_if (pt_cmpR op_lt (pv 5) pe_int (nomark _)) (pss_one (ps_asg (pe_call h_law_bent.G hr (by rfl) h_law_bent.g h_law_bent.kp h_law_bent.b .nil pass0 (pa_cons (pv 0) (pa_cons (pe_ix ix_list (pv 3) (pv 4) (fun _ _ => rfl)) pa_nil))) (pg_sub (pv 3) (pv 4) set_list))) (pss_one (ps_if (pt_cmpR op_eq (pv 5) pe_int (nomark _)) (pss_one (ps_expr (pe_bm PySem.F.plainAttrs_list PySem.F.slot_list_pop PySem.F.type_list_pop mt_popAt (pv 3) (pa_cons (pv 4) pa_nil)))) (pss_one (ps_if (pt_cmpR op_eq (pv 5) pe_int (nomark _)) (pss_one (ps_expr (pe_bm PySem.F.plainAttrs_list PySem.F.slot_list_insert PySem.F.type_list_insert mt_insert (pv 3) (pa_cons (pv 4) (pa_cons (pe_ix ix_list (pv 3) (pe_call h_law_take.G (hr.mono (by omega)) (by rfl) h_law_take.g h_law_take.kp h_law_take.b .nil pass0 (pa_cons (pv 0) (pa_cons (pe_callB call_len_seq (by rfl) m_len PySem.boot_len (pa_cons (pv 3) pa_nil)) pa_nil))) (fun _ _ => rfl)) pa_nil))))) (pss_one (ps_if (pt_cmpR op_eq (pv 5) pe_int (nomark _)) (pss_one (ps_asg (pe_tup (pa_cons (pe_ix ix_list (pv 3) (pv 4) (fun _ _ => rfl)) (pa_cons (pe_ix ix_list (pv 3) pe_int (fun _ _ => rfl)) pa_nil))) (pg_tup rfl (pgs_cons (pg_sub (pv 3) pe_int set_list) (pgs_cons (pg_sub (pv 3) (pv 4) set_list) pgs_nil))))) (pss_one (ps_ret (pe_ifExp (pt_val (pe_callB call_isi (by rfl) m_isinstance (by decide +kernel) (pa_cons (pv 1) (pa_cons (pe_bltn (v := .ty "list") (by rfl) m_list (by decide +kernel) rfl) pa_nil)))) (pe_tupleOfF (by rfl) m_tuple (pv 3)) (pv 3)))))))))))
      (pss_one (ps_ret (pe_ifExp (pt_val (pe_callB call_isi (by rfl) m_isinstance (by decide +kernel) (pa_cons (pv 1) (pa_cons (pe_bltn (v := .ty "list") (by rfl) m_list (by decide +kernel) rfl) pa_nil)))) (pv 3) (pe_tupleOfF (by rfl) m_tuple (pv 3))))))))), ?_⟩
      have i0 : ∀ {σ : L2.St} {k : Nat}, EvDa PP K c k (tC (.int 0)) σ H (.int 0) := fun {σ k} => ed_at ev_c ⟨rfl, Nat.zero_le _⟩
      refine q_asgDs (K := K) (P := PP) (c := c) (k := 2) (ds := oddL) (as_cons (ed_at ev_c True.intro) (as_cons (ed_at ev_c rfl) (as_cons (ed_at ev_c rfl) (as_cons i0 (as_cons (ed_at ev_c ⟨rfl, ?_⟩) (as_cons (ed_at (ev_un ev_c ru_neg) ⟨rfl, ?_⟩) (as_cons (ed_at (ev_pow (c := 1000000000000000000000000000000) ⟨by decide, by decide, by decide⟩ rfl) ⟨rfl, ?_⟩) (as_cons (ed_at ev_c ⟨rfl, fit0⟩) (as_cons (ed_at ev_c ⟨rfl, fitA⟩) (as_cons (ed_tup (k := 1) as_nil (Nat.zero_le _)) (as_cons (ed_lst (k := 1) hP as_nil (Nat.zero_le _)) (as_cons (ed_tup (k := 1) (as_cons i0 (as_cons i0 as_nil)) (by show 2 ≤ 10000; decide)) (as_cons (ed_lst (k := 1) hP (as_cons i0 as_nil) (by show 1 ≤ 10000; decide)) (as_cons (ed_tup (k := 1) (as_cons (ed_tup (k := 0) (as_cons i0 (as_cons i0 as_nil)) (by show 2 ≤ 10000; decide)) as_nil) (by show 1 ≤ 10000; decide)) as_nil)))))))))))))) (by show 14 ≤ 10000; decide) fun oa ou H1 hoa e1 g1 so => ?_
      · show 1 ≤ 10 ^ 30 + c
        omega
      · show 1 ≤ 10 ^ 30 + c
        omega
      · show 1000000000000000000000000000000 ≤ 10 ^ 30 + c
        omega
      refine s_at [some (.ref p), some x, some (.ref oa), none, none, none] rfl ?_
      have noa : oa ≠ p := (hb.ne hoa).symm
      have lou : ou.length = 14 := so.1
      have b1 := hb.ex e1
      obtain ⟨bl, hbl⟩ := hb.lst
      have hbl1 := e1 _ _ hbl
      have qq : ∀ (y : V) (d' : PyData) (H' : Hp) (m : Nat) (k : Nat), ExB p H H' → Bx H' p m → m ≤ n + 5 * (j + 1) → Da PP K (c + 1) H' k y d' → k ≤ j + 2 → wtD d' ≤ 2 * wtD d + 400 → Q y H' := fun y d' H' m k x' b' hm hd' hk hw' => q y d' H' x' (b'.le hm) (hd'.to hk) hw'
      have retOdd : ∀ (D : Ends) (H' : Hp) (m : Nat), D.rt = Q → ExB p H1 H' → Bx H' p m → m + 1 ≤ n + 5 * (j + 1) → tRet (tCall (spOf K) [] E0 (tCons (tVar 0) (tCons (tVar 2) tNil))) D [some (.ref p), some x, some (.ref oa), none, none, none] H' := fun D H' m hD x' b' hm => by
        refine ⟨.ref p, rfl, .ref oa, rfl, p, oa, ou, m, rfl, sq_of (x' _ _ noa g1), by omega, by omega, noa, b', by omega, fun r y H2 hy x2 b2 => ?_⟩
        rw [hD]
        have hr : r < oddL.length := by
          have := (List.getElem?_eq_some_iff.mp hy).1
          rw [← so.1]
          exact this
        have hdr := List.getElem?_eq_getElem hr
        obtain ⟨bl', hbl'⟩ := b'.lst
        have := ((so.2 r y _ hy hdr).exB hp x' hbl1).exB hp x2 hbl'
        refine qq y _ H2 (m + 1) 2 ((ExB.of e1).trans (x'.trans x2)) b2 hm (this.cc (by omega)) (by omega) ?_
        have := odd_wt (List.mem_of_getElem? hdr)
        omega
      have thenB : ∀ (D : Ends) (H' : Hp) (m : Nat), D.rt = Q → ExB p H1 H' → Bx H' p m → m + 2 ≤ n + 5 * (j + 1) → tSeq (tIfS (tAnd (tB (tCB (rIsi K) (tCons (tVar 1) (tCons (tC (.ty "int")) tNil)))) (tAnd (tNot (tB (tCB (rIsi K) (tCons (tVar 1) (tCons (tC (.ty "bool")) tNil))))) (tTest (tOp rEq (tCall spTake [] E0 (tCons (tVar 0) (tCons (tC (.int 2)) tNil))) (tC (.int 0)))))) (tRet (tOp (rI0 fun i j => .int (i + j)) (tVar 1) (tCall (spOf K) [] E0 (tCons (tVar 0) (tCons (tLst (tCons (tC (.int 1)) (tCons (tUn (rU fun i => .int (-i)) (tC (.int 1))) (tCons (tOp (rI0 fun i j => .int (i - j)) (tUn (rU fun i => .int (-i)) (tVar 1)) (tC (.int 1))) tNil)))) tNil))))) tNext) (tRet (tCall (spOf K) [] E0 (tCons (tVar 0) (tCons (tVar 2) tNil)))) D [some (.ref p), some x, some (.ref oa), none, none, none] H' := fun D H' m hD x' b' hm => by
        have hd' := (hd.ex e1).exB hp x' hbl1
        by_cases hi : isIntB d = true ∧ isBoolB d = false
        · cases d with
          | int i =>
            have ex := hd'.intAt
            subst ex
            refine qs_run ?_
            refine and_run (et_is (et_B (ev_isiD (ev_var rfl) hd' (kitI _))) rfl) fun H2 e2 => and_run (et_is (et_not (et_B (ev_isiD (ev_var rfl) (hd'.ex e2) (kitBo _)))) rfl) fun H3 e3 => draw0 rfl (by decide) (by decide) (b'.ex (e2.trans e3)) (by omega) fun cc H4 x4 b4 => ?_
            have x14 : ExB p H1 H4 := (x'.trans (.of (e2.trans e3))).trans x4
            cases cc with
            | false => exact retOdd D H4 (m + 1) hD x14 b4 (by omega)
            | true =>
              obtain ⟨bl4, hbl4⟩ := b4.lst
              refine ⟨.int i, rfl, .ref p, rfl, 1, rfl, .int i, rfl, i, rfl, -i, 1, rfl, rfl, by show 3 ≤ sizeLine; decide, fun la hla => ⟨p, la, _, m + 1, rfl, sq_of upd_same, by show 0 < 3; decide, by show 3 < 100000; decide, (b4.ne hla).symm, b4.ex (Ex.new hla), by omega, fun r y H5 hy x5 b5 => ?_⟩⟩
              have hi2 : i.natAbs ≤ 10 ^ 30 + c := hd.intB
              obtain ⟨z, rfl, hz⟩ : ∃ z : Int, y = .int z ∧ (i + z).natAbs ≤ 10 ^ 30 + (c + 1) := by
                match r, hy with
                | 0, hy =>
                  cases hy
                  exact ⟨_, rfl, by omega⟩
                | 1, hy =>
                  cases hy
                  exact ⟨_, rfl, by omega⟩
                | 2, hy =>
                  cases hy
                  exact ⟨_, rfl, by omega⟩
                | r + 3, hy => simp at hy
              refine ⟨i, z, rfl, rfl, ?_⟩
              rw [hD]
              exact qq _ (.int (i + z)) H5 (m + 1 + 1) 0 ((ExB.of e1).trans ((x14.trans (.of (Ex.new hla))).trans x5)) b5 (by omega) (show atomOk (c + 1) (.int (i + z)) (.int (i + z)) from ⟨rfl, hz⟩) (by omega) (by simp only [wtD]; omega)
          | bool _ => cases hi.2
          | none => cases hi.1
          | str _ => cases hi.1
          | list _ => cases hi.1
          | tuple _ => cases hi.1
          | dict _ => cases hi.1
        · refine qs_run ?_
          by_cases h1 : isIntB d = true
          · have h2 : isBoolB d = true := by
              cases h2 : isBoolB d with
              | true => rfl
              | false => exact (hi ⟨h1, h2⟩).elim
            refine and_run (et_is (et_B (ev_isiD (ev_var rfl) hd' (kitI _))) h1) fun H2 e2 => and_no (et_is (et_not (et_B (ev_isiD (ev_var rfl) (hd'.ex e2) (kitBo _)))) (by rw [h2]; rfl)) fun H3 e3 => retOdd D H3 m hD (x'.trans (.of (e2.trans e3))) (b'.ex (e2.trans e3)) (by omega)
          · have h1 : isIntB d = false := by simpa using h1
            refine and_no (et_is (et_B (ev_isiD (ev_var rfl) hd' (kitI _))) h1) fun H2 e2 => retOdd D H2 m hD (x'.trans (.of e2)) (b'.ex e2) (by omega)
      refine qs_run ?_
      rcases isCont hd with hc0 | ⟨hc0, ha0⟩
      case inr =>
        refine or_yes (et_is (et_not (et_B (ev_isiLT (ev_var rfl) (hd.ex e1)))) (by rw [hc0]; rfl)) fun H2 e2 => thenB _ H2 n rfl (.of e2) (b1.ex e2) (by omega)
      cases j with
      | zero => exact (Da.cont0 hd hc0).elim
      | succ k =>
        obtain ⟨a, xs, ds, rfl, h2, hx⟩ := hd.cont hc0
        have hl := hx.1
        have wl : 10 + wtDs ds = wtD d := by rcases h2 with ⟨_, _, rfl⟩ | ⟨_, rfl⟩ <;> rfl
        have wlen := wtDs_len ds
        have hsq : SqL K H a xs ∨ SqT K H a xs := by rcases h2 with ⟨_, h, _⟩ | ⟨h, _⟩; exact .inl (sq_of h); exact .inr h.sq
        have hsB : ∀ {H' : Hp}, ExB p H H' → SqL K H' a xs ∨ SqT K H' a xs := fun {H'} x' => by
          rcases h2 with ⟨n1, h, _⟩ | ⟨h, _⟩
          · exact .inl (sq_of (x' _ _ (fun z => n1 (by rw [z]; exact hp)) h))
          · exact .inr (x'.t hbl h.sq)
        refine or_run (et_is (et_not (et_B (ev_isiLT (ev_var rfl) (hd.ex e1)))) (by rw [hc0]; rfl)) fun H2 e2 => ?_
        by_cases hz : xs.length = 0
        · refine or_yes (et_is (et_test (ev_op (ev_lenA (K := K) (ev_var rfl) (hsB (.of (e1.trans e2)))) ev_c (rv_eq rfl))) (by rw [hz]; decide)) fun H3 e3 => thenB _ H3 n rfl (.of (e2.trans e3)) (b1.ex (e2.trans e3)) (by omega)
        refine or_run (et_is (et_test (ev_op (ev_lenA (K := K) (ev_var rfl) (hsB (.of (e1.trans e2)))) ev_c (rv_eq rfl))) (decide_eq_false fun z => by injection z with z; omega)) fun H3 e3 => ?_
        refine draw0 rfl (by decide) (by decide) (b1.ex (e2.trans e3)) (by omega) fun cc H4 x4 b4 => ?_
        have x14 : ExB p H1 H4 := ExB.trans (.of (e2.trans e3)) x4
        cases cc with
        | true => exact thenB _ H4 (n + 1) rfl x14 b4 (by omega)
        | false =>
          refine ⟨.ref a, rfl, a, xs, rfl, hsB ((ExB.of e1).trans x14), fun l hl4 => ?_⟩
          have x04 : ExB p H H4 := (ExB.of e1).trans x14
          have nlp : l ≠ p := (b4.ne hl4).symm
          have hlH : H l = none := x04.back hl4 nlp
          have nPl : ¬ PP l := fun z => by
            obtain ⟨o, ho⟩ := hP l z
            exact ne_of_none ho hlH rfl
          have x05 : ExB p H (upd H4 l (.lst xs)) := x04.new hl4
          have b5 : Bx (upd H4 l (.lst xs)) p (n + 1) := b4.ex (Ex.new hl4)
          have hx5 : DaS (Da (fun z => PP z ∨ z = l) K c (upd H4 l (.lst xs)) k) xs ds := ((hx.exB hp x04 hbl).add hl4).ex (Ex.new hl4)
          refine ⟨.ref p, rfl, .ref a, rfl, a, xs, rfl, hsB x05, p, (xs.length : Int), n + 1, rfl, by omega, by omega, b5, by omega, fun r1 H6 r10 r11 x6 b6 => ?_⟩
          obtain ⟨a1, rfl⟩ := Int.eq_ofNat_of_zero_le r10
          refine ⟨.ref p, rfl, p, 8, n + 2, rfl, by decide, by decide, b6, by omega, fun r2 H7 r20 r21 x7 b7 => ⟨_, _, _, rfl, ?_⟩⟩
          refine s_at [some (.ref p), some (.ref a), some (.ref oa), some (.ref l), some (.int (a1 : Int)), some (.int r2)] rfl ?_
          have x57 := x6.trans x7
          have gl : H7 l = some (.lst xs) := x57 _ _ nlp upd_same
          have x07 : ExB p H H7 := x05.trans x57
          obtain ⟨bl5, hbl5⟩ := b5.lst
          have hx7 : DaS (Da (fun z => PP z ∨ z = l) K c H7 k) xs ds := hx5.exB (p := p) (.inl hp) x57 hbl5
          have hP7 : ∀ {H' : Hp}, Ex H7 H' → ∀ z, (PP z ∨ z = l) → ∃ o, H' z = some o := fun {H'} e' z hz => by
            rcases hz with hz | rfl
            · by_cases zp : z = p
              · subst zp
                obtain ⟨o, ho⟩ := b7.lst
                exact ⟨_, e' _ _ ho⟩
              · obtain ⟨o, ho⟩ := hP z hz
                exact ⟨o, e' _ _ (x07 _ _ zp ho)⟩
            · exact ⟨_, e' _ _ gl⟩
          have retL : ∀ (Hf : Hp) (m : Nat) (ys : List V) (es : List PyData), ExB p H Hf → Bx Hf p m → m ≤ n + 5 * (k + 1 + 1) → Hf l = some (.lst ys) → DaS (Da (fun z => PP z ∨ z = l) K (c + 1) Hf (k + 2)) ys es → wtDs es ≤ 2 * wtDs ds + 400 → Q (.ref l) Hf := fun Hf m ys es xf bf hm gf hes hw => by
            refine qq (.ref l) (.list es) Hf m (k + 3) xf bf hm (da_lst nPl gf (hes.sub fun a h => .inl h)) (by omega) ?_
            show 10 + wtDs es ≤ _
            omega
          have retT : ∀ (Hf : Hp) (m : Nat) (ys : List V) (es : List PyData), ExB p H Hf → Bx Hf p m → m ≤ n + 5 * (k + 1 + 1) → Hf l = some (.lst ys) → DaS (Da (fun z => PP z ∨ z = l) K (c + 1) Hf (k + 2)) ys es → wtDs es ≤ 2 * wtDs ds + 400 → ∀ (t : Addr) (o : Obj), PlainT o → Hf t = none → Q (.ref t) (upd Hf t (.frz o (.tup ys))) := fun Hf m ys es xf bf hm gf hes hw t o po ht => by
            refine qq (.ref t) (.tuple es) (upd Hf t (.frz o (.tup ys))) m (k + 3) (xf.new ht) (bf.ex (Ex.new ht)) hm (da_tup ⟨o, po, upd_same⟩ ((hes.sub fun a h => .inl h).ex (Ex.new ht))) (by omega) ?_
            show 10 + wtDs es ≤ _
            omega
          have fin1 : ∀ (D : Ends) (Hf : Hp) (m : Nat) (ys : List V) (es : List PyData), D.rt = Q → ExB p H Hf → Bx Hf p m → m ≤ n + 5 * (k + 1 + 1) → Hf l = some (.lst ys) → DaS (Da (fun z => PP z ∨ z = l) K (c + 1) Hf (k + 2)) ys es → wtDs es ≤ 2 * wtDs ds + 400 → tRet (tIf (tB (tCB (rIsi K) (tCons (tVar 1) (tCons (tC (.ty "list")) tNil)))) (tVar 3) (tThen (tVar 3) (kTupF K))) D [some (.ref p), some (.ref a), some (.ref oa), some (.ref l), some (.int (a1 : Int)), some (.int r2)] Hf := fun D Hf m ys es hD xf bf hm gf hes hw => by
            refine ret_if (b := isListB d) (et_B (ev_isiD (ev_var rfl) (hd.exB hp xf hbl) (kitL _))) (fun _ Hg eg => ?_) fun _ Hg eg => ?_
            · rw [hD]
              exact ⟨.ref l, rfl, retL Hg m ys es (xf.trans (.of eg)) (bf.ex eg) hm (eg _ _ gf) (hes.ex eg) hw⟩
            · rw [hD]
              exact ⟨.ref l, rfl, l, ys, rfl, sq_of (eg _ _ gf), fun t o po ht => retT Hg m ys es (xf.trans (.of eg)) (bf.ex eg) hm (eg _ _ gf) (hes.ex eg) hw t o po ht⟩
          have fin2 : ∀ (D : Ends) (Hf : Hp) (m : Nat) (ys : List V) (es : List PyData), D.rt = Q → ExB p H Hf → Bx Hf p m → m ≤ n + 5 * (k + 1 + 1) → Hf l = some (.lst ys) → DaS (Da (fun z => PP z ∨ z = l) K (c + 1) Hf (k + 2)) ys es → wtDs es ≤ 2 * wtDs ds + 400 → tRet (tIf (tB (tCB (rIsi K) (tCons (tVar 1) (tCons (tC (.ty "list")) tNil)))) (tThen (tVar 3) (kTupF K)) (tVar 3)) D [some (.ref p), some (.ref a), some (.ref oa), some (.ref l), some (.int (a1 : Int)), some (.int r2)] Hf := fun D Hf m ys es hD xf bf hm gf hes hw => by
            refine ret_if (b := isListB d) (et_B (ev_isiD (ev_var rfl) (hd.exB hp xf hbl) (kitL _))) (fun _ Hg eg => ?_) fun _ Hg eg => ?_
            · rw [hD]
              exact ⟨.ref l, rfl, l, ys, rfl, sq_of (eg _ _ gf), fun t o po ht => retT Hg m ys es (xf.trans (.of eg)) (bf.ex eg) hm (eg _ _ gf) (hes.ex eg) hw t o po ht⟩
            · rw [hD]
              exact ⟨.ref l, rfl, retL Hg m ys es (xf.trans (.of eg)) (bf.ex eg) hm (eg _ _ gf) (hes.ex eg) hw⟩
          have updS : ∀ {Hf : Hp} {ys zs : List V} {es : List PyData} {c' k' : Nat}, Hf l = some (.lst ys) → DaS (Da (fun z => PP z ∨ z = l) K c' Hf k') zs es → DaS (Da (fun z => PP z ∨ z = l) K c' (upd Hf l (.lst zs)) k') zs es := fun {Hf ys zs es c' k'} g h => h.exB (p := l) (.inr rfl) (ExB.refl l Hf).upd g
          have p63 : (2 : Int) ^ 63 = 9223372036854775808 := by decide
          obtain ⟨xa, da, hxa, hda, ha⟩ := hx7.at' (i := a1) (by omega)
          have wda := wtDs_get hda
          refine qs_run ?_
          refine s_if (b := decide (r2 < 4)) (et_test (ev_op (ev_var rfl) ev_c rv_I0)) (fun z4 H8 e8 => ?_) (fun z4 H8 e8 => ?_)
          · refine ⟨.ref p, rfl, .ref l, rfl, .int (a1 : Int), rfl, l, xs, (a1 : Int), xa, rfl, rfl, sq_of (e8 _ _ gl), atI_nat hxa, (fun z => PP z ∨ z = l), p, xa, da, c, n + 3, rfl, .inl hp, hP7 e8, ha.ex e8, by omega, hc, b7.ex e8, by omega, fun y d' H9 x9 b9 hd9 w9 => ?_⟩
            have g9 : H9 l = some (.lst xs) := x9 _ _ nlp (e8 _ _ gl)
            obtain ⟨bl8, hbl8⟩ := b7.lst
            have hx9 := ((hx7.ex e8).exB (p := p) (.inl hp) x9 (e8 _ _ hbl8)).to (c' := c + 1) (k' := k + 2) (by omega) (by omega)
            refine ⟨.ref l, rfl, .int (a1 : Int), rfl, l, xs, (a1 : Int), a1, rfl, rfl, g9, Evl.ixN_nat (by omega), ?_⟩
            refine fin1 _ _ (n + 3 + 5 * (k + 1)) (xs.set a1 y) (ds.set a1 d') rfl (((x07.trans (.of e8)).trans x9).mut hlH) (b9.mut nlp.symm) (by omega) upd_same (updS g9 (hx9.set hd9)) ?_
            have := wtDs_set (e' := d') hda
            omega
          refine s_if (b := decide (r2 = 4)) (et_is (et_test (ev_op (ev_var rfl) ev_c (rv_eq rfl))) (decide_eq_decide.mpr ⟨fun h => by injection h, fun h => by rw [h]⟩)) (fun z5 H9 e9 => ?_) (fun z5 H9 e9 => ?_)
          · have e79 := e8.trans e9
            refine ⟨.ref l, rfl, .inl ⟨rfl, xs, sq_of (e79 _ _ gl)⟩, .int (a1 : Int), rfl, l, xs, (a1 : Int), a1, xa, rfl, rfl, e79 _ _ gl, by omega, by omega, PySem.seqIndex_of (by omega) (by omega), hxa, ?_⟩
            refine fin1 _ _ (n + 3) (xs.eraseIdx a1) (ds.eraseIdx a1) rfl ((x07.trans (.of e79)).mut hlH) ((b7.ex e79).mut nlp.symm) (by omega) upd_same (updS (e79 _ _ gl) (((hx7.ex e79).to (by omega) (by omega)).erase a1)) ?_
            have := wtDs_erase ds a1
            omega
          refine s_if (b := decide (r2 = 5)) (et_is (et_test (ev_op (ev_var rfl) ev_c (rv_eq rfl))) (decide_eq_decide.mpr ⟨fun h => by injection h, fun h => by rw [h]⟩)) (fun z6 Ha ea => ?_) (fun z6 Ha ea => ?_)
          · have e7a := (e8.trans e9).trans ea
            refine ⟨.ref l, rfl, .inl ⟨rfl, xs, sq_of (e7a _ _ gl)⟩, .int (a1 : Int), rfl, .ref l, rfl, .ref p, rfl, .ref l, rfl, l, xs, rfl, .inl (sq_of (e7a _ _ gl)), p, (xs.length : Int), n + 3, rfl, by omega, by omega, b7.ex e7a, by omega, fun r3 Hb r30 r31 xb bb => ?_⟩
            obtain ⟨a3, rfl⟩ := Int.eq_ofNat_of_zero_le r30
            obtain ⟨x3, d3, hx3, hd3, ha3⟩ := hx7.at' (i := a3) (by omega)
            have wd3 := wtDs_get hd3
            have gb : Hb l = some (.lst xs) := xb _ _ nlp (e7a _ _ gl)
            obtain ⟨bl8, hbl8⟩ := b7.lst
            have hxb := ((hx7.ex e7a).exB (p := p) (.inl hp) xb (e7a _ _ hbl8)).to (c' := c + 1) (k' := k + 2) (by omega) (by omega)
            have hdb : Da (fun z => PP z ∨ z = l) K (c + 1) Hb (k + 2) x3 d3 := (((ha3.ex e7a).exB (p := p) (.inl hp) xb (e7a _ _ hbl8)).to (by omega)).cc (by omega)
            refine ⟨l, xs, (a3 : Int), x3, rfl, rfl, sq_of gb, atI_nat hx3, l, xs, (a1 : Int), x3, rfl, rfl, gb, sz_lt (by omega), by omega, by omega, ?_⟩
            refine fin1 _ _ (n + 4) (xs.take a1 ++ [x3] ++ xs.drop a1) (ds.take a1 ++ [d3] ++ ds.drop a1) rfl ((x07.trans ((ExB.of e7a).trans xb)).mut hlH) (bb.mut nlp.symm) (by omega) upd_same (updS gb (((hxb.take a1).app (DaS.cons hdb DaS.nil)).app (hxb.drop a1))) ?_
            have w1 := wtDs_app (ds.take a1) (ds.drop a1)
            rw [List.take_append_drop] at w1
            rw [wtDs_app, wtDs_app]
            show _ + (wtD d3 + 2 + 0) + _ ≤ _
            omega
          refine s_if (b := decide (r2 = 6)) (et_is (et_test (ev_op (ev_var rfl) ev_c (rv_eq rfl))) (decide_eq_decide.mpr ⟨fun h => by injection h, fun h => by rw [h]⟩)) (fun z7 Hb eb => ?_) (fun z7 Hb eb => ?_)
          · have e7b := ((e8.trans e9).trans ea).trans eb
            obtain ⟨x0, d0, hx0, hd0, ha0⟩ := hx7.at' (i := 0) (by omega)
            have wd0 := wtDs_get hd0
            refine ⟨.ref l, rfl, .int (a1 : Int), rfl, l, xs, (a1 : Int), xa, rfl, rfl, sq_of (e7b _ _ gl), atI_nat hxa, .ref l, rfl, l, xs, 0, x0, rfl, rfl, sq_of (e7b _ _ gl), atI_nat (j := 0) hx0, by show 2 ≤ sizeLine; decide, fun t ht => ?_⟩
            have e7t := e7b.trans (Ex.new (o := .tup [xa, x0]) ht)
            have hxt := (hx7.ex e7t).to (c' := c + 1) (k' := k + 2) (by omega) (by omega)
            have ha0t : Da (fun z => PP z ∨ z = l) K (c + 1) _ (k + 2) x0 d0 := ((ha0.ex e7t).to (by omega)).cc (by omega)
            have hat : Da (fun z => PP z ∨ z = l) K (c + 1) _ (k + 2) xa da := ((ha.ex e7t).to (by omega)).cc (by omega)
            refine ⟨t, [xa, x0], rfl, st_of upd_same, rfl, xa, [x0], rfl, .ref l, rfl, l, xs, 0, 0, rfl, rfl, e7t _ _ gl, Evl.ixN_nat (j := 0) (by omega), x0, [], rfl, .ref l, rfl, .int (a1 : Int), rfl, l, xs.set 0 xa, (a1 : Int), a1, rfl, rfl, upd_same, Evl.ixN_nat (by rw [List.length_set]; omega), rfl, ?_⟩
            have u1 := updS (e7t _ _ gl) (hxt.set (i := 0) hat)
            have h0u := ha0t.exB (p := l) (.inr rfl) (ExB.refl l _).upd (e7t _ _ gl) (H' := upd _ l (.lst (xs.set 0 xa)))
            refine fin1 _ _ (n + 3) ((xs.set 0 xa).set a1 x0) ((ds.set 0 da).set a1 d0) rfl (((x07.trans (.of e7t)).mut hlH).mut hlH) (((b7.ex e7t).mut nlp.symm).mut nlp.symm) (by omega) upd_same (updS upd_same (u1.set h0u)) ?_
            have q1 := wtDs_set (e' := da) hd0
            by_cases a10 : a1 = 0
            · subst a10
              have q2 := wtDs_set (ds := ds.set 0 da) (i := 0) (e := da) (e' := d0) (by rw [List.getElem?_set_self (by omega)])
              omega
            · have q2 := wtDs_set (ds := ds.set 0 da) (i := a1) (e := da) (e' := d0) (by rw [List.getElem?_set_ne (by omega)]; exact hda)
              omega
          · have e7b := ((e8.trans e9).trans ea).trans eb
            exact fin2 _ _ (n + 3) xs ds rfl (x07.trans (.of e7b)) (b7.ex e7b) (by omega) (e7b _ _ gl) ((hx7.ex e7b).to (by omega) (by omega)) (by omega)
theorem ok_law_bent {f f1 f2 : Addr} {fd fd1 fd2 : FuncData} (F : FnP K "_law_bent" s_law_bent f fd) (g : mg "_law_bent" = some (.ref f)) (b : Binds K fd ["_law_box", "_law_item"] []) (h_law_take : Has P w K mg base 1 "_law_take" ["_law_box", "_law_many"] spTake f1 fd1) (h_law_of : Has P w K mg base 2 "_law_of" ["_law_box", "_law_pool"] (spOf K) f2 fd2) (m_isinstance : mg "isinstance" = none) (m_list : mg "list" = none) (m_tuple : mg "tuple" = none) (m_int : mg "int" = none) (m_bool : mg "bool" = none) (m_len : mg "len" = none) :
    Has P w K mg base 8 "_law_bent" ["_law_box", "_law_item"] (spBentE K) f fd := by
  have h3 := bent_all F g b h_law_take h_law_of m_isinstance m_list m_tuple m_int m_bool m_len 3
  have h5 := bent_all F g b h_law_take h_law_of m_isinstance m_list m_tuple m_int m_bool m_len 5
  have G3 := h3.G.mono (show 3 + 3 ≤ 8 by decide)
  exact ⟨⟨fun vs H Q E q => q.elim (h3.G.len vs H Q E) (h5.G.len vs H Q E), fun A outer s H args us vs Q E hr he hb hv q => q.elim (G3.run A outer s H args us vs Q E hr he hb hv) (h5.G.run A outer s H args us vs Q E hr he hb hv)⟩, g, F.kp, b⟩
end
end K05
set_option maxHeartbeats 4000000
namespace K05
open PySem PySem.Spec PyProof.Rows L2 Evl HH RZ
section
variable {P : Program} {w : World} {K : PySem.W.Frag} {mg : Str → Option Value} {base : Heap}
theorem natsV_rg (l : List Nat) : natsV l = (l.map fun (x : Nat) => (x : Int)).map V.int := by
  unfold natsV
  rw [List.map_map]
  rfl
theorem ok_law_right {f f1 f2 f3 f4 f5 f6 f7 : Addr} {fd fd1 fd2 fd3 fd4 fd5 fd6 fd7 : FuncData} (F : FnP K "_law_right" s_law_right f fd) (g : mg "_law_right" = some (.ref f)) (b : Binds K fd ["_law_box"] [])
    (h_law_row : Has P w K mg base 3 "_law_row" ["_law_box", "_law_most"] (spRow K) f1 fd1) (h_law_strewn : Has P w K mg base 2 "_law_strewn" ["_law_box", "_law_pool"] (spStrewn K) f2 fd2) (h_law_take : Has P w K mg base 1 "_law_take" ["_law_box", "_law_many"] spTake f3 fd3) (h_law_bent : Has P w K mg base 8 "_law_bent" ["_law_box", "_law_item"] (spBentE K) f4 fd4)
    (h_law_is_order : Has P w K mg base 1 "_law_is_order" ["_law_many", "_law_item"] (spOrdL K) f5 fd5) (h_is_order : Has P w K mg base 2 "is_order" ["row", "thing"] (spOrd K) f6 fd6) (kb_is_order : KBn K fd6 ["row", "thing"] 0 ["thing", "row"] (fun _ ws => ws.reverse) (fun _ zs => zs.reverse)) (h_law_same : Has P w K mg base 2 "_law_same" ["_law_found", "_law_due"] (spSame K 2) f7 fd7)
    (m_range : mg "range" = none) (m_repr : mg "repr" = none) (m_list : mg "list" = none) (m_len : mg "len" = none) (m_tuple : mg "tuple" = none) : HasG P w K mg base 9 "_law_right" ["_law_box"] spRight f fd := by
  refine ⟨FnG.of F sc_law_right (fun vs H Q E h => ?_) (fun cdv A outer s H vs Q E gd hr h => ?_), g, F.kp, b⟩
  · obtain ⟨p, rfl, _⟩ := h
    rfl
  · obtain ⟨p, rfl, hb, q⟩ := h
    have hu : (A.deeper (envOfC "_law_right" (defScope s_law_right) s.heap.objs.size f cdv)).units + 70 < cLine := by
      have := hr.un
      omega
    refine ⟨_, PSs.nox (pss_cons (ps_for PassesOwn.never rfl (pi_range1 (by rfl) m_range (pa_cons pe_int pa_nil)) (pg_name (i := 1) sc_law_right.nd rfl (Or.inl rfl))
        (pss_cons (ps_set (i := 2) sc_law_right.nd rfl (.inl rfl) (pe_call h_law_row.G (hr.mono (by decide)) (by rfl) h_law_row.g h_law_row.kp h_law_row.b .nil pass0 (pa_cons (pv 0) (pa_cons (pe_ifExp (pt_cmpR op_eq (pv 1) pe_int (nomark _)) pe_int pe_int) pa_nil))))
      (pss_cons (ps_set (i := 3) sc_law_right.nd rfl (.inl rfl) (pe_callB call_len_seq (by rfl) m_len PySem.boot_len (pa_cons (pv 2) pa_nil)))
      (pss_cons (ps_set (i := 4) sc_law_right.nd rfl (.inl rfl) (pe_tupleOfF (by rfl) m_tuple (pe_call h_law_strewn.G (hr.mono (by decide)) (by rfl) h_law_strewn.g h_law_strewn.kp h_law_strewn.b .nil pass0 (pa_cons (pv 0) (pa_cons (pe_listRg rfl (by rfl) m_list (prg_1 (by rfl) m_range (pv 3))) pa_nil)))))
      (pss_cons (ps_set (i := 5) sc_law_right.nd rfl (.inl rfl) (pe_lst (pa_cons (pv 4) (pa_cons (pe_callTy call_list_of (by rfl) m_list (by decide +kernel) (pa_cons (pv 4) pa_nil)) (pa_cons (pe_tupF pa_nil) (pa_cons pe_non (pa_cons pe_bl (pa_cons pe_int (pa_cons (pe_tupF (pa_cons pe_int pa_nil)) (pa_cons (pe_tupF (pa_cons pe_bl pa_nil)) (pa_cons (pe_tupF (pa_cons pe_int (pa_cons pe_bl pa_nil))) (pa_cons (pe_tupF (pa_cons pe_int (pa_cons pe_int pa_nil))) (pa_cons (pe_tupF (pa_cons pe_int (pa_cons pe_int pa_nil))) (pa_cons (pe_tupF (pa_cons pe_int (pa_cons pe_int pa_nil))) (pa_cons pe_str (pa_cons (pe_lst (pa_cons pe_int pa_nil)) pa_nil))))))))))))))))
      (pss_cons (ps_set (i := 5) sc_law_right.nd rfl (.inl rfl) (pe_op op_cat (pv 5) (pe_lst (pa_cons (pe_tupRgF rfl (by rfl) m_tuple (prg_1 (by rfl) m_range (pv 3))) (pa_cons (pe_tupRgF rfl (by rfl) m_tuple (prg_2 (by rfl) m_range pe_int (pe_op op_add (pv 3) pe_int))) (pa_cons (pe_op op_catF (pv 4) (pe_tupF (pa_cons (pv 3) pa_nil))) (pa_cons (pe_slice sl_tupF (pv 4) (po_some pe_int) po_none) (pa_cons (pe_tupF (pa_cons (pv 4) pa_nil)) pa_nil))))))))
      (pss_cons (ps_for PassesOwn.never rfl (pi_range1 (by rfl) m_range (pa_cons pe_int pa_nil)) (pg_name (i := 6) sc_law_right.nd rfl (Or.inl rfl))
        (pss_cons (ps_set (i := 7) sc_law_right.nd rfl (.inl rfl) (pe_call h_law_bent.G (hr.mono (by decide)) (by rfl) h_law_bent.g h_law_bent.kp h_law_bent.b .nil pass0 (pa_cons (pv 0) (pa_cons (pv 4) pa_nil))))
      (pss_one (ps_expr (pe_bm PySem.F.plainAttrs_list PySem.F.slot_list_append PySem.F.type_list_append mt_append (pv 5) (pa_cons (pe_ifExp (pt_cmpR op_eq (pe_call h_law_take.G (hr.mono (by decide)) (by rfl) h_law_take.g h_law_take.kp h_law_take.b .nil pass0 (pa_cons (pv 0) (pa_cons pe_int pa_nil))) pe_int (nomark _)) (pe_call h_law_bent.G (hr.mono (by decide)) (by rfl) h_law_bent.g h_law_bent.kp h_law_bent.b .nil pass0 (pa_cons (pv 0) (pa_cons (pv 7) pa_nil))) (pv 7)) pa_nil))))))
      (pss_one (ps_for PassesOwn.never rfl (pi_list (pv 5)) (pg_name (i := 8) sc_law_right.nd rfl (Or.inl rfl))
        (pss_cons (ps_par (i := 9) (j := 10) (by rfl) sc_law_right.nd rfl rfl (by decide) rfl rfl (pa_cons (pe_callB (call_reprD gd hu) (by rfl) m_repr (by decide +kernel) (pa_cons (pe_lst (pa_cons (pv 2) (pa_cons (pv 8) pa_nil))) pa_nil)) (pa_cons (pe_call h_law_is_order.G (hr.mono (by decide)) (by rfl) h_law_is_order.g h_law_is_order.kp h_law_is_order.b .nil pass0 (pa_cons (pv 3) (pa_cons (pv 8) pa_nil))) pa_nil)) (by rfl))
      (pss_cons (ps_if (pt_not (pt_val (pe_call h_law_same.G (hr.mono (by decide)) (by rfl) h_law_same.g h_law_same.kp h_law_same.b .nil pass0 (pa_cons (pe_lst (pa_cons (pe_call h_is_order.G (hr.mono (by decide)) (by rfl) h_is_order.g h_is_order.kp h_is_order.b .nil pass0 (pa_cons (pv 2) (pa_cons (pv 8) pa_nil))) (pa_cons (pe_callN0 h_is_order.G (hr.mono (by decide)) (by rfl) h_is_order.g h_is_order.kp kb_is_order pass0 (pk_cons (pv 8) (pk_cons (pv 2) pk_nil))) pa_nil))) (pa_cons (pe_lst (pa_cons (pv 10) (pa_cons (pv 10) pa_nil))) pa_nil))))) (pss_one (ps_ret pe_bl)) pss_nil)
      (pss_one (ps_if (pt_cmpR op_ne (pe_callB (call_reprD gd hu) (by rfl) m_repr (by decide +kernel) (pa_cons (pe_lst (pa_cons (pv 2) (pa_cons (pv 8) pa_nil))) pa_nil)) (pv 9) (nomark _)) (pss_one (ps_ret pe_bl)) pss_nil)))))))))))))
      (pss_one (ps_ret pe_bl))), ?_⟩
    have hP0 : ∀ {H' : Hp} {m : Nat}, Bx H' p m → ∀ a, a = p → ∃ o, H' a = some o := fun {H' m} b' a ha => by
      obtain ⟨o, ho⟩ := b'.lst
      rw [ha]
      exact ⟨_, ho⟩
    refine q_forR1 (n := 4) (ea_cons ev_c ea_nil) ⟨by decide, by decide⟩ (fun i σ' H' => ∃ (y1 y2 y3 y4 y5 y6 y7 y8 y9 y10 : Option V), σ' = [some (.ref p), y1, y2, y3, y4, y5, y6, y7, y8, y9, y10] ∧ ExB p H H' ∧ Bx H' p (2000 * i)) (fun H1 e1 => ⟨none, none, none, none, none, none, none, none, none, none, rfl, .of e1, hb.ex e1⟩) (fun i σ' H1 hi hW => ?_) (fun σ' H1 hW => ?_)
    · obtain ⟨y1, y2, y3, y4, y5, y6, y7, y8, y9, y10, rfl, x1, b1⟩ := hW
      have hlim : 2000 * i + 2000 < Lim := lim_ok (by omega)
      refine ⟨.ref p, rfl, (ev_ifB (b := decide (i = 0)) (v := .int (((if i = 0 then 24 else 9 : Nat) : Nat) : Int)) (et_is (et_test (ev_op (ev_var rfl) ev_c (rv_eq rfl))) (decide_eq_decide.mpr ⟨fun h => by injection h with h; omega, fun h => by rw [h]; rfl⟩)) (fun z => by rw [if_pos (of_decide_eq_true z)]; exact ev_c) (fun z => by rw [if_neg (of_decide_eq_false z)]; exact ev_c)) H1 (Ex.refl H1) _ fun H2 e2 => ⟨p, (if i = 0 then 24 else 9), 2000 * i, rfl, by split <;> decide, by split <;> decide, b1.ex e2, by omega, fun v H3 rs x3 b3 hv r0 rm tm => ?_⟩⟩
      have low : ∀ b ∈ rs, Low b := fun b hb => (tm b hb).low
      have r24 : rs.length ≤ 24 := by
        refine Nat.le_trans rm ?_
        split <;> decide
      have x13 : ExB p H1 H3 := (ExB.of e2).trans x3
      refine g_at [some (.ref p), some (.int (i : Int)), some v, y3, y4, y5, y6, y7, y8, y9, y10] rfl ?_
      refine q_asg (v := .int (rs.length : Int)) (ev_lenR (K := K) (ev_var rfl) hv) fun H4 e4 => ?_
      refine s_at [some (.ref p), some (.int (i : Int)), some v, some (.int (rs.length : Int)), y4, y5, y6, y7, y8, y9, y10] rfl ?_
      have hv4 := hv.ex e4
      have b4 := b3.ex e4
      refine ⟨.ref p, rfl, (el_listRg (ev_var rfl) (by omega)) H4 (Ex.refl H4) _ fun la H5 hla e5 g5 => ⟨p, la, List.range rs.length, 2000 * i + 100, rfl, by rw [g5, rg0, natsV_rg]; rfl, (b4.ne hla).symm, by rw [List.length_range]; omega, b4.ex e5, by omega, fun q1 l' H6 hq1 x6 b6 g6 pm => ⟨q1, natsV l', rfl, sq_of g6, fun t o po ht => ?_⟩⟩⟩
      have n7 := Ex.new (o := .frz o (.tup (natsV l'))) ht
      have fr0 : FrzT (upd H6 t (.frz o (.tup (natsV l')))) t (natsV l') := ⟨o, po, upd_same⟩
      have x46 : ExB p H4 (upd H6 t (.frz o (.tup (natsV l')))) := ((ExB.of e5).trans x6).trans (.of n7)
      have b7 := b6.ex n7
      have hv7 := hv4.exB x46 b4
      have x07 : ExB p H (upd H6 t (.frz o (.tup (natsV l')))) := ((x1.trans x13).trans (.of e4)).trans x46
      have ll : l'.length = rs.length := by rw [pm.length_eq, List.length_range]
      generalize upd H6 t (.frz o (.tup (natsV l'))) = H7 at fr0 b7 hv7 x07
      refine g_at [some (.ref p), some (.int (i : Int)), some v, some (.int (rs.length : Int)), some (.ref t), y5, y6, y7, y8, y9, y10] rfl ?_
      have lb : ∀ x ∈ l'.map (fun (x : Nat) => (x : Int)), x.natAbs ≤ 10 ^ 30 + 0 := fun x hx => by
        obtain ⟨j, hj, rfl⟩ := List.mem_map.mp hx
        have := List.mem_range.mp (pm.mem_iff.mp hj)
        show ((j : Int)).natAbs ≤ 10 ^ 30 + 0
        omega
      have hdO : Da (· = p) K 0 H7 1 (.ref t) (natsD l') := da_tup (by rw [← natsV_rg]; exact fr0) (das_ints lb)
      have wO : wtD (natsD l') = 10 + 52 * rs.length := by
        show 10 + wtDs _ = _
        rw [wts_ints, List.length_map, ll]
      have sqO : SqT K H7 t (natsV l') := fr0.sq
      have nlen : (natsV l').length = rs.length := by rw [natsV_rg, List.length_map, List.length_map, ll]
      have i0 : ∀ {σ : L2.St} {H' : Hp} {k : Nat}, EvDa (· = p) K 0 k (tC (.int 0)) σ H' (.int 0) := fun {σ H' k} => ed_at ev_c ⟨rfl, Nat.zero_le _⟩
      have i1 : ∀ {σ : L2.St} {H' : Hp} {k : Nat}, EvDa (· = p) K 0 k (tC (.int 1)) σ H' (.int 1) := fun {σ H' k} => ed_at ev_c ⟨rfl, by show 1 ≤ 10 ^ 30 + 0; omega⟩
      have ib : ∀ {σ : L2.St} {H' : Hp} {k : Nat} {b : Bool}, EvDa (· = p) K 0 k (tC (.bl b)) σ H' (.bool b) := fun {σ H' k b} => ed_at ev_c rfl
      have eO : ∀ {σ : L2.St} {H' : Hp}, Ex H7 H' → σ[4]? = some (some (.ref t)) → EvDa (· = p) K 0 1 (tVar 4) σ H' (natsD l') := fun {σ H'} e h => ed_val (ev_var h) (hdO.ex e)
      have eL : EvDa (· = p) K 0 1 (tCB (rListS K) (tCons (tVar 4) tNil)) [some (.ref p), some (.int (i : Int)), some v, some (.int (rs.length : Int)), some (.ref t), y5, y6, y7, y8, y9, y10] H7 (.list ((l'.map fun (x : Nat) => (x : Int)).map PyData.int)) := fun H8 e8 Q8 q8 => ⟨.ref t, rfl, t, natsV l', rfl, .inr (ex_t e8 sqO), fun a ha => q8 _ _ (Ex.new ha) (da_lst (fun z => by
        obtain ⟨o', ho'⟩ := b7.lst
        rw [z] at ha
        exact ne_of_none (e8 _ _ ho') ha rfl) (by rw [upd_same, natsV_rg]) (das_ints lb))⟩
      have one : ∀ {σ : L2.St} {ta : TE} {a : PyData}, EvDa (· = p) K 0 0 ta σ H7 a → EvDa (· = p) K 0 1 (tTupF (tCons ta tNil)) σ H7 (.tuple [a]) := fun {σ ta a} h1 => ed_tup (k := 0) (as_cons h1 as_nil) (by show 1 ≤ 10000; decide)
      have two : ∀ {σ : L2.St} {ta tb : TE} {a b : PyData}, EvDa (· = p) K 0 0 ta σ H7 a → EvDa (· = p) K 0 0 tb σ H7 b → EvDa (· = p) K 0 1 (tTupF (tCons ta (tCons tb tNil))) σ H7 (.tuple [a, b]) := fun {σ ta tb a b} h1 h2 => ed_tup (k := 0) (as_cons h1 (as_cons h2 as_nil)) (by show 2 ≤ 10000; decide)
      refine q_asgIs (P := (· = p)) (K := K) (n := 14) (is_cons (ei_of (eO (Ex.refl H7) rfl) (by decide) (by decide) (by omega)) (is_cons (ei_of eL (by decide) (by decide) (by show 10 + wtDs _ ≤ 8000; rw [wts_ints, List.length_map]; omega)) (is_cons (ei_of (ed_tup (k := 1) (c := 0) as_nil (Nat.zero_le _)) (by decide) (by decide) (by decide)) (is_cons (ei_of (c := 0) (k := 0) (d := .none) (ed_at (v := .non) ev_c True.intro) (by decide) (by decide) (by decide)) (is_cons (ei_of (k := 0) ib (by decide) (by decide) (by decide : wtD (.bool true) ≤ 8000)) (is_cons (ei_of (k := 0) i0 (by decide) (by decide) (by decide)) (is_cons (ei_of (one i0) (by decide) (by decide) (by decide)) (is_cons (ei_of (one ib) (by decide) (by decide) (by decide : wtD (.tuple [.bool false]) ≤ 8000)) (is_cons (ei_of (two i0 ib) (by decide) (by decide) (by decide : wtD (.tuple [.int 0, .bool true]) ≤ 8000)) (is_cons (ei_of (two i0 i1) (by decide) (by decide) (by decide)) (is_cons (ei_of (two i1 i0) (by decide) (by decide) (by decide)) (is_cons (ei_of (two i0 i0) (by decide) (by decide) (by decide)) (is_cons (ei_of (c := 0) (k := 0) (d := .str "0") (ed_at (v := .str "0") ev_c ⟨rfl, by decide +kernel, by decide +kernel⟩) (by decide) (by decide) (by decide)) (is_cons (ei_of (ed_lst (k := 0) (hP0 b7) (as_cons i0 as_nil) (by show 1 ≤ 10000; decide)) (by decide) (by decide) (by decide)) is_nil)))))))))))))) (by decide) fun T0 u0 H8 hT0 e8 g8 l8 it8 => ?_
      refine s_at [some (.ref p), some (.int (i : Int)), some v, some (.int (rs.length : Int)), some (.ref t), some (.ref T0), y6, y7, y8, y9, y10] rfl ?_
      have sqO8 := ex_t e8 sqO
      have b8 := b7.ex e8
      have rg8 : ∀ {σ : L2.St}, σ[3]? = some (some (.int (rs.length : Int))) → EvDa (· = p) K 0 1 (tTupRgF (tRg1 (tVar 3))) σ H8 (.tuple ((rgI rs.length).map PyData.int)) := fun {σ} h H9 e9 Q9 q9 => ⟨.int (rs.length : Int), h, (rs.length : Int), rfl, .of_le (by omega) (by omega) (by omega) (by omega), fun a o po ha => q9 _ _ (Ex.new ha) (da_tup ⟨o, po, by rw [upd_same, rg0]⟩ (das_ints fun x hx => by
        obtain ⟨j, hj, rfl⟩ := List.mem_map.mp hx
        have := List.mem_range.mp hj
        show ((j : Int)).natAbs ≤ 10 ^ 30 + 0
        omega))⟩
      have rg9 : ∀ {σ : L2.St}, σ[3]? = some (some (.int (rs.length : Int))) → EvDa (· = p) K 0 1 (tTupRgF (tRg2 (tC (.int 1)) (tOp (rI0 fun i j => .int (i + j)) (tVar 3) (tC (.int 1))))) σ H8 (.tuple (((List.range rs.length).map fun (i : Nat) => (1 : Int) + (i : Int)).map PyData.int)) := fun {σ} h H9 e9 Q9 q9 => ⟨.int (rs.length : Int), h, (rs.length : Int), 1, rfl, rfl, 1, (rs.length : Int) + 1, rfl, rfl, .of_le (by omega) (by omega) (by omega) (by omega), fun a o po ha => q9 _ _ (Ex.new ha) (da_tup ⟨o, po, by rw [upd_same, rg1]⟩ (das_ints fun x hx => by
        obtain ⟨j, hj, rfl⟩ := List.mem_map.mp hx
        have := List.mem_range.mp hj
        show ((1 : Int) + (j : Int)).natAbs ≤ 10 ^ 30 + 0
        omega))⟩
      have cat8 : ∀ {σ : L2.St}, σ[3]? = some (some (.int (rs.length : Int))) → σ[4]? = some (some (.ref t)) → EvDa (· = p) K 0 1 (tOp (rCatF K) (tVar 4) (tTupF (tCons (tVar 3) tNil))) σ H8 (.tuple ((l'.map fun (x : Nat) => (x : Int)).map PyData.int ++ [.int (rs.length : Int)])) := fun {σ} h3 h4 H9 e9 Q9 q9 => ⟨.ref t, h4, .int (rs.length : Int), h3, by show 1 ≤ sizeLine; decide, fun a o po ha => ⟨t, a, natsV l', [.int (rs.length : Int)], rfl, rfl, ex_t (e9.trans (Ex.new ha)) sqO8, FrzT.sq ⟨o, po, upd_same⟩, fun z => by rw [z] at nlen; simp at nlen; omega, by simp, sz_of (by rw [nlen]; show _ + 1 ≤ 100000; omega), fun a2 o2 po2 ha2 => q9 _ _ ((Ex.new ha).trans (Ex.new ha2)) (da_tup ⟨o2, po2, upd_same⟩ (by
        rw [natsV_rg]
        exact (das_ints lb).app (DaS.cons (da_atom ⟨rfl, by show ((rs.length : Int)).natAbs ≤ 10 ^ 30 + 0; omega⟩) DaS.nil)))⟩⟩
      have sl8 : ∀ {σ : L2.St}, σ[4]? = some (some (.ref t)) → EvDa (· = p) K 0 1 (tSl (rSlF K) (tVar 4) (tPart (tC (.int 1))) tNoPart) σ H8 (.tuple (((l'.map fun (x : Nat) => (x : Int)).map PyData.int).drop 1)) := fun {σ} h4 H9 e9 Q9 q9 => ⟨.ref t, h4, 1, rfl, t, natsV l', rfl, ex_t e9 sqO8, fun z => by
        have := cut_all (lo := some 1) (hi := none) z
        rw [show (some (1 : Int)) = some ((1 : Nat) : Int) from rfl, cut_from] at this
        have := congrArg List.length this
        rw [List.length_drop, nlen] at this
        omega, fun a o po ha => q9 _ _ (Ex.new ha) (da_tup ⟨o, po, by rw [upd_same, show (some (1 : Int)) = some ((1 : Nat) : Int) from rfl, cut_from, natsV_rg]⟩ ((das_ints lb).drop 1))⟩
      have wints : wtDs ((l'.map fun (x : Nat) => (x : Int)).map PyData.int) = 52 * rs.length := by rw [wts_ints, List.length_map, ll]
      refine q_catIs (P := (· = p)) (K := K) (n := 5) (T := T0) (us := u0) (ev_var rfl) g8 it8 (is_cons (ei_of (rg8 rfl) (by decide) (by decide) (by show 10 + wtDs _ ≤ 8000; rw [wts_ints, rgI_len]; omega)) (is_cons (ei_of (rg9 rfl) (by decide) (by decide) (by show 10 + wtDs _ ≤ 8000; rw [wts_ints, List.length_map, List.length_range]; omega)) (is_cons (ei_of (cat8 rfl rfl) (by decide) (by decide) (by show 10 + wtDs _ ≤ 8000; rw [wtDs_app, wints]; show 10 + (_ + 52) ≤ 8000; omega)) (is_cons (ei_of (sl8 rfl) (by decide) (by decide) ?_) (is_cons (ei_of (ed_tup (k := 1) (as_cons (eO e8 rfl) as_nil) (by show 1 ≤ 10000; decide)) (by decide) (by decide) (by show 10 + (wtD (natsD l') + 2 + 0) ≤ 8000; omega)) is_nil))))) (by rw [l8]; decide) fun a u9 H9 ha e9 g9 l9 it9 => ?_
      · have w1 := wtDs_app (((l'.map fun (x : Nat) => (x : Int)).map PyData.int).take 1) (((l'.map fun (x : Nat) => (x : Int)).map PyData.int).drop 1)
        rw [List.take_append_drop, wints] at w1
        show 10 + wtDs _ ≤ 8000
        omega
      have l19 : (u0 ++ u9).length = 19 := by
        rw [List.length_append, l8, l9]
      generalize u0 ++ u9 = u5 at g9 it9 l19
      refine s_at [some (.ref p), some (.int (i : Int)), some v, some (.int (rs.length : Int)), some (.ref t), some (.ref a), y6, y7, y8, y9, y10] rfl ?_
      have e79 := e8.trans e9
      have nap : a ≠ p := (b8.ne ha).symm
      have x08 : ExB p H H8 := x07.trans (.of e8)
      have haH : H a = none := x08.back ha nap
      have hPs : ∀ {H' : Hp} {m : Nat} {ws : List V}, Bx H' p m → H' a = some (.lst ws) → ∀ z, (z = p ∨ z = a) → ∃ o, H' z = some o := fun {H' m ws} b' g' z hz => by
        rcases hz with rfl | rfl
        · obtain ⟨o, ho⟩ := b'.lst
          exact ⟨_, ho⟩
        · exact ⟨_, g'⟩
      refine q_forR1 (n := 12) (ea_cons ev_c ea_nil) ⟨by decide, by decide⟩ (fun j σ' H' => ∃ (ws : List V) (z6 z7 : Option V), σ' = [some (.ref p), some (.int (i : Int)), some v, some (.int (rs.length : Int)), some (.ref t), some (.ref a), z6, z7, y8, y9, y10] ∧ ExB p H H' ∧ Bx H' p (2000 * i + 130 + 70 * j) ∧ H' a = some (.lst ws) ∧ ws.length = 19 + j ∧ Da (fun z => z = p ∨ z = a) K 0 H' 1 (.ref t) (natsD l') ∧ RowAt K H' v rs ∧ ∀ x ∈ ws, ItA (fun z => z = p ∨ z = a) K H' x) (fun H6 e6 => ⟨u5, y6, y7, rfl, x08.trans (.of (e9.trans e6)), b8.ex (e9.trans e6) |>.le (by omega), e6 _ _ g9, l19, (((hdO.ex e8).add ha).ex e9).ex e6, (hv7.ex e79).ex e6, fun x hx => (it9 x hx).ex e6⟩) (fun j σ' H6 hj hW => ?_) (fun σ' H6 hW => ?_)
      · obtain ⟨ws, z6, z7, rfl, x6, b6, g6, l6, hr6, hv6, it6⟩ := hW
        obtain ⟨bl6, hbl6⟩ := b6.lst
        have hj : j < 12 := by omega
        refine ⟨.ref p, rfl, .ref t, rfl, .inl ⟨(fun z => z = p ∨ z = a), p, .ref t, natsD l', 0, 2000 * i + 130 + 70 * j, rfl, .inl rfl, hPs b6 g6, hr6.to (by decide), by omega, by decide, b6, (by show 2000 * i + 130 + 70 * j + 15 < Lim; omega), fun y d' H7 x7 b7 hd7 w7 => ?_⟩⟩
        have b7 : Bx H7 p (2000 * i + 130 + 70 * j + 15) := b7
        refine g_at [some (.ref p), some (.int (i : Int)), some v, some (.int (rs.length : Int)), some (.ref t), some (.ref a), some (.int (j : Int)), some y, y8, y9, y10] rfl ?_
        have g7 : H7 a = some (.lst ws) := x7 _ _ nap g6
        obtain ⟨bl7, hbl7⟩ := b7.lst
        have w7' : wtD d' ≤ 3200 := by omega
        refine ⟨.ref a, rfl, .inl ⟨rfl, ws, sq_of g7⟩, draw0 rfl (by decide) (by decide) b7 (by omega) fun cc H8 x8 b8 => ?_⟩
        have x68 := x7.trans x8
        have g8 : H8 a = some (.lst ws) := x8 _ _ nap g7
        have app : ∀ (H9 : Hp) (z : V) (σ2 : L2.St), σ2 = [some (.ref p), some (.int (i : Int)), some v, some (.int (rs.length : Int)), some (.ref t), some (.ref a), some (.int (j : Int)), some y, y8, y9, y10] → ExB p H6 H9 → Bx H9 p (2000 * i + 130 + 70 * (j + 1)) → ItA (fun z => z = p ∨ z = a) K H9 z → ∃ (ws' : List V) (z6 z7 : Option V), σ2 = [some (.ref p), some (.int (i : Int)), some v, some (.int (rs.length : Int)), some (.ref t), some (.ref a), z6, z7, y8, y9, y10] ∧ ExB p H (upd H9 a (.lst (ws ++ [z]))) ∧ Bx (upd H9 a (.lst (ws ++ [z]))) p (2000 * i + 130 + 70 * (j + 1)) ∧ (upd H9 a (.lst (ws ++ [z]))) a = some (.lst ws') ∧ ws'.length = 19 + (j + 1) ∧ Da (fun z => z = p ∨ z = a) K 0 (upd H9 a (.lst (ws ++ [z]))) 1 (.ref t) (natsD l') ∧ RowAt K (upd H9 a (.lst (ws ++ [z]))) v rs ∧ ∀ x ∈ ws', ItA (fun z => z = p ∨ z = a) K (upd H9 a (.lst (ws ++ [z]))) x := fun H9 z σ2 hσ x9 b9 iz => by
          have g9 : H9 a = some (.lst ws) := x9 _ _ nap g6
          have xu : ExB a H9 (upd H9 a (.lst (ws ++ [z]))) := (ExB.refl _ _).upd
          refine ⟨ws ++ [z], _, _, hσ, (x6.trans x9).mut haH, b9.mut nap.symm, upd_same, by rw [List.length_append, l6]; rfl, (hr6.exB (p := p) (.inl rfl) x9 hbl6).exB (p := a) (.inr rfl) xu g9, (hv6.exL x9 hbl6).exL xu g9, fun x hx => ?_⟩
          rcases List.mem_append.mp hx with hx | hx
          · exact ((it6 x hx).exB (p := p) (.inl rfl) x9 hbl6).exB (p := a) (.inr rfl) xu g9
          · cases List.mem_singleton.mp hx
            exact iz.exB (p := a) (.inr rfl) xu g9
        cases cc with
        | true =>
          refine ite_t ⟨.ref p, rfl, y, rfl, .inr ⟨(fun z => z = p ∨ z = a), p, y, d', 1, 2000 * i + 130 + 70 * j + 15 + 1, rfl, .inl rfl, hPs b8 g8, (hd7.exB (p := p) (.inl rfl) x8 hbl7).to (by decide), by omega, by decide, b8, (by show 2000 * i + 130 + 70 * j + 15 + 1 + 25 < Lim; omega), fun y2 d2 H9 x9 b9 hd9 w9 => ?_⟩⟩
          have b9 : Bx H9 p (2000 * i + 130 + 70 * j + 15 + 1 + 25) := b9
          refine ⟨a, ws, y2, rfl, rfl, x9 _ _ nap g8, sz_lt (by omega), ?_⟩
          exact app H9 y2 _ rfl (x68.trans x9) (b9.le (by omega)) ⟨d2, hd9, by omega⟩
        | false =>
          refine ite_f ⟨y, rfl, a, ws, y, rfl, rfl, g8, sz_lt (by omega), ?_⟩
          exact app H8 y _ rfl x68 (b8.le (by omega)) ⟨d', ((hd7.exB (p := p) (.inl rfl) x8 hbl7).to (by decide)).cc (by decide), by omega⟩
      · obtain ⟨ws, z6, z7, rfl, x6, b6, g6, l6, hr6, hv6, it6⟩ := hW
        have b6 : Bx H6 p (2000 * i + 130 + 70 * 12) := b6
        refine s_forLn (K := K) (a := a) (xs := ws) (ev_var rfl) (sq_of g6) (fun k σ' H' => ∃ (z8 z9 z10 : Option V), σ' = [some (.ref p), some (.int (i : Int)), some v, some (.int (rs.length : Int)), some (.ref t), some (.ref a), z6, z7, z8, z9, z10] ∧ Ex H6 H') (fun H4 e4 => ⟨_, _, _, rfl, e4⟩) (fun k σ' H4 _ hW => ?_) (fun k x σ' H4 hx hW => ?_) (fun σ' H4 hW => ?_)
        · obtain ⟨z8, z9, z10, rfl, e4⟩ := hW
          exact sq_of (e4 _ _ g6)
        · obtain ⟨z8, z9, z10, rfl, e4⟩ := hW
          obtain ⟨d, hd, hw⟩ := (it6 x (List.mem_of_getElem? hx)).ex e4
          have hvx := hv6.ex e4
          refine s_at [some (.ref p), some (.int (i : Int)), some v, some (.int (rs.length : Int)), some (.ref t), some (.ref a), z6, z7, some x, z9, z10] rfl ?_
          refine q_par2 ?_
          refine (ev_reprRI (ev_var rfl) hvx low (by omega) (ev_var rfl) hd (by decide) (by decide) (by omega)) H4 (Ex.refl H4) _ fun H5 e5 => ?_
          refine (ev_call (ea_cons (ev_var rfl) (ea_cons (ev_var rfl) ea_nil)) (sv_ordL (by omega) (hd.ex e5) (by omega))) H5 (Ex.refl H5) _ fun H6 e6 => ⟨_, _, rfl, ?_⟩
          have e46 := e5.trans e6
          have hd6 := hd.ex e46
          have hv6' := hvx.ex e46
          generalize htx : (PyData.list [rowD rs, d]).shown = tx
          refine s_at [some (.ref p), some (.int (i : Int)), some v, some (.int (rs.length : Int)), some (.ref t), some (.ref a), z6, z7, some x, some (.str tx), some (.bl (isOrderD rs.length d))] rfl ?_
          refine q_when (b := false) (et_is (et_not (et_B (ev_same2 (xs := [.bl (isOrderD rs.length d), .bl (isOrderD rs.length d)]) (el_bothO (ev_var rfl) (ev_var rfl) hv6' (by omega) hd6 (by omega)) (el_lst (ea_cons (ev_var rfl) (ea_cons (ev_var rfl) ea_nil)) (by show 2 ≤ 100000; decide)) (fun x hx => ?_) (by show 2 ≤ 1000; decide)))) rfl) (fun z => by cases z) fun _ H7 e7 => ?_
          · simp only [List.mem_cons, List.not_mem_nil, or_false, or_self] at hx
            rw [hx]
            exact True.intro
          · have er := ev_reprRI (K := K) (σ := [some (.ref p), some (.int (i : Int)), some v, some (.int (rs.length : Int)), some (.ref t), some (.ref a), z6, z7, some x, some (.str tx), some (.bl (isOrderD rs.length d))]) (ta := tVar 2) (tb := tVar 8) (ev_var rfl) (hv6'.ex e7) low (by omega) (ev_var rfl) (hd6.ex e7) (by decide) (by decide) (by omega)
            rw [htx] at er
            refine s_when (b := false) (et_is (et_test (ev_op er (ev_var rfl) (rv_ne rfl))) (by rw [decide_eq_true rfl]; rfl)) (fun z => by cases z) fun _ H8 e8 => ⟨_, _, _, rfl, e4.trans (e46.trans (e7.trans e8))⟩
        · obtain ⟨z8, z9, z10, rfl, e4⟩ := hW
          exact ⟨_, _, _, _, _, _, _, _, _, _, rfl, x6.trans (.of e4), (b6.ex e4).le (by omega)⟩
    · obtain ⟨y1, y2, y3, y4, y5, y6, y7, y8, y9, y10, rfl, x1, b1⟩ := hW
      exact s_ret ev_c fun H5 e5 => q H5 (x1.trans (.of e5))
theorem okG_law {f f1 f2 f3 : Addr} {fd fd1 fd2 fd3 : FuncData} (F : FnP K "law" s_law f fd) (h_law_folded : Has P w K mg base 1 "_law_folded" ["_law_script", "_law_many"] (spFolded K) f1 fd1) (h_law_dip : Has P w K mg base 1 "_law_dip" ["_law_script", "_law_k"] (spDip K) f2 fd2) (h_law_right : HasG P w K mg base 9 "_law_right" ["_law_box"] spRight f3 fd3)
    (m_range : mg "range" = none) (m_len : mg "len" = none) (m_all : mg "all" = none) (m_max : mg "max" = none) : FnG P w K mg base 10 f fd ["_law_script"] (spLaw K) := by
  refine FnG.of F sc_law (fun vs H Q E h => ?_) (fun cdv A outer s H vs Q E gd hr h => ?_)
  · obtain ⟨a, ns, rfl, _⟩ := h
    rfl
  · obtain ⟨a, ns, rfl, hS, hlen, q⟩ := h
    refine ⟨_, PSs.nox (pss_cons (ps_set (i := 1) sc_law.nd rfl (.inr rfl) (pe_call h_law_folded.G (hr.mono (by decide)) (by rfl) h_law_folded.g h_law_folded.kp h_law_folded.b .nil pass0 (pa_cons (pv 0) (pa_cons pe_int pa_nil))))
      (pss_one (ps_ret (pe_callB (cr_all rfl) (by rfl) m_all (by decide +kernel) (pa_cons (pe_lc (own := [("_law_k", 2)]) (g := gName 2) (by rfl) sc_law.nd (pi_range1 (by rfl) m_range (pa_cons (pe_callB (call_max2 rfl) (by rfl) m_max (by decide +kernel) (pa_cons pe_int (pa_cons (pe_callB call_len_seq (by rfl) m_len PySem.boot_len (pa_cons (pv 1) pa_nil)) pa_nil))) pa_nil)) (blkOk_by (own := [("_law_k", 2)]) (N := ["_law_script", "_law_cells", "_law_k"]) (sc := defScope s_law) (by decide +kernel)) (fun _ _ _ _ _ => (pg_name (i := 2) sc_law.nd rfl (Or.inl rfl))) (fun _ _ _ _ _ => pts_nil) (fun _ _ _ _ _ => (pe_callG h_law_right.G gd (hr.mono (by decide)) (by rfl) h_law_right.g h_law_right.kp h_law_right.b (pa_cons (pe_call h_law_dip.G (hr.mono (by decide)) (by rfl) h_law_dip.g h_law_dip.kp h_law_dip.b .nil pass0 (pa_cons (pv 1) (pa_cons (pv 2) pa_nil))) pa_nil)))) pa_nil))))), ?_⟩
    refine q_call ⟨.ref a, rfl, a, 2, ns, rfl, by decide, by decide, hS, hlen, fun l H1 ms hl e1 hm h1 => ?_⟩
    have hn : 0 ≤ (if ((ms.map V.int).length : Int) > 1 then ((ms.map V.int).length : Int) else 1) ∧ (if ((ms.map V.int).length : Int) > 1 then ((ms.map V.int).length : Int) else 1) ≤ 10 := by
      rw [List.length_map]
      split <;> omega
    refine s_ret (D := { nx := fun _ H' => Q .non H', rt := Q }) (ev_allT (n := (if ((ms.map V.int).length : Int) > 1 then ((ms.map V.int).length : Int) else 1).toNat) ?_) fun H2 e2 => q H2
    have key := el_lcR1 (σ := [some (.ref a), some (.ref l), none]) (H := H1) (ta := tCons (tCB rMax2 (tCons (tC (.int 1)) (tCons (tCB (rLenS K) (tCons (tVar 1) tNil)) tNil))) tNil) (j := 2) (vs := [2]) (t := tYes) (te := tCall spRight [] E0 (tCons (tCall (spDip K) [] E0 (tCons (tVar 1) (tCons (tVar 2) tNil))) tNil)) (fun _ => true) (fun _ => .bl true) (ea_cons (ev_max2 ev_c (ev_len (ev_var rfl) (sq_of h1))) ea_nil) ⟨hn.1, by omega⟩ (fun x => rfl) (fun i H1 e1 hi => et_yes) (fun i H3 e3 hi _ => ?_)
    · have e0 : given (if ((ms.map V.int).length : Int) > 1 then ((ms.map V.int).length : Int) else 1).toNat (fun _ => true) (fun _ => V.bl true) = (List.replicate (if ((ms.map V.int).length : Int) > 1 then ((ms.map V.int).length : Int) else 1).toNat true).map V.bl := by
        rw [given_all _ (fun _ => true)]
        congr 1
        rw [List.eq_replicate_iff]
        refine ⟨by rw [List.length_map, List.length_range], fun b hb => ?_⟩
        obtain ⟨_, _, rfl⟩ := List.mem_map.mp hb
        rfl
      rw [e0] at key
      exact key
    · intro H4 e4 Q4 q4
      refine ⟨.ref l, rfl, .int (i : Int), rfl, l, i, ms, rfl, sq_of ((e3.trans e4) _ _ h1), by omega, fun b H5 hb e5 hx => ?_⟩
      refine ⟨b, rfl, hx, fun H6 x6 => q4 H6 fun c o hc => x6 c o (ne_of_none hc hb) (e5 c o hc)⟩
end
end K05
set_option maxHeartbeats 0
namespace K05
open PySem PySem.Spec PyProof.Rows L2 Evl HH RZ
def d_is_number : He.DefD := ⟨("is_number", none), "is_number", "is_number", defArgs s_is_number, defBody s_is_number, defScope s_is_number, [], []⟩
def d_is_order : He.DefD := ⟨("is_order", none), "is_order", "is_order", defArgs s_is_order, defBody s_is_order, defScope s_is_order, [], []⟩
def d_law_dip : He.DefD := ⟨("_law_dip", none), "_law_dip", "_law_dip", defArgs s_law_dip, defBody s_law_dip, defScope s_law_dip, [], []⟩
def d_law_take : He.DefD := ⟨("_law_take", none), "_law_take", "_law_take", defArgs s_law_take, defBody s_law_take, defScope s_law_take, [], []⟩
def d_law_folded : He.DefD := ⟨("_law_folded", none), "_law_folded", "_law_folded", defArgs s_law_folded, defBody s_law_folded, defScope s_law_folded, [], []⟩
def d_law_strewn : He.DefD := ⟨("_law_strewn", none), "_law_strewn", "_law_strewn", defArgs s_law_strewn, defBody s_law_strewn, defScope s_law_strewn, [], []⟩
def d_law_same : He.DefD := ⟨("_law_same", none), "_law_same", "_law_same", defArgs s_law_same, defBody s_law_same, defScope s_law_same, [], []⟩
def d_law_of : He.DefD := ⟨("_law_of", none), "_law_of", "_law_of", defArgs s_law_of, defBody s_law_of, defScope s_law_of, [], []⟩
def d_law_row : He.DefD := ⟨("_law_row", none), "_law_row", "_law_row", defArgs s_law_row, defBody s_law_row, defScope s_law_row, [], []⟩
def d_law_bent : He.DefD := ⟨("_law_bent", none), "_law_bent", "_law_bent", defArgs s_law_bent, defBody s_law_bent, defScope s_law_bent, [], []⟩
def d_law_is_order : He.DefD := ⟨("_law_is_order", none), "_law_is_order", "_law_is_order", defArgs s_law_is_order, defBody s_law_is_order, defScope s_law_is_order, [], []⟩
def d_law_right : He.DefD := ⟨("_law_right", none), "_law_right", "_law_right", defArgs s_law_right, defBody s_law_right, defScope s_law_right, [], []⟩
def d_law : He.DefD := ⟨("law", none), "law", "law", defArgs s_law, defBody s_law, defScope s_law, [], []⟩
def fnsL : List He.DefD := [d_is_number, d_is_order, d_law_dip, d_law_take, d_law_folded, d_law_strewn, d_law_same, d_law_of, d_law_row, d_law_bent, d_law_is_order, d_law_right, d_law]
def faL : List He.Fa := [.glo "is_number", .glo "is_order", .glo "_law_dip", .glo "_law_take", .glo "_law_folded", .glo "_law_strewn", .glo "_law_same", .glo "_law_of", .glo "_law_row", .glo "_law_bent", .glo "_law_is_order", .glo "_law_right", .glo "law", .free "abs", .free "all", .free "bool", .free "enumerate", .free "int", .free "isinstance", .free "len", .free "list", .free "max", .free "range", .free "repr", .free "sorted", .free "str", .free "tuple", .free "zip"]
abbrev R : PySem.W.OpenRow := PySem.W.OpenLaw.row PySem.Challenge.rw_hayherd_k05_orders_or_not
abbrev hk : PySem.W.Hook := He.hookD 4 faL fnsL
def ob (s : PySem.W.SharedT) : He.AlD := He.obsDG 4 faL fnsL (HandSHeadRun.getT s)
theorem ob_eq (s : PySem.W.SharedT) : ob s = hk.obs s.abs := He.obsDG_eq (HandSHeadRun.getT_eq s)
def loose : List PySem.Str := ["is_number", "is_order", "_law_dip", "_law_take", "_law_folded", "_law_strewn", "_law_same", "_law_of", "_law_row", "_law_bent", "_law_is_order", "_law_right"]
theorem run (w : World) : HandSHeadRun.RunEq R (PySem.W.view R.prog [14]) hk ob 3000 loose w := by
  intro os
  kernel_rfl
end K05
set_option maxHeartbeats 0
namespace K05
open PySem PySem.Spec PyProof.Rows L2 Evl HH RZ
theorem facts {P : Program} {w : World} {K : PySem.W.Frag} {h : Heap} {mg : Str → Option Value} {f : Addr} (X : K.In h) (G : h.Ns mainGlobals mg) (hfa : mg ("law" : Str) = some (.ref f)) (c : He.SaysD faL fnsL K) :
    ∃ fd : FuncData, (∀ (s : Shared) (v : Value), BindsTo s fd ⟨[v], []⟩ [("_law_script", v)]) ∧ ∀ base : Heap, K.In base → base.Ns mainGlobals mg → FnG P w K mg base 10 f fd ["_law_script"] (spLaw K) := by
  obtain ⟨fd_is_number, F_is_number⟩ := c.def_ 0 (d := d_is_number) rfl
  have g_is_number := He.glo_ok X G (c.fact 0 (f := .glo "is_number") rfl)
  have b_is_number : Binds K fd_is_number ["thing"] [] := F_is_number.bindsN fun _ _ _ _ _ _ us hl => match us, hl with | [_], _ => rfl
  obtain ⟨fd_is_order, F_is_order⟩ := c.def_ 1 (d := d_is_order) rfl
  have g_is_order := He.glo_ok X G (c.fact 1 (f := .glo "is_order") rfl)
  have b_is_order : Binds K fd_is_order ["row", "thing"] [] := F_is_order.bindsN fun _ _ _ _ _ _ us hl => match us, hl with | [_, _], _ => rfl
  obtain ⟨fd_law_dip, F_law_dip⟩ := c.def_ 2 (d := d_law_dip) rfl
  have g_law_dip := He.glo_ok X G (c.fact 2 (f := .glo "_law_dip") rfl)
  have b_law_dip : Binds K fd_law_dip ["_law_script", "_law_k"] [] := F_law_dip.bindsN fun _ _ _ _ _ _ us hl => match us, hl with | [_, _], _ => rfl
  obtain ⟨fd_law_take, F_law_take⟩ := c.def_ 3 (d := d_law_take) rfl
  have g_law_take := He.glo_ok X G (c.fact 3 (f := .glo "_law_take") rfl)
  have b_law_take : Binds K fd_law_take ["_law_box", "_law_many"] [] := F_law_take.bindsN fun _ _ _ _ _ _ us hl => match us, hl with | [_, _], _ => rfl
  obtain ⟨fd_law_folded, F_law_folded⟩ := c.def_ 4 (d := d_law_folded) rfl
  have g_law_folded := He.glo_ok X G (c.fact 4 (f := .glo "_law_folded") rfl)
  have b_law_folded : Binds K fd_law_folded ["_law_script", "_law_many"] [] := F_law_folded.bindsN fun _ _ _ _ _ _ us hl => match us, hl with | [_, _], _ => rfl
  obtain ⟨fd_law_strewn, F_law_strewn⟩ := c.def_ 5 (d := d_law_strewn) rfl
  have g_law_strewn := He.glo_ok X G (c.fact 5 (f := .glo "_law_strewn") rfl)
  have b_law_strewn : Binds K fd_law_strewn ["_law_box", "_law_pool"] [] := F_law_strewn.bindsN fun _ _ _ _ _ _ us hl => match us, hl with | [_, _], _ => rfl
  obtain ⟨fd_law_same, F_law_same⟩ := c.def_ 6 (d := d_law_same) rfl
  have g_law_same := He.glo_ok X G (c.fact 6 (f := .glo "_law_same") rfl)
  have b_law_same : Binds K fd_law_same ["_law_found", "_law_due"] [] := F_law_same.bindsN fun _ _ _ _ _ _ us hl => match us, hl with | [_, _], _ => rfl
  obtain ⟨fd_law_of, F_law_of⟩ := c.def_ 7 (d := d_law_of) rfl
  have g_law_of := He.glo_ok X G (c.fact 7 (f := .glo "_law_of") rfl)
  have b_law_of : Binds K fd_law_of ["_law_box", "_law_pool"] [] := F_law_of.bindsN fun _ _ _ _ _ _ us hl => match us, hl with | [_, _], _ => rfl
  obtain ⟨fd_law_row, F_law_row⟩ := c.def_ 8 (d := d_law_row) rfl
  have g_law_row := He.glo_ok X G (c.fact 8 (f := .glo "_law_row") rfl)
  have b_law_row : Binds K fd_law_row ["_law_box", "_law_most"] [] := F_law_row.bindsN fun _ _ _ _ _ _ us hl => match us, hl with | [_, _], _ => rfl
  obtain ⟨fd_law_bent, F_law_bent⟩ := c.def_ 9 (d := d_law_bent) rfl
  have g_law_bent := He.glo_ok X G (c.fact 9 (f := .glo "_law_bent") rfl)
  have b_law_bent : Binds K fd_law_bent ["_law_box", "_law_item"] [] := F_law_bent.bindsN fun _ _ _ _ _ _ us hl => match us, hl with | [_, _], _ => rfl
  obtain ⟨fd_law_is_order, F_law_is_order⟩ := c.def_ 10 (d := d_law_is_order) rfl
  have g_law_is_order := He.glo_ok X G (c.fact 10 (f := .glo "_law_is_order") rfl)
  have b_law_is_order : Binds K fd_law_is_order ["_law_many", "_law_item"] [] := F_law_is_order.bindsN fun _ _ _ _ _ _ us hl => match us, hl with | [_, _], _ => rfl
  obtain ⟨fd_law_right, F_law_right⟩ := c.def_ 11 (d := d_law_right) rfl
  have g_law_right := He.glo_ok X G (c.fact 11 (f := .glo "_law_right") rfl)
  have b_law_right : Binds K fd_law_right ["_law_box"] [] := F_law_right.bindsN fun _ _ _ _ _ _ us hl => match us, hl with | [_], _ => rfl
  obtain ⟨fd_law, F_law⟩ := c.def_ 12 (d := d_law) rfl
  have m_abs := He.free_ok X G (c.fact 13 (f := .free "abs") rfl)
  have m_all := He.free_ok X G (c.fact 14 (f := .free "all") rfl)
  have m_bool := He.free_ok X G (c.fact 15 (f := .free "bool") rfl)
  have m_enumerate := He.free_ok X G (c.fact 16 (f := .free "enumerate") rfl)
  have m_int := He.free_ok X G (c.fact 17 (f := .free "int") rfl)
  have m_isinstance := He.free_ok X G (c.fact 18 (f := .free "isinstance") rfl)
  have m_len := He.free_ok X G (c.fact 19 (f := .free "len") rfl)
  have m_list := He.free_ok X G (c.fact 20 (f := .free "list") rfl)
  have m_max := He.free_ok X G (c.fact 21 (f := .free "max") rfl)
  have m_range := He.free_ok X G (c.fact 22 (f := .free "range") rfl)
  have m_repr := He.free_ok X G (c.fact 23 (f := .free "repr") rfl)
  have m_sorted := He.free_ok X G (c.fact 24 (f := .free "sorted") rfl)
  have m_str := He.free_ok X G (c.fact 25 (f := .free "str") rfl)
  have m_tuple := He.free_ok X G (c.fact 26 (f := .free "tuple") rfl)
  have m_zip := He.free_ok X G (c.fact 27 (f := .free "zip") rfl)
  have e := hfa.symm.trans (He.glo_ok X G (c.fact 12 (f := .glo "law") rfl))
  cases e
  have bl := FunD.bindsA (ps := ["_law_script"]) F_law fun _ _ _ _ _ _ us hl => match us, hl with | [_], _ => rfl
  refine ⟨fd_law, fun s v => bl s [v] rfl, fun base _ _ => ?_⟩
  have kb_is_order : KBn K fd_is_order ["row", "thing"] 0 ["thing", "row"] (fun _ ws => ws.reverse) (fun _ zs => zs.reverse) := kb_of F_is_order (fun ws => ws.reverse) (vals_rev) fun _ _ _ _ _ _ ws hl => match ws, hl with | [_, _], _ => rfl
  have h_is_number := ok_is_number (P := P) (w := w) (base := base) F_is_number g_is_number b_is_number m_isinstance m_int m_bool
  have h_is_order := ok_is_order (P := P) (w := w) (base := base) F_is_order g_is_order b_is_order h_is_number m_isinstance m_tuple m_len m_all m_range m_list m_sorted
  have h_law_dip := ok_law_dip (P := P) (w := w) (base := base) F_law_dip g_law_dip b_law_dip m_len m_abs m_int
  have h_law_take := ok_law_take (P := P) (w := w) (base := base) F_law_take g_law_take b_law_take
  have h_law_folded := ok_law_folded (P := P) (w := w) (base := base) F_law_folded g_law_folded b_law_folded m_list m_enumerate
  have h_law_strewn := ok_law_strewn (P := P) (w := w) (base := base) F_law_strewn g_law_strewn b_law_strewn h_law_take m_len
  have h_law_same := ok_law_same (P := P) (w := w) (base := base) F_law_same g_law_same b_law_same m_isinstance m_list m_tuple m_bool m_str m_int m_len m_all m_zip 2
  have h_law_of := ok_law_of (P := P) (w := w) (base := base) F_law_of g_law_of b_law_of h_law_take m_len
  have h_law_row := ok_law_row (P := P) (w := w) (base := base) F_law_row g_law_row b_law_row h_law_take h_law_of m_range m_tuple
  have h_law_bent := ok_law_bent (P := P) (w := w) (base := base) F_law_bent g_law_bent b_law_bent h_law_take h_law_of m_isinstance m_list m_tuple m_int m_bool m_len
  have h_law_is_order := ok_law_is_order (P := P) (w := w) (base := base) F_law_is_order g_law_is_order b_law_is_order m_isinstance m_tuple m_len m_all m_range m_int m_bool
  have h_law_right := ok_law_right (P := P) (w := w) (base := base) F_law_right g_law_right b_law_right h_law_row h_law_strewn h_law_take h_law_bent h_law_is_order h_is_order kb_is_order h_law_same m_range m_repr m_list m_len m_tuple
  exact okG_law F_law h_law_folded h_law_dip h_law_right m_range m_len m_all m_max
end K05
open PySem PySem.W PySem.Calls PyProof.Rows
theorem PySem.Challenge.cw_hayherd_k05_orders_or_not_holds : PySem.Challenge.rw_hayherd_k05_orders_or_not.Holds := by
  w_on; o_law
  refine HandSHeadRun.head_any (r := OpenLaw.row PySem.Challenge.rw_hayherd_k05_orders_or_not) (q := view (OpenLaw.row PySem.Challenge.rw_hayherd_k05_orders_or_not).prog [14]) (H := K05.hk) (ob := K05.ob) (M := 3000) (loose := K05.loose) (d := HandSHeadRun.topDef (OpenLaw.row PySem.Challenge.rw_hayherd_k05_orders_or_not).prog 14) (kwd := []) K05.ob_eq
    (by kernel_rfl) (fun s => by kernel_rfl) K05.run (by kernel_rfl) (by kernel_rfl) (by kernel_rfl) (by rfl) (by first | assumption | decide +kernel) (by decide +kernel) ⟨rfl, rfl, rfl, rfl, rfl, by decide +kernel⟩ ?hw ?hc
  case hw => w_witness2
  case hc =>
    refine HH.walk_ofG (l := PySem.Challenge.rw_hayherd_k05_orders_or_not) (n := 63) (k := 10) (x := "_law_script") rfl (by decide) (by kernel_rfl) ⟨rfl, by decide, by decide⟩ ?F
    intro w mg fa h Y G hmg0
    obtain ⟨K, KX, c⟩ := Y
    have hmg : mg ("law" : PySem.Str) = some (.ref fa) := by
      have e : (HandSHeadRun.topDef (OpenLaw.row PySem.Challenge.rw_hayherd_k05_orders_or_not).prog 14).name = ("law" : PySem.Str) := by kernel_rfl
      rw [← e]
      exact hmg0
    obtain ⟨fd, hb, hF⟩ := K05.facts (P := (PySem.Challenge.rw_hayherd_k05_orders_or_not).prog) (w := w) KX G hmg c
    exact ⟨K, fd, HH.spLaw K, KX, hb, fun H a ns hl _ hS => ⟨a, ns, rfl, hS, hl, fun _ => rfl⟩, hF⟩
