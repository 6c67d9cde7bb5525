import PyProof.Rows.All
import Wide.All
import OpenK.AllK
import Wide.FinOn
import KE.KStateDown
import HandS.ForMost
import HandS.Conv
import HandS.Flow
import HandS.Style
import HandS.TupAny
import HandS.TupMul
import HandS.IsInst
import HandS.Wide
import HandS.Defaults
import HandS.Zip
import HandS.Evl
import HandS.More
import HandS.WordsExc
import HandS.Head2
import HandS.HeadEnd
import HandS.HeadHook2
import HandS.Walk
import HandS.ExcInit
import HandS.HeadHook4
import KE.KExcIs
import KE.KTryMore
import KE.KExcInit
import PyProof.ReprRoads
import PyProof.ReprText
import PyProof.ReprLen
import HandS.RevRange
import HandS.SortInts
import KE.GoesMore
import HandS.DictComp
import HandS.Dict
import HandS.SortRule
import HandS.Deep
import HandS.Strs
import KE.GoesZip
import KE.GoesEnum
import HandS.DictTup
import KE.KDictZip
import HandS.SetFor
import HandS.Small
import KE.KSortTupAny
import HandS.CallLocal
import KE.DataMinMax
import PyProof.SumAnyB
import HandS.Iter
import HandS.TupLe
import PySem.Challenge.RW_hayherd_k67_whole_known_by_their_make
set_option Elab.async false
set_option linter.all false
set_option maxRecDepth 100000
set_option maxHeartbeats 4000000
namespace HH
open PySem PySem.Spec PyProof.Rows L2
section
variable {X : Cx}
def CPowW (i j : Int) : Prop := 0 ≤ j ∧ (Builtin.Int.intBits i : Int) * j ≤ 2 ^ 27
theorem op_powW : OpR X (binaryOp .Pow) (rI CPowW fun i j => .int (i ^ j.toNat)) := opI fun _ _ _ _ _ _ _ hc q => pow_int hc.1 hc.2 q
def gSl (to ta tc : TE) : TG := fun v σ H Q => to σ H fun o H1 => ta σ H1 fun a H2 => tc σ H2 fun c H3 => ∃ (l b : Addr) (xs ys : List V) (i j : Int), o = .ref l ∧ v = .ref b ∧ a = .int i ∧ c = .int j ∧ H3 l = some (.lst xs) ∧ H3 b = some (.lst ys) ∧ l ≠ b ∧ 0 ≤ i ∧ i ≤ j ∧ j ≤ xs.length ∧ xs.length + ys.length ≤ sizeLine ∧ Q σ (upd H3 l (.lst (xs.take i.toNat ++ ys ++ xs.drop j.toNat)))
theorem pg_sl {o a c : Expr} {to ta tc : TE} {p2 pos : Pos} (ho : PE X o to) (hl : PE X a ta) (hu : PE X c tc) : PG X (.Subscript o (.Slice (some a) (some c) none p2) pos) (gSl to ta tc) := by
  refine ⟨fun pins s σ H v u Q I0 r0 h0 => ?_⟩
  rw [arm_assign_Subscript]
  refine wpAny_bind (wpAny_holding (thn (ho.run pins s σ H _ I0 h0) fun ov s1 ⟨x, H1, I1, r1, q1⟩ => ?_))
  refine wpAny_bind (wpAny_holding (wpAny_Slice (thn (hl.run pins s1 σ H1 _ I1 q1) fun lv s2 ⟨y, H2, I2, r2, q2⟩ => ?_)))
  refine thn (hu.run pins s2 σ H2 _ I2 q2) fun uv s3 ⟨z, H3, I3, r3, q3⟩ => ?_
  obtain ⟨l, b, xs, ys, i, j, rfl, rfl, rfl, rfl, hH, hB, hne, h0, hij, hj, hz, q⟩ := q3
  cases r1
  cases r0
  refine wpAny_of_eq (evalPart_none _) ?_
  have I5 : Inv X pins σ H3 { s3 with heap := s3.heap.push { cls := .type "slice", data := .fields #[lv, uv, .none] } } := I3.kept (t' := s3.toks) fun b ob q => Heap.get?_push_of_some _ q
  refine wpAny_bind (wpAny_standAt (wpAny_bind (wpAny_holding (set_slice I5 hH hB hne (Heap.IsSliceOf.new _ _ _ _) r2 r3 h0 hij hj hz fun s' I6 => ?_))))
  exact wpAny_release ⟨σ, _, I6, q⟩
theorem ix_tupK {K : PySem.W.Frag} (h : X.K = K := by rfl) : IxR X (rIxT K) := by
  subst h
  exact ix_tup
theorem ix_listK {K : PySem.W.Frag} (h : X.K = K := by rfl) : IxR X (rIxL K) := by
  subst h
  exact ix_list
end
end HH
set_option maxHeartbeats 4000000
namespace HH
open PySem PySem.Spec PyProof.Rows L2 Evl
abbrev FnP (K : PySem.W.Frag) (x : Str) (st : Stmt) (f : Addr) (fd : FuncData) : Prop := FunD K x x (defArgs st) (defBody st) (defScope st) [] [] f fd
structure Has (P : Program) (w : World) (K : PySem.W.Frag) (mg : Str → Option Value) (base : Heap) (k : Nat) (x : Str) (ps : List Str) (sp : Sp) (f : Addr) (fd : FuncData) : Prop where
  G : FnOk P w K mg base CX0 k f fd ps sp
  g : mg x = some (.ref f)
  kp : PySem.W.keepIn K (.ref f) = true
  b : Binds K fd ps []
def ExB (b : Addr) (H H' : Hp) : Prop := ∀ a o, a ≠ b → H a = some o → H' a = some o
theorem ExB.refl (b : Addr) (H : Hp) : ExB b H H := fun _ _ _ h => h
theorem ExB.trans {b : Addr} {H H1 H2 : Hp} (x : ExB b H H1) (y : ExB b H1 H2) : ExB b H H2 := fun a o n h => y a o n (x a o n h)
theorem ExB.of {b : Addr} {H H' : Hp} (e : Ex H H') : ExB b H H' := fun a o _ h => e a o h
theorem ExB.new {b p : Addr} {H H' : Hp} {o : HO} (e : ExB b H H') (h : H' p = none) : ExB b H (upd H' p o) := e.trans (.of (Ex.new h))
theorem ExB.upd {b : Addr} {H H' : Hp} {o : HO} (e : ExB b H H') : ExB b H (upd H' b o) := fun a u n h => by
  rw [upd_ne n]
  exact e a u n h
theorem ExB.mut {b p : Addr} {H H' : Hp} {o : HO} (e : ExB b H H') (h : H p = none) : ExB b H (L2.upd H' p o) := fun a u n ha => by
  rw [upd_ne (ne_of_none ha h)]
  exact e a u n ha
theorem ExB.rd {b a : Addr} {H H' : Hp} {u : HO} (e : ExB b H H') (n : a ≠ b) (h : Rd H a u) : Rd H' a u := by
  rcases h with h | ⟨o, h⟩
  · exact .inl (e a _ n h)
  · exact .inr ⟨o, e a _ n h⟩
theorem ExB.l {K : PySem.W.Frag} {b a : Addr} {H H' : Hp} {xs : List V} (e : ExB b H H') (n : a ≠ b) (h : SqL K H a xs) : SqL K H' a xs := by
  rcases h with h | h
  · exact .inl (e.rd n h)
  · exact .inr h
theorem ExB.t {K : PySem.W.Frag} {b a : Addr} {H H' : Hp} {xs ys : List V} (e : ExB b H H') (hb : H b = some (.lst ys)) (h : SqT K H a xs) : SqT K H' a xs := by
  rcases h with h | h
  · refine .inl (e.rd (fun z => ?_) h)
    subst z
    rcases h with h | ⟨o, h⟩
    · rw [hb] at h
      cases h
    · rw [hb] at h
      cases h
  · exact .inr h
def Lim : Nat := 2 ^ 4000
def Bx (H : Hp) (p : Addr) (n : Nat) : Prop := ∃ a b c : Int, H p = some (.lst [.int a, .int b, .int c]) ∧ 0 ≤ a ∧ 0 ≤ b ∧ b < 2 ^ 62 ∧ 0 ≤ c ∧ c ≤ n
theorem Bx.ex {H H' : Hp} {p : Addr} {n : Nat} (h : Bx H p n) (e : Ex H H') : Bx H' p n := by
  obtain ⟨a, b, c, h1, h2⟩ := h
  exact ⟨a, b, c, e _ _ h1, h2⟩
theorem Bx.mut {H : Hp} {p q : Addr} {n : Nat} {o : HO} (h : Bx H p n) (e : p ≠ q) : Bx (upd H q o) p n := by
  obtain ⟨a, b, c, h1, h2⟩ := h
  exact ⟨a, b, c, by rw [upd_ne e]; exact h1, h2⟩
theorem Bx.le {H : Hp} {p : Addr} {n m : Nat} (h : Bx H p n) (e : n ≤ m) : Bx H p m := by
  obtain ⟨a, b, c, h1, h2, h3, h4, h5, h6⟩ := h
  exact ⟨a, b, c, h1, h2, h3, h4, h5, by omega⟩
theorem Bx.lst {H : Hp} {p : Addr} {n : Nat} (h : Bx H p n) : ∃ xs, H p = some (.lst xs) := by
  obtain ⟨a, b, c, h1, _⟩ := h
  exact ⟨_, h1⟩
theorem Bx.ne {H : Hp} {p q : Addr} {n : Nat} (h : Bx H p n) (hq : H q = none) : p ≠ q := by
  obtain ⟨xs, h⟩ := h.lst
  exact ne_of_none h hq
abbrev Row := List (Int × Int)
def BeastAt (K : PySem.W.Frag) (H : Hp) (v : V) (b : Int × Int) : Prop := ∃ p, v = .ref p ∧ SqT K H p [.int b.1, .int b.2]
def Beasts (K : PySem.W.Frag) (H : Hp) (vs : List V) (rs : Row) : Prop := vs.length = rs.length ∧ ∀ (i : Nat) (b : Int × Int), rs[i]? = some b → ∃ u, vs[i]? = some u ∧ BeastAt K H u b
def RowAt (K : PySem.W.Frag) (H : Hp) (v : V) (rs : Row) : Prop := ∃ a vs, v = .ref a ∧ SqT K H a vs ∧ Beasts K H vs rs
theorem BeastAt.ex {K : PySem.W.Frag} {H H' : Hp} {v : V} {b : Int × Int} (e : Ex H H') (h : BeastAt K H v b) : BeastAt K H' v b := by
  obtain ⟨p, h1, h2⟩ := h
  exact ⟨p, h1, ex_t e h2⟩
theorem BeastAt.exB {K : PySem.W.Frag} {H H' : Hp} {v : V} {b : Int × Int} {q : Addr} {ys : List V} (e : ExB q H H') (hq : H q = some (.lst ys)) (h : BeastAt K H v b) : BeastAt K H' v b := by
  obtain ⟨p, h1, h2⟩ := h
  exact ⟨p, h1, e.t hq h2⟩
theorem Beasts.ex {K : PySem.W.Frag} {H H' : Hp} {vs : List V} {rs : Row} (e : Ex H H') (h : Beasts K H vs rs) : Beasts K H' vs rs := ⟨h.1, fun i b hi => by
  obtain ⟨u, h1, h2⟩ := h.2 i b hi
  exact ⟨u, h1, h2.ex e⟩⟩
theorem Beasts.exB {K : PySem.W.Frag} {H H' : Hp} {vs : List V} {rs : Row} {q : Addr} {ys : List V} (e : ExB q H H') (hq : H q = some (.lst ys)) (h : Beasts K H vs rs) : Beasts K H' vs rs := ⟨h.1, fun i b hi => by
  obtain ⟨u, h1, h2⟩ := h.2 i b hi
  exact ⟨u, h1, h2.exB e hq⟩⟩
theorem RowAt.ex {K : PySem.W.Frag} {H H' : Hp} {v : V} {rs : Row} (h : RowAt K H v rs) (e : Ex H H') : RowAt K H' v rs := by
  obtain ⟨a, vs, h1, h2, h3⟩ := h
  exact ⟨a, vs, h1, ex_t e h2, h3.ex e⟩
theorem RowAt.exB {K : PySem.W.Frag} {H H' : Hp} {v : V} {rs : Row} {q : Addr} {n : Nat} (h : RowAt K H v rs) (e : ExB q H H') (hb : Bx H q n) : RowAt K H' v rs := by
  obtain ⟨a, vs, h1, h2, h3⟩ := h
  obtain ⟨ys, hy⟩ := hb.lst
  exact ⟨a, vs, h1, e.t hy h2, h3.exB e hy⟩
theorem Beasts.nil {K : PySem.W.Frag} {H : Hp} : Beasts K H [] [] := ⟨rfl, fun i b h => by simp at h⟩
theorem Beasts.app {K : PySem.W.Frag} {H : Hp} {vs us : List V} {rs ss : Row} (h : Beasts K H vs rs) (g : Beasts K H us ss) : Beasts K H (vs ++ us) (rs ++ ss) := by
  refine ⟨by rw [List.length_append, List.length_append, h.1, g.1], fun i b hi => ?_⟩
  by_cases hl : i < rs.length
  · rw [List.getElem?_append_left hl] at hi
    rw [List.getElem?_append_left (by rw [h.1]; exact hl)]
    exact h.2 i b hi
  · rw [List.getElem?_append_right (by omega)] at hi
    rw [List.getElem?_append_right (by rw [h.1]; omega), h.1]
    exact g.2 _ b hi
theorem Beasts.one {K : PySem.W.Frag} {H : Hp} {v : V} {b : Int × Int} (h : BeastAt K H v b) : Beasts K H [v] [b] := by
  refine ⟨rfl, fun i c hi => ?_⟩
  cases i with
  | zero =>
    cases hi
    exact ⟨v, rfl, h⟩
  | succ i => simp at hi
theorem Beasts.take {K : PySem.W.Frag} {H : Hp} {vs : List V} {rs : Row} (n : Nat) (h : Beasts K H vs rs) : Beasts K H (vs.take n) (rs.take n) := by
  refine ⟨by rw [List.length_take, List.length_take, h.1], fun i b hi => ?_⟩
  rw [List.getElem?_take] at hi ⊢
  by_cases hl : i < n
  · rw [if_pos hl] at hi ⊢
    exact h.2 i b hi
  · rw [if_neg hl] at hi
    cases hi
theorem Beasts.drop {K : PySem.W.Frag} {H : Hp} {vs : List V} {rs : Row} (n : Nat) (h : Beasts K H vs rs) : Beasts K H (vs.drop n) (rs.drop n) := by
  refine ⟨by rw [List.length_drop, List.length_drop, h.1], fun i b hi => ?_⟩
  rw [List.getElem?_drop] at hi ⊢
  exact h.2 _ b hi
theorem cut_to (xs : List V) (j : Nat) : cutV xs none (some (j : Int)) = xs.take j := by
  unfold cutV
  rw [HT.sIx_none, HT.sIx_nat, Nat.sub_zero, List.drop_zero]
  by_cases h : j ≤ xs.length
  · rw [Nat.min_eq_left h]
  · rw [Nat.min_eq_right (by omega), List.take_of_length_le (Nat.le_refl _), List.take_of_length_le (by omega)]
theorem cut_from (xs : List V) (j : Nat) : cutV xs (some (j : Int)) none = xs.drop j := by
  unfold cutV
  rw [HT.sIx_none, HT.sIx_nat]
  by_cases h : j ≤ xs.length
  · rw [Nat.min_eq_left h]
    exact List.take_of_length_le (by rw [List.length_drop]; omega)
  · rw [Nat.min_eq_right (by omega), Nat.sub_self, List.take_zero, List.drop_of_length_le (by omega)]
theorem cut_all {xs : List V} {lo hi : Option Int} (h : HT.sIx xs.length 0 lo = 0 ∧ HT.sIx xs.length xs.length hi = xs.length) : cutV xs lo hi = xs := by
  unfold cutV
  rw [h.1, h.2, Nat.sub_zero, List.drop_zero]
  exact List.take_of_length_le (Nat.le_refl _)
end HH
set_option maxHeartbeats 4000000
namespace HH
open PySem PySem.Spec PyProof.Rows L2 Evl
section
variable {K : PySem.W.Frag} {σ : L2.St} {H H' : Hp} {ta tb te tx : TE} {x y z v : V}
def EvR (K : PySem.W.Frag) (te : TE) (σ : L2.St) (H : Hp) (rs : Row) : Prop := ∀ H1, Ex H H1 → ∀ Q : VK, (∀ v H2, Ex H1 H2 → RowAt K H2 v rs → Q v H2) → te σ H1 Q
def EvB (K : PySem.W.Frag) (te : TE) (σ : L2.St) (H : Hp) (b : Int × Int) : Prop := ∀ H1, Ex H H1 → ∀ Q : VK, (∀ v H2, Ex H1 H2 → BeastAt K H2 v b → Q v H2) → te σ H1 Q
theorem er_val {rs : Row} (h : Ev te σ H v) (hr : RowAt K H v rs) : EvR K te σ H rs := fun H1 e Q q => h H1 e Q fun H2 e2 => q v H2 e2 (hr.ex (e.trans e2))
theorem eb_val {b : Int × Int} (h : Ev te σ H v) (hr : BeastAt K H v b) : EvB K te σ H b := fun H1 e Q q => h H1 e Q fun H2 e2 => q v H2 e2 (hr.ex (e.trans e2))
theorem er_cat {rs ss : Row} (ha : EvR K ta σ H rs) (hb : EvR K tb σ H ss) (hl : rs.length + ss.length ≤ 100000) : EvR K (tOp (rCatA K) ta tb) σ H (rs ++ ss) := fun H1 e Q q =>
  ha H1 e _ fun v H2 e2 hv => hb H2 (e.trans e2) _ fun u H3 e3 hu => by
    obtain ⟨a, vs, rfl, h1, h2⟩ := hv.ex e3
    obtain ⟨b, us, rfl, g1, g2⟩ := hu
    refine ⟨a, b, vs, us, rfl, rfl, h1, g1, by rw [h2.1, g2.1]; exact sz_of hl, fun z => ?_, fun _ z => ?_, fun _ _ p hp => ?_⟩
    · subst z
      have e0 : rs = [] := List.length_eq_zero_iff.mp h2.1.symm
      subst e0
      exact q _ H3 (e2.trans e3) ⟨b, us, rfl, g1, g2⟩
    · subst z
      have e0 : ss = [] := List.length_eq_zero_iff.mp g2.1.symm
      subst e0
      rw [List.append_nil] at q
      exact q _ H3 (e2.trans e3) ⟨a, vs, rfl, h1, h2⟩
    · exact q _ _ ((e2.trans e3).trans (Ex.new hp)) ⟨p, _, rfl, st_of upd_same, (h2.app g2).ex (Ex.new hp)⟩
theorem er_to {rs : Row} {ti : TE} {j : Nat} {i : Int} (h : EvR K te σ H rs) (hi : Ev ti σ H (.int i)) (hj : i = (j : Int)) : EvR K (tSl (rSlA K) te tNoPart (tPart ti)) σ H (rs.take j) := fun H1 e Q q =>
  h H1 e _ fun v H2 e2 hv => hi H2 (e.trans e2) _ fun H3 e3 => by
    obtain ⟨a, vs, rfl, h1, h2⟩ := hv.ex e3
    subst hj
    refine ⟨(j : Int), rfl, a, vs, rfl, h1, fun z => ?_, fun _ p hp => ?_⟩
    · have e0 := cut_all z
      rw [cut_to] at e0
      refine q _ H3 (e2.trans e3) ⟨a, vs, rfl, h1, ?_⟩
      have h3 := h2.take j
      rw [e0] at h3
      exact h3
    · refine q _ _ ((e2.trans e3).trans (Ex.new hp)) ⟨p, _, rfl, st_of upd_same, ?_⟩
      rw [cut_to]
      exact (h2.take j).ex (Ex.new hp)
theorem er_from {rs : Row} {ti : TE} {j : Nat} {i : Int} (h : EvR K te σ H rs) (hi : Ev ti σ H (.int i)) (hj : i = (j : Int)) : EvR K (tSl (rSlA K) te (tPart ti) tNoPart) σ H (rs.drop j) := fun H1 e Q q =>
  h H1 e _ fun v H2 e2 hv => hi H2 (e.trans e2) _ fun H3 e3 => by
    obtain ⟨a, vs, rfl, h1, h2⟩ := hv.ex e3
    subst hj
    refine ⟨(j : Int), rfl, a, vs, rfl, h1, fun z => ?_, fun _ p hp => ?_⟩
    · have e0 := cut_all z
      rw [cut_from] at e0
      refine q _ H3 (e2.trans e3) ⟨a, vs, rfl, h1, ?_⟩
      have h3 := h2.drop j
      rw [e0] at h3
      exact h3
    · refine q _ _ ((e2.trans e3).trans (Ex.new hp)) ⟨p, _, rfl, st_of upd_same, ?_⟩
      rw [cut_from]
      exact (h2.drop j).ex (Ex.new hp)
theorem eb_tup {s t : Int} (h1 : Ev ta σ H (.int s)) (h2 : Ev tb σ H (.int t)) : EvB K (tTup (tCons ta (tCons tb tNil))) σ H (s, t) := fun H1 e Q q =>
  h1 H1 e _ fun H2 e2 => h2 H2 (e.trans e2) _ fun H3 e3 => ⟨by show 2 ≤ sizeLine; decide, fun p hp => q _ _ ((e2.trans e3).trans (Ex.new hp)) ⟨p, rfl, st_of upd_same⟩⟩
theorem er_one {b : Int × Int} (h1 : EvB K ta σ H b) : EvR K (tTup (tCons ta tNil)) σ H [b] := fun H1 e Q q =>
  h1 H1 e _ fun v H2 e2 hv => ⟨by show 1 ≤ sizeLine; decide, fun p hp => q _ _ (e2.trans (Ex.new hp)) ⟨p, _, rfl, st_of upd_same, Beasts.one (hv.ex (Ex.new hp))⟩⟩
theorem er_two {b c : Int × Int} (h1 : EvB K ta σ H b) (h2 : EvB K tb σ H c) : EvR K (tTup (tCons ta (tCons tb tNil))) σ H [b, c] := fun H1 e Q q =>
  h1 H1 e _ fun v H2 e2 hv => h2 H2 (e.trans e2) _ fun u H3 e3 hu => ⟨by show 2 ≤ sizeLine; decide, fun p hp => q _ _ ((e2.trans e3).trans (Ex.new hp)) ⟨p, _, rfl, st_of upd_same, (Beasts.one (hv.ex (e3.trans (Ex.new hp)))).app (Beasts.one (hu.ex (Ex.new hp)))⟩⟩
theorem s_retR {D : Ends} {rs : Row} (h : EvR K te σ H rs) (k : ∀ v H1, Ex H H1 → RowAt K H1 v rs → D.rt v H1) : tRet te D σ H := h H (Ex.refl H) _ fun v H1 e hv => k v H1 e hv
theorem ev_rowAt {a : Addr} {vs : List V} {rs : Row} {ti : TE} {j : Nat} {i : Int} {b : Int × Int} (h : Ev te σ H (.ref a)) (hs : SqT K H a vs) (hb : Beasts K H vs rs) (hi : Ev ti σ H (.int i)) (hj : i = (j : Int)) (hg : rs[j]? = some b) :
    ∃ p, Ev (tOp (rIxT K) te ti) σ H (.ref p) ∧ SqT K H p [.int b.1, .int b.2] := by
  obtain ⟨u, h1, p, rfl, h2⟩ := hb.2 j b hg
  subst hj
  exact ⟨p, ev_op h hi (rv_ixT hs (atI_nat h1)), h2⟩
theorem ev_beast {rs : Row} {ti : TE} {j : Nat} {i : Int} {b : Int × Int} (h : Ev te σ H v) (hr : RowAt K H v rs) (hi : Ev ti σ H (.int i)) (hj : i = (j : Int)) (hg : rs[j]? = some b) : ∃ p, Ev (tOp (rIxT K) te ti) σ H (.ref p) ∧ SqT K H p [.int b.1, .int b.2] := by
  obtain ⟨a, vs, rfl, hs, hb⟩ := hr
  exact ev_rowAt h hs hb hi hj hg
theorem ev_str {rs : Row} {ti : TE} {j : Nat} {i : Int} {b : Int × Int} (h : Ev te σ H v) (hr : RowAt K H v rs) (hi : Ev ti σ H (.int i)) (hj : i = (j : Int)) (hg : rs[j]? = some b) : Ev (tOp (rIxT K) (tOp (rIxT K) te ti) (tC (.int 0))) σ H (.int b.1) := by
  obtain ⟨p, h1, h2⟩ := ev_beast h hr hi hj hg
  exact ev_op h1 ev_c (rv_ixT h2 rfl)
theorem ev_tol {rs : Row} {ti : TE} {j : Nat} {i : Int} {b : Int × Int} (h : Ev te σ H v) (hr : RowAt K H v rs) (hi : Ev ti σ H (.int i)) (hj : i = (j : Int)) (hg : rs[j]? = some b) : Ev (tOp (rIxT K) (tOp (rIxT K) te ti) (tC (.int 1))) σ H (.int b.2) := by
  obtain ⟨p, h1, h2⟩ := ev_beast h hr hi hj hg
  exact ev_op h1 ev_c (rv_ixT h2 rfl)
theorem ev_lenR {rs : Row} (h : Ev te σ H v) (hr : RowAt K H v rs) : Ev (tCB (rLenS K) (tCons te tNil)) σ H (.int (rs.length : Int)) := fun H1 e Q q => by
  obtain ⟨a, vs, rfl, hs, hb⟩ := hr
  refine h H1 e _ fun H2 e2 => ⟨a, vs, rfl, Or.inr (ex_t (e.trans e2) hs), ?_⟩
  rw [hb.1]
  exact q H2 e2
end
def sS (rs : Row) (i : Nat) : Int := (rs[i]?.getD (0, 0)).1
def tS (rs : Row) (i : Nat) : Int := (rs[i]?.getD (0, 0)).2
theorem row_get {rs : Row} {i : Nat} (h : i < rs.length) : rs[i]? = some (sS rs i, tS rs i) := by
  unfold sS tS
  rw [List.getElem?_eq_getElem h] <;> rfl
def letsN (rs : Row) (i : Nat) : Bool := decide (0 < i) && decide (sS rs i - tS rs (i - 1) > sS rs (i - 1))
def passR (rs : Row) (p : Nat) : Row := rs.take (p - 1) ++ [(sS rs p - tS rs (p - 1), tS rs p), (sS rs (p - 1), tS rs (p - 1))] ++ rs.drop (p + 1)
def spCanPass (K : PySem.W.Frag) : Sp := fun vs H Q _ => ∃ (v : V) (rs : Row) (p : Nat), vs = [v, .int (p : Int)] ∧ RowAt K H v rs ∧ p < rs.length ∧ ∀ H', Ex H H' → Q (.bl (letsN rs p)) H'
def passL (rs : Row) : List V := given rs.length (letsN rs) (fun i => .int (i : Int))
def spMay (K : PySem.W.Frag) (g : Row → List V) : Sp := fun vs H Q _ => ∃ (v : V) (rs : Row), vs = [v] ∧ RowAt K H v rs ∧ rs.length ≤ 1000 ∧ RetL (g rs) H Q
def spRowOp (K : PySem.W.Frag) (C : Row → Nat → Prop) (g : Row → Nat → Row) : Sp := fun vs H Q _ => ∃ (v : V) (rs : Row) (p : Nat), vs = [v, .int (p : Int)] ∧ RowAt K H v rs ∧ rs.length ≤ 1000 ∧ C rs p ∧ ∀ v' H', Ex H H' → RowAt K H' v' (g rs p) → Q v' H'
def spPassed (K : PySem.W.Frag) : Sp := spRowOp K (fun rs p => 0 < p ∧ p < rs.length) passR
end HH
set_option maxHeartbeats 4000000
namespace HH
open PySem PySem.Spec PyProof.Rows L2 Evl
section
variable {K : PySem.W.Frag} {σ : L2.St} {H H' : Hp} {ta tb te tx : TE} {x y z v : V} {D : Ends} {tz : TS}
theorem q_asgT2 {i j : Nat} {p : Addr} (h : Ev te σ H (.ref p)) (hp : SqT K H p [x, y]) (k : ∀ H1, Ex H H1 → tz D ((σ.set i (some x)).set j (some y)) H1) : tSeq (tAsg te (gTup K 2 (gCons (gName i) (gCons (gName j) gNil)))) tz D σ H :=
  h H (Ex.refl H) _ fun H1 e => ⟨p, [x, y], rfl, ex_t e hp, rfl, x, [y], rfl, y, [], rfl, rfl, k H1 e⟩
theorem q_asg12 {i j l : Nat} {p : Addr} {u : V} (h : Ev ta σ H u) (h2 : Ev tb σ H (.ref p)) (hp : SqT K H p [x, y]) (k : ∀ H1, Ex H H1 → tz D (((σ.set i (some u)).set j (some x)).set l (some y)) H1) :
    tSeq (tAsg (tTup (tCons ta (tCons tb tNil))) (gTup K 2 (gCons (gName i) (gCons (gTup K 2 (gCons (gName j) (gCons (gName l) gNil))) gNil)))) tz D σ H :=
  h H (Ex.refl H) _ fun H1 e => h2 H1 e _ fun H2 e2 => ⟨by show 2 ≤ sizeLine; decide, fun q hq => ⟨q, _, rfl, st_of upd_same, rfl, u, _, rfl, .ref p, [], rfl, ⟨p, [x, y], rfl, ex_t ((e.trans e2).trans (Ex.new hq)) hp, rfl, x, [y], rfl, y, [], rfl, rfl, rfl, k _ ((e.trans e2).trans (Ex.new hq))⟩⟩⟩
theorem sv_can_pass {rs : Row} {p : Nat} (h : RowAt K H v rs) (hp : p < rs.length) : SpV (spCanPass K) [v, .int (p : Int)] H (.bl (letsN rs p)) := fun H1 e Q q E => ⟨v, rs, p, rfl, h.ex e, hp, q⟩
end
end HH
set_option maxHeartbeats 4000000
namespace HH
open PySem PySem.Spec PyProof.Rows L2 Evl
theorem bits_le {i : Int} {n : Nat} (h : i.natAbs < 2 ^ n) : Builtin.Int.intBits i ≤ n := by
  unfold Builtin.Int.intBits
  split
  · exact Nat.zero_le _
  · rename_i z
    have hz : i.natAbs ≠ 0 := by
      intro e
      apply z
      have : i = 0 := by omega
      rw [this]
      rfl
    have := (Nat.log2_lt hz).mpr h
    omega
theorem pow_ok {i : Int} (h : i.natAbs < 2 ^ 4100) : CPowW i 5 := by
  refine ⟨by decide, ?_⟩
  have h1 := bits_le h
  have h2 : (Builtin.Int.intBits i : Int) ≤ 4100 := by omega
  have h3 : (2 : Int) ^ 27 = 134217728 := by decide
  rw [h3]
  omega
theorem mulW_ok {i j : Int} (h : i.natAbs < 2 ^ 4100) (g : j.natAbs < 2 ^ 4100) : CMulW i j := wide_mul h g (by decide) (by decide) (by decide)
theorem two_split : (2 : Nat) ^ 4100 = 2 ^ 4000 * 2 ^ 100 := by rw [← Nat.pow_add]
theorem big_of {c : Int} (h0 : 0 ≤ c) (h : c ≤ (Lim : Int) + 1) (k b : Int) (hk : 0 ≤ k) (hk2 : k ≤ 40000) (hb : 0 ≤ b) (hb2 : b ≤ 2 ^ 63) : (b + k * c).natAbs < 2 ^ 4100 := by
  have hl : Lim = 2 ^ 4000 := rfl
  have hp : 0 < (2 : Nat) ^ 4000 := Nat.pow_pos (by decide)
  rw [two_split]
  generalize (2 : Nat) ^ 4000 = L at *
  have h2 : c.toNat ≤ L + 1 := by omega
  have h3 : k.toNat * c.toNat ≤ 40000 * (L + 1) := Nat.mul_le_mul (by omega) h2
  have h4 : (b + k * c) = ((b.toNat + k.toNat * c.toNat : Nat) : Int) := by
    rw [Int.natCast_add, Int.natCast_mul, Int.toNat_of_nonneg hb, Int.toNat_of_nonneg hk, Int.toNat_of_nonneg h0]
  rw [h4, Int.natAbs_natCast]
  have h5 : b.toNat ≤ 2 ^ 63 := by omega
  have h6 : (2 : Nat) ^ 100 = 1267650600228229401496703205376 := by decide
  have h7 : (2 : Nat) ^ 63 = 9223372036854775808 := by decide
  rw [h6]
  rw [h7] at h5
  have h8 : L * 1267650600228229401496703205376 ≥ L * 40000 + L * 9223372036854775808 + L * 50000 := by omega
  omega
def spTake : Sp := fun vs H Q _ => ∃ (p : Addr) (m : Int) (n : Nat), vs = [.ref p, .int m] ∧ 0 < m ∧ m < 1073741824 ∧ Bx H p n ∧ n < Lim ∧ ∀ (r : Int) H', 0 ≤ r → r < m → ExB p H H' → Bx H' p (n + 1) → Q (.int r) H'
theorem divW_ok {i m : Int} (h : 0 < m) (g : m < 1073741824) : CDivW i m := wide_div h (show m.natAbs < 2 ^ 30 by
  have : (2 : Nat) ^ 30 = 1073741824 := by decide
  omega) (by decide) (by decide)
theorem fmod_lo {a m : Int} (h : 0 < m) : 0 ≤ a.fmod m := Int.fmod_nonneg_of_pos a h
theorem fmod_hi {a m : Int} (h : 0 < m) : a.fmod m < m := Int.fmod_lt_of_pos a h
end HH
set_option maxHeartbeats 4000000
namespace HH
open PySem PySem.Spec PyProof.Rows L2 Evl RZ
inductive TyN (K : PySem.W.Frag) (H : Hp) : V → String → Prop where
  | non : TyN K H .non "NoneType"
  | bl (b : Bool) : TyN K H (.bl b) "bool"
  | int (i : Int) : TyN K H (.int i) "int"
  | str (s : Str) : TyN K H (.str s) "str"
  | lst {a : Addr} {xs : List V} (e : SqL K H a xs) : TyN K H (.ref a) "list"
  | tup {a : Addr} {xs : List V} (e : SqT K H a xs) : TyN K H (.ref a) "tuple"
theorem TyN.ex {K : PySem.W.Frag} {H H' : Hp} {x : V} {t : String} (h : TyN K H x t) (e : Ex H H') : TyN K H' x t := by
  cases h with
  | non => exact .non
  | bl b => exact .bl b
  | int i => exact .int i
  | str s => exact .str s
  | lst h => exact .lst (ex_l e h)
  | tup h => exact .tup (ex_t e h)
theorem TyN.x {K : PySem.W.Frag} {H : Hp} {x : V} {t : String} (h : TyN K H x t) : TyX K H x (.type t) := by
  cases h with
  | non => exact .base .non
  | bl b => exact .base (.bl b)
  | int i => exact .base (.int i)
  | str s => exact .base (.str s)
  | lst h =>
    rcases h with (h | ⟨o, h⟩) | h
    · exact .base (.lst h)
    · exact .base (.frz h)
    · obtain ⟨o, _, _, h1, h2, _⟩ := h
      exact .kList h1 h2
  | tup h =>
    rcases h with (h | ⟨o, h⟩) | h
    · exact .base (.tup h)
    · exact .fTuple h
    · obtain ⟨o, _, _, h1, h2, _⟩ := h
      exact .kTuple h1 h2
section
variable {K : PySem.W.Frag} {σ : L2.St} {H H' : Hp} {ta tb te tx : TE} {x y z v : V} {D : Ends} {tz : TS}
theorem ev_isi {T C : String} {b : Bool} (h : Ev te σ H x) (ht : TyN K H x T) (k : kitB T C = some b) : Ev (tCB (rIsi K) (tCons te (tCons (tC (.ty C)) tNil))) σ H (.bl b) := fun H1 e Q q =>
  h H1 e _ fun H2 e2 => ⟨x, .ty C, .type T, .type C, b, rfl, .ty C, (ht.ex (e.trans e2)).x, kit_ty k, q H2 e2⟩
theorem ev_isiT {T C C2 : String} {b : Bool} (h : Ev te σ H x) (ht : TyN K H x T) (k : PySem.W.kitAny K (.type T) [.type C, .type C2] = some b) : Ev (tCB (rIsiT K) (tCons te (tCons (tTup (tCons (tC (.ty C)) (tCons (tC (.ty C2)) tNil))) tNil))) σ H (.bl b) := fun H1 e Q q =>
  h H1 e _ fun H2 e2 => ⟨by show 2 ≤ sizeLine; decide, fun p hp => ⟨x, p, [.ty C, .ty C2], .type T, [.type C, .type C2], b, rfl, upd_same, .cons (.ty C) (.cons (.ty C2) .nil), (ht.ex ((e.trans e2).trans (Ex.new hp))).x, k, q _ (e2.trans (Ex.new hp))⟩⟩
theorem rv_isN2 {b : Bool} (h : decide (x = V.non) = b) : RV (fun x y H Q => y = .non ∧ Q (.bl (decide (x = .non))) H) x .non H (.bl b) := fun H1 _ _ q => ⟨rfl, by rw [h]; exact q H1 (Ex.refl H1)⟩
end
theorem walk_zipT {K : PySem.W.Frag} {a b : Addr} {xs ys : List V} {n : Nat} (hn : n = min xs.length ys.length) : Walk (ItzT K a b) n (fun H => SqT K H a xs ∧ SqT K H b ys) (YPair (fun i => xs[i]?) (fun i => ys[i]?)) := by
  subst hn
  refine ⟨fun i _ hi q => ?_, fun _ q => ⟨xs, ys, q.1, q.2, by omega⟩, fun i H v H' _ q y => ?_⟩
  · have g1 : i < xs.length := by omega
    have g2 : i < ys.length := by omega
    exact ⟨xs, ys, xs[i], ys[i], q.1, q.2, by simp [g1], by simp [g2]⟩
  · obtain ⟨T, x, z, h1, h2, h3, h4, h5⟩ := y
    exact ⟨T, x, z, h1, h2, h3, h4 xs q.1, h5 ys q.2⟩
def Flat : V → Prop
  | .int _ => True
  | .bl _ => True
  | .str _ => True
  | .non => True
  | _ => False
def Alike (K : PySem.W.Frag) (H : Hp) : Nat → V → V → Prop
  | 0, _, _ => False
  | d + 1, x, y => (x = y ∧ Flat x) ∨ ∃ (a b : Addr) (xs ys : List V), x = .ref a ∧ y = .ref b ∧ ((SqL K H a xs ∧ SqL K H b ys) ∨ (SqT K H a xs ∧ SqT K H b ys)) ∧ xs.length = ys.length ∧ xs.length ≤ 40000 ∧
    ∀ (i : Nat) (u v : V), xs[i]? = some u → ys[i]? = some v → Alike K H d u v
theorem Alike.ex {K : PySem.W.Frag} {H H' : Hp} (e : Ex H H') : ∀ {d : Nat} {x y : V}, Alike K H d x y → Alike K H' d x y
  | 0, _, _, h => h
  | d + 1, x, y, h => by
    rcases h with h | ⟨a, b, xs, ys, h1, h2, h3, h4, h5, h6⟩
    · exact .inl h
    · refine .inr ⟨a, b, xs, ys, h1, h2, ?_, h4, h5, fun i u v hu hv => Alike.ex e (h6 i u v hu hv)⟩
      rcases h3 with h3 | h3
      · exact .inl ⟨ex_l e h3.1, ex_l e h3.2⟩
      · exact .inr ⟨ex_t e h3.1, ex_t e h3.2⟩
def spSame (K : PySem.W.Frag) (d : Nat) : Sp := fun vs H Q _ => ∃ x y, vs = [x, y] ∧ Alike K H d x y ∧ RetV (.bl true) H Q
theorem has_none {P : Program} {w : World} {K : PySem.W.Frag} {mg : Str → Option Value} {base : Heap} {f : Addr} {fd : FuncData} {ps : List Str} : FnOk P w K mg base CX0 0 f fd ps (spSame K 0) :=
  ⟨fun _ _ _ _ h => by obtain ⟨_, _, _, h, _⟩ := h; exact h.elim, fun _ _ _ _ _ _ _ _ _ _ _ _ _ h => by obtain ⟨_, _, _, h, _⟩ := h; exact h.elim⟩
section
variable {K : PySem.W.Frag} {σ : L2.St} {H H' : Hp}
theorem el_same {d : Nat} {a b : Addr} {xs ys : List V} (hl : xs.length = ys.length) (hz : xs.length ≤ 40000) (h3 : (SqL K H a xs ∧ SqL K H b ys) ∨ (SqT K H a xs ∧ SqT K H b ys)) (h6 : ∀ (i : Nat) (u v : V), xs[i]? = some u → ys[i]? = some v → Alike K H d u v) :
    EvL (tLc (iZipA K (tCons (tVar 0) (tCons (tVar 1) tNil))) (gTup K 2 (gCons (gName 2) (gCons (gName 3) gNil))) tYes (tCall (spSame K d) [] E0 (tCons (tVar 2) (tCons (tVar 3) tNil))) [2, 3]) [some (.ref a), some (.ref b), none, none] H ((List.replicate xs.length true).map V.bl) := fun H0 e Q q => by
  have turn : ∀ (Dl : Addr) (i : Nat) (x : V) (H1 H2 : Hp), H0 Dl = none → i < xs.length → (Ex H0 H1 ∧ H1 Dl = some (.lst ((List.replicate i true).map V.bl))) → YPair (fun i => xs[i]?) (fun i => ys[i]?) i H1 x H2 →
      gTup K 2 (gCons (gName 2) (gCons (gName 3) gNil)) x (wipe [some (.ref a), some (.ref b), none, none] [2, 3]) H2 fun σ2 H3 => wipe σ2 [2, 3] = wipe [some (.ref a), some (.ref b), none, none] [2, 3] ∧ tYes σ2 H3 fun b H4 =>
      if b = true then tCall (spSame K d) [] E0 (tCons (tVar 2) (tCons (tVar 3) tNil)) σ2 H4 fun y H5 => ∃ acc, H5 Dl = some (.lst acc) ∧ acc.length < sizeLine ∧ (Ex H0 (upd H5 Dl (.lst (acc ++ [y]))) ∧ (upd H5 Dl (.lst (acc ++ [y]))) Dl = some (.lst ((List.replicate (i + 1) true).map V.bl))) else (Ex H0 H4 ∧ H4 Dl = some (.lst ((List.replicate (i + 1) true).map V.bl))) := by
    intro Dl i x H1 H2 hD hi p y
    obtain ⟨T, u, v, rfl, nT, rfl, hu, hv⟩ := y
    refine ⟨T, [u, v], rfl, st_of upd_same, rfl, u, [v], rfl, v, [], rfl, rfl, rfl, ?_⟩
    show tCall (spSame K d) [] E0 (tCons (tVar 2) (tCons (tVar 3) tNil)) _ _ _
    have e2 : Ex H0 (upd H1 T (.tup [u, v])) := p.1.trans (Ex.new nT)
    refine ⟨u, rfl, v, rfl, u, v, rfl, (h6 i u v hu hv).ex (e.trans e2), fun H5 e5 => ⟨_, e5 _ _ ((Ex.new nT) _ _ p.2), ?_, ?_, ?_⟩⟩
    · rw [List.length_map, List.length_replicate]
      exact sz_lt (by omega)
    · exact Ex.mut (e2.trans e5) hD
    · rw [upd_same, List.replicate_succ', List.map_append]
      rfl
  rcases h3 with ⟨ha, hb⟩ | ⟨ha, hb⟩
  · refine ⟨.ref a, rfl, .ref b, rfl, a, b, xs, ys, rfl, .inl ⟨ex_l e ha, ex_l e hb, fun Dl hD => ?_⟩⟩
    refine lc_it (walk_zip (n := xs.length) (xs := xs) (ys := ys) (by omega)) (fun i H1 => Ex H0 H1 ∧ H1 Dl = some (.lst ((List.replicate i true).map V.bl))) ⟨Ex.new hD, upd_same⟩ (fun i H1 _ p => ⟨ex_l (e.trans p.1) ha, ex_l (e.trans p.1) hb⟩) (fun i x H1 H2 hi p y => turn Dl i x H1 H2 hD hi p y) (fun H1 p => q Dl H1 hD p.1 p.2)
  · refine ⟨.ref a, rfl, .ref b, rfl, a, b, xs, ys, rfl, .inr ⟨ex_t e ha, ex_t e hb, fun Dl hD => ?_⟩⟩
    refine lc_it (walk_zipT (n := xs.length) (xs := xs) (ys := ys) (by omega)) (fun i H1 => Ex H0 H1 ∧ H1 Dl = some (.lst ((List.replicate i true).map V.bl))) ⟨Ex.new hD, upd_same⟩ (fun i H1 _ p => ⟨ex_t (e.trans p.1) ha, ex_t (e.trans p.1) hb⟩) (fun i x H1 H2 hi p y => turn Dl i x H1 H2 hD hi p y) (fun H1 p => q Dl H1 hD p.1 p.2)
theorem ev_allT {n : Nat} {te : TE} (h : EvL te σ H ((List.replicate n true).map V.bl)) : Ev (tCB (rAll K) (tCons te tNil)) σ H (.bl true) := fun H1 e Q q =>
  h H1 e _ fun p H2 hp e2 h2 => ⟨p, List.replicate n true, rfl, sq_of h2, by
    have e3 : (List.replicate n true).all id = true := by
      rw [List.all_eq_true]
      intro x hx
      rw [(List.mem_replicate.mp hx).2]
      rfl
    rw [e3]
    exact q H2 e2⟩
theorem ev_lenA {a : Addr} {xs : List V} {te : TE} (h : Ev te σ H (.ref a)) (h3 : SqL K H a xs ∨ SqT K H a xs) : Ev (tCB (rLenS K) (tCons te tNil)) σ H (.int (xs.length : Int)) := fun H1 e Q q =>
  h H1 e _ fun H2 e2 => ⟨a, xs, rfl, by
    rcases h3 with h3 | h3
    · exact .inl (ex_l (e.trans e2) h3)
    · exact .inr (ex_t (e.trans e2) h3), q H2 e2⟩
end
theorem kit_list {K : PySem.W.Frag} : PySem.W.kitAny K (.type "list") [.type "list", .type "tuple"] = some true := kitAny_cons (b := true) (kit_ty (by decide +kernel)) (fun h => by cases h) (fun _ => rfl)
theorem kit_tuple {K : PySem.W.Frag} : PySem.W.kitAny K (.type "tuple") [.type "list", .type "tuple"] = some true := kitAny_cons (b := false) (kit_ty (by decide +kernel)) (fun _ => kitAny_cons (b := true) (kit_ty (by decide +kernel)) (fun h => by cases h) (fun _ => rfl)) (fun h => by cases h)
theorem kit_int {K : PySem.W.Frag} : PySem.W.kitAny K (.type "int") [.type "list", .type "tuple"] = some false := kitAny_cons (b := false) (kit_ty (by decide +kernel)) (fun _ => kitAny_cons (b := false) (kit_ty (by decide +kernel)) (fun _ => kitAny_nil) (fun h => by cases h)) (fun h => by cases h)
theorem kit_bool {K : PySem.W.Frag} : PySem.W.kitAny K (.type "bool") [.type "list", .type "tuple"] = some false := kitAny_cons (b := false) (kit_ty (by decide +kernel)) (fun _ => kitAny_cons (b := false) (kit_ty (by decide +kernel)) (fun _ => kitAny_nil) (fun h => by cases h)) (fun h => by cases h)
theorem kit_str {K : PySem.W.Frag} : PySem.W.kitAny K (.type "str") [.type "list", .type "tuple"] = some false := kitAny_cons (b := false) (kit_ty (by decide +kernel)) (fun _ => kitAny_cons (b := false) (kit_ty (by decide +kernel)) (fun _ => kitAny_nil) (fun h => by cases h)) (fun h => by cases h)
theorem kit_non {K : PySem.W.Frag} : PySem.W.kitAny K (.type "NoneType") [.type "list", .type "tuple"] = some false := kitAny_cons (b := false) (kit_ty (by decide +kernel)) (fun _ => kitAny_cons (b := false) (kit_ty (by decide +kernel)) (fun _ => kitAny_nil) (fun h => by cases h)) (fun h => by cases h)
end HH
set_option maxHeartbeats 4000000
namespace HH
open PySem PySem.Spec PyProof.Rows L2 Evl RZ
def spOf (K : PySem.W.Frag) : Sp := fun vs H Q _ => ∃ (p l : Addr) (xs : List V) (n : Nat), vs = [.ref p, .ref l] ∧ SqL K H l xs ∧ 0 < xs.length ∧ xs.length < 100000 ∧ l ≠ p ∧ Bx H p n ∧ n < Lim ∧ ∀ (r : Nat) (x : V) H', xs[r]? = some x → ExB p H H' → Bx H' p (n + 1) → Q x H'
def spDip (K : PySem.W.Frag) : Sp := fun vs H Q _ => ∃ (a : Addr) (k : Nat) (ns : List Int), vs = [.ref a, .int (k : Int)] ∧ SqL K H a (ns.map V.int) ∧ k ≤ 100 ∧ ∀ p H', H p = none → Ex H H' → Bx H' p 0 → Q (.ref p) H'
def spFolded (K : PySem.W.Frag) : Sp := fun vs H Q _ => ∃ (a : Addr) (m : Nat) (ns : List Int), vs = [.ref a, .int (m : Int)] ∧ 0 < m ∧ m ≤ 10 ∧ SqL K H a (ns.map V.int) ∧ ns.length ≤ 63 ∧ ∀ p H' (ms : List Int), H p = none → Ex H H' → ms.length ≤ m → H' p = some (.lst (ms.map V.int)) → Q (.ref p) H'
def Tame (b : Int × Int) : Prop := -(10 ^ 12) < b.1 ∧ b.1 < 10 ^ 12 ∧ 0 ≤ b.2 ∧ b.2 < 10 ^ 12
def spRow (K : PySem.W.Frag) : Sp := fun vs H Q _ => ∃ (p : Addr) (m : Nat) (n : Nat), vs = [.ref p, .int (m : Int)] ∧ 0 < m ∧ m ≤ 30 ∧ Bx H p n ∧ n + 100 < Lim ∧ ∀ v H' (rs : Row), ExB p H H' → Bx H' p (n + 100) → RowAt K H' v rs → 0 < rs.length → rs.length ≤ m → (∀ b ∈ rs, Tame b) → Q v H'
section
variable {K : PySem.W.Frag} {σ : L2.St} {H H' : Hp} {ta tb te tx : TE} {x y z v : V} {D : Ends} {tz : TS}
theorem el_listN {xs : List V} (ha : EvL ta σ H xs) : EvL (tCB (rListS K) (tCons ta tNil)) σ H xs := fun H1 e Q q =>
  ha H1 e _ fun p H2 hp e2 h2 => ⟨p, xs, rfl, .inl (sq_of h2), fun l hl => q l _ (fresh_back e2 hl) (e2.trans (Ex.new hl)) upd_same⟩
theorem rc_abs {i : Int} : RC (fun xs H Q => ∃ i, xs = [.int i] ∧ Q (.int (if i < 0 then -i else i)) H) [.int i] H (.int (if i < 0 then -i else i)) := fun H1 _ _ q => ⟨i, rfl, q H1 (Ex.refl H1)⟩
theorem rc_intB {b : Bool} : RC (fun xs H Q => (∃ i, xs = [.int i] ∧ Q (.int i) H) ∨ ∃ k, xs = [.bl k] ∧ Q (.int (if k then 1 else 0)) H) [.bl b] H (.int (if b then 1 else 0)) := fun H1 _ _ q => .inr ⟨b, rfl, q H1 (Ex.refl H1)⟩
end
theorem at_ints {zs : List Int} {w : Int} (h0 : 0 ≤ w) (h1 : w < zs.length) : ∃ z, z ∈ zs ∧ atI (zs.map V.int) w = some (.int z) := by
  obtain ⟨k, rfl⟩ := Int.eq_ofNat_of_zero_le h0
  have hk : k < zs.length := by omega
  refine ⟨zs[k], List.getElem_mem hk, atI_nat ?_⟩
  rw [List.getElem?_map, List.getElem?_eq_getElem hk] <;> rfl
theorem b01 (b : Bool) : -(2 ^ 64) < (if b = true then (1 : Int) else 0) ∧ (if b = true then (1 : Int) else 0) < 2 ^ 64 := by
  cases b <;> decide
theorem b01n (b : Bool) : 0 ≤ (if b = true then (1 : Int) else 0) := by
  cases b <;> decide
theorem cut_ints (ns : List Int) (lo hi : Option Int) : ∃ ms : List Int, cutV (ns.map V.int) lo hi = ms.map V.int ∧ ms.length ≤ ns.length - HT.sIx ns.length 0 lo := by
  refine ⟨(ns.drop (HT.sIx ns.length 0 lo)).take (HT.sIx ns.length ns.length hi - HT.sIx ns.length 0 lo), ?_, ?_⟩
  · unfold cutV
    rw [List.length_map, List.map_take, List.map_drop]
  · rw [List.length_take, List.length_drop]
    omega
section
variable {K : PySem.W.Frag} {σ : L2.St} {H H' : Hp} {D : Ends} {tz tu : TS} {g : TG}
theorem q_forE {xs : List V} {tl : TE} (h : EvL tl σ H xs) (Pv : Addr → Nat → L2.St → Hp → Prop) (h0 : ∀ c H1, H c = none → Ex H H1 → H1 c = some (.lst xs) → Pv c 0 σ H1) (hl : ∀ c i σ' H', i ≤ xs.length → Pv c i σ' H' → SqL K H' c xs)
    (hs : ∀ c i x σ' H' T, xs[i]? = some x → Pv c i σ' H' → H' T = none → g (.ref T) σ' (upd H' T (.tup [.int (i : Nat), x])) fun σ2 H2 => tu { D with nx := Pv c (i + 1), ct := Pv c (i + 1), bk := tz D } σ2 H2) (hd : ∀ c σ' H', Pv c xs.length σ' H' → tz D σ' H') : tSeq (tFor (iEnum K (tCons tl tNil)) g tu) tz D σ H :=
  h H (Ex.refl H) _ fun c H1 hc e h1 => ⟨c, xs, rfl, sq_of h1, for_it (walk_enum (xs := xs)) (D := { D with nx := tz D }) (Pv c) (h0 c H1 hc e h1) (hl c) (fun i x σ' H' H2 hi p y => by
    obtain ⟨T, u, z, rfl, nT, rfl, hu, hz⟩ := y
    cases hu
    exact hs c i z σ' H' T hz p nT) (hd c)⟩
end
theorem fmod_nat (i m : Nat) : ((i : Nat) : Int).fmod ((m : Nat) : Int) = ((i % m : Nat) : Int) := by
  rw [Int.fmod_eq_emod_of_nonneg _ (Int.natCast_nonneg m)]
  rfl
theorem ExB.back {b p : Addr} {H H' : Hp} (e : ExB b H H') (h : H' p = none) (n : p ≠ b) : H p = none := by
  cases z : H p with
  | none => rfl
  | some o =>
    rw [e p o n z] at h
    cases h
theorem mul_bd {r i : Int} (h0 : 0 ≤ r) (h1 : r ≤ 3) (g0 : 0 ≤ i) (g1 : i ≤ 40) : 0 ≤ r * i ∧ r * i ≤ 120 :=
  ⟨Int.mul_nonneg h0 g0, Int.le_trans (Int.mul_le_mul h1 g1 g0 (by decide)) (by decide)⟩
end HH
set_option maxHeartbeats 4000000
namespace HH
open PySem PySem.Spec PyProof.Rows L2 Evl RZ
def Nice (k : Nat) (d : PyData) : Prop := d.canLay0 = true ∧ d.depth ≤ k
theorem nice_all {k : Nat} : ∀ {ds : List PyData}, (∀ d ∈ ds, Nice k d) → PyData.canLayAll0 ds = true ∧ PyData.depthAll ds ≤ k
  | [], _ => ⟨by simp [PyData.canLayAll0], by simp [PyData.depthAll]⟩
  | d :: ds, h => by
    have h1 := h d (List.mem_cons_self ..)
    have h2 := nice_all (fun e he => h e (List.mem_cons_of_mem _ he))
    refine ⟨by simp [PyData.canLayAll0, h1.1, h2.1], ?_⟩
    have e : PyData.depthAll (d :: ds) = max d.depth (PyData.depthAll ds) := by simp [PyData.depthAll]
    rw [e]
    have := h1.2
    have := h2.2
    omega
theorem nice_int (k : Nat) (i : Int) : Nice k (.int i) := ⟨by simp [PyData.canLay0], by simp [PyData.depth]⟩
theorem nice_list {k : Nat} {ds : List PyData} (h : ∀ d ∈ ds, Nice k d) : Nice (k + 1) (.list ds) := ⟨by simp [PyData.canLay0, (nice_all h).1], by
  have := (nice_all h).2
  simp [PyData.depth]
  omega⟩
theorem Nice.shaped {k : Nat} {d : PyData} (h : Nice k d) (hk : k ≤ 64) : SeqAt.shaped d = true := by
  unfold SeqAt.shaped
  rw [h.1, decide_eq_true (Nat.le_trans h.2 hk)]
  rfl
theorem dp_ints {K : PySem.W.Frag} {H : Hp} : ∀ ns : List Int, DpAll K H (ns.map V.int) (ns.map PyData.int)
  | [] => .nil
  | n :: ns => .cons (.int n) (dp_ints ns)
theorem nice_ints (ns : List Int) : ∀ d ∈ ns.map PyData.int, Nice 0 d := fun d hd => by
  obtain ⟨i, _, rfl⟩ := List.mem_map.mp hd
  exact nice_int 0 i
mutual
theorem dp_ex {K : PySem.W.Frag} {H H' : Hp} (e : Ex H H') : ∀ {v : V} {d : PyData}, Dp K H v d → Dp K H' v d
  | _, _, .non => .non
  | _, _, .bl b => .bl b
  | _, _, .int i => .int i
  | _, _, .str x => .str x
  | _, _, .lst h g => .lst (ex_l e h) (dps_ex e g)
  | _, _, .tup h g => .tup (ex_t e h) (dps_ex e g)
theorem dps_ex {K : PySem.W.Frag} {H H' : Hp} (e : Ex H H') : ∀ {v : List V} {d : List PyData}, DpAll K H v d → DpAll K H' v d
  | _, _, .nil => .nil
  | _, _, .cons h g => .cons (dp_ex e h) (dps_ex e g)
end
theorem dps_len {K : PySem.W.Frag} {H : Hp} : ∀ {v : List V} {d : List PyData}, DpAll K H v d → v.length = d.length
  | _, _, .nil => rfl
  | _, _, .cons h g => by
    rw [List.length_cons, List.length_cons, dps_len g]
section
variable {K : PySem.W.Frag} {σ : L2.St} {H H' : Hp} {te : TE}
theorem et_neNil {k : Nat} {a : Addr} {xs : List V} {ds : List PyData} (h : Ev te σ H (.ref a)) (ha : SqL K H a xs) (hd : DpAll K H xs ds) (hn : ∀ d ∈ ds, Nice k d) (hk : k < 64) : EvT (tTest (tOp (rNeD K) te (tLst tNil))) σ H (!xs.isEmpty) := fun H1 e Q q =>
  h H1 e _ fun H2 e2 => ⟨by show 0 ≤ sizeLine; decide, fun p hp => by
    have e3 := (e.trans e2).trans (Ex.new (o := .lst []) hp)
    refine ⟨.list ds, .list [], .lst (ex_l e3 ha) (dps_ex e3 hd), .lst (sq_of upd_same) .nil, (nice_list hn).shaped (by omega), (nice_list (k := 0) (fun d h => by cases h)).shaped (by omega), _, rfl, ?_⟩
    have e4 : PyData.eqv (.list ds) (.list []) = xs.isEmpty := by
      have hl := dps_len hd
      cases ds with
      | nil =>
        have : xs = [] := List.length_eq_zero_iff.mp hl
        subst this
        simp [PyData.eqv, PyData.eqvAll]
      | cons d ds =>
        cases xs with
        | nil => cases hl
        | cons x xs => simp [PyData.eqv, PyData.eqvAll]
    rw [e4]
    exact q _ (e2.trans (Ex.new hp))⟩
end
theorem sS_at {pre post : Row} {x y : Int × Int} : sS (pre ++ x :: y :: post) pre.length = x.1 ∧ tS (pre ++ x :: y :: post) pre.length = x.2 ∧ sS (pre ++ x :: y :: post) (pre.length + 1) = y.1 ∧ tS (pre ++ x :: y :: post) (pre.length + 1) = y.2 := by
  unfold sS tS
  have h1 : (pre ++ x :: y :: post)[pre.length]? = some x := by
    rw [List.getElem?_append_right (Nat.le_refl _), Nat.sub_self]
    rfl
  have h2 : (pre ++ x :: y :: post)[pre.length + 1]? = some y := by
    rw [List.getElem?_append_right (by omega), show pre.length + 1 - pre.length = 1 by omega]
    rfl
  rw [h1, h2]
  exact ⟨rfl, rfl, rfl, rfl⟩
theorem split_take {pre post : Row} {x y : Int × Int} : (pre ++ x :: y :: post).take pre.length = pre ∧ (pre ++ x :: y :: post).drop (pre.length + 2) = post := by
  constructor
  · rw [List.take_append_of_le_length (Nat.le_refl _), List.take_length]
  · rw [← List.drop_drop, List.drop_append_of_le_length (Nat.le_refl _), List.drop_length]
    rfl
theorem pass_split {pre post : Row} {x y : Int × Int} : passR (pre ++ x :: y :: post) (pre.length + 1) = pre ++ (y.1 - x.2, y.2) :: x :: post := by
  unfold passR
  obtain ⟨h1, h2, h3, h4⟩ := sS_at (pre := pre) (post := post) (x := x) (y := y)
  obtain ⟨g1, g2⟩ := split_take (pre := pre) (post := post) (x := x) (y := y)
  rw [Nat.add_sub_cancel, h1, h2, h3, h4, g1, show pre.length + 1 + 1 = pre.length + 2 from rfl, g2, List.append_assoc]
  rfl
theorem lets_split {pre post : Row} {x y : Int × Int} : letsN (pre ++ x :: y :: post) (pre.length + 1) = decide (y.1 - x.2 > x.1) := by
  unfold letsN
  obtain ⟨h1, h2, h3, h4⟩ := sS_at (pre := pre) (post := post) (x := x) (y := y)
  rw [Nat.add_sub_cancel, h1, h2, h3, decide_eq_true (Nat.succ_pos _), Bool.true_and]
def tsum : Row → Int
  | [] => 0
  | b :: r => b.2 + tsum r
end HH
set_option maxHeartbeats 4000000
namespace HH
abbrev Cow := Nat × (Int × Int)
def Chk (id : Nat) : Int → List Cow → Prop
  | _, [] => True
  | c, y :: r => (y.1 < id → y.2.1 < c) ∧ Chk id (if y.1 < id then c + y.2.2 else c) r
def PInv : List Cow → Prop
  | [] => True
  | x :: r => Chk x.1 (x.2.1 + x.2.2) r ∧ PInv r
def FChk (id : Nat) : Int → List Cow → Prop
  | _, [] => True
  | c, y :: r => (y.1 < id → c < y.2.1) ∧ FChk id (if id < y.1 then c + y.2.2 else c) r
def FInv : List Cow → Prop
  | [] => True
  | x :: r => FChk x.1 x.2.1 r ∧ FInv r
def tag : Nat → Row → List Cow
  | _, [] => []
  | k, b :: r => (k, b) :: tag (k + 1) r
theorem tag_snd : ∀ (k : Nat) (rs : Row), (tag k rs).map (·.2) = rs
  | _, [] => rfl
  | k, b :: r => by
    show b :: (tag (k + 1) r).map (·.2) = b :: r
    rw [tag_snd]
theorem tag_fst : ∀ (k : Nat) (rs : Row), (tag k rs).map (·.1) = (List.range rs.length).map (k + ·)
  | _, [] => rfl
  | k, b :: r => by
    show k :: (tag (k + 1) r).map (·.1) = (List.range (r.length + 1)).map (k + ·)
    rw [tag_fst, List.range_succ_eq_map, List.map_cons, List.map_map]
    have e : (List.range r.length).map (fun x => k + 1 + x) = (List.range r.length).map ((fun x => k + x) ∘ Nat.succ) := List.map_congr_left fun i _ => by
      show k + 1 + i = k + (i + 1)
      omega
    rw [e]
    rfl
theorem tag_len (k : Nat) (rs : Row) : (tag k rs).length = rs.length := by
  have := congrArg List.length (tag_snd k rs)
  rw [List.length_map] at this
  exact this
theorem chk_tag : ∀ (id k : Nat) (c : Int) (rs : Row), id ≤ k → Chk id c (tag k rs)
  | _, _, _, [], _ => True.intro
  | id, k, c, b :: r, h => by
    refine ⟨fun h1 => ?_, ?_⟩
    · have h2 : k < id := h1
      omega
    · rw [if_neg (show ¬ k < id by omega)]
      exact chk_tag id (k + 1) c r (by omega)
theorem fchk_tag : ∀ (id k : Nat) (c : Int) (rs : Row), id ≤ k → FChk id c (tag k rs)
  | _, _, _, [], _ => True.intro
  | id, k, c, b :: r, h => by
    refine ⟨fun h1 => ?_, fchk_tag id (k + 1) _ r (by omega)⟩
    have h2 : k < id := h1
    omega
theorem pinv_tag : ∀ (k : Nat) (rs : Row), PInv (tag k rs)
  | _, [] => True.intro
  | k, b :: r => ⟨chk_tag k (k + 1) _ r (by omega), pinv_tag (k + 1) r⟩
theorem finv_tag : ∀ (k : Nat) (rs : Row), FInv (tag k rs)
  | _, [] => True.intro
  | k, b :: r => ⟨fchk_tag k (k + 1) _ r (by omega), finv_tag (k + 1) r⟩
theorem pinv_tail : ∀ {pre post : List Cow}, PInv (pre ++ post) → PInv post
  | [], _, h => h
  | _ :: pre, _, h => pinv_tail (pre := pre) h.2
theorem finv_tail : ∀ {pre post : List Cow}, FInv (pre ++ post) → FInv post
  | [], _, h => h
  | _ :: pre, _, h => finv_tail (pre := pre) h.2
theorem pinv_lt {pre post : List Cow} {a b : Cow} (h : PInv (pre ++ a :: b :: post)) (hp : b.2.1 - a.2.2 > a.2.1) (hne : a.1 ≠ b.1) : a.1 < b.1 := by
  have h1 := (pinv_tail h).1.1
  rcases Nat.lt_or_ge a.1 b.1 with h2 | h2
  · exact h2
  · have := h1 (by omega)
    omega
theorem finv_lt {pre post : List Cow} {a b : Cow} (h : FInv (pre ++ a :: b :: post)) (hp : a.2.1 > b.2.1) (hne : a.1 ≠ b.1) : a.1 < b.1 := by
  have h1 := (finv_tail h).1.1
  rcases Nat.lt_or_ge a.1 b.1 with h2 | h2
  · exact h2
  · have := h1 (by omega)
    omega
theorem chk_pass {id : Nat} {a b : Cow} {post : List Cow} (hab : a.1 < b.1) (ht : 0 ≤ b.2.2) (hp : b.2.1 - a.2.2 > a.2.1) : ∀ {pre : List Cow} {c : Int}, Chk id c (pre ++ a :: b :: post) → Chk id c (pre ++ (b.1, (b.2.1 - a.2.2, b.2.2)) :: a :: post)
  | [], c, h => by
    obtain ⟨h1, h2, h3⟩ := h
    show (b.1 < id → b.2.1 - a.2.2 < c) ∧ (a.1 < id → a.2.1 < if b.1 < id then c + b.2.2 else c) ∧ Chk id _ post
    by_cases hb : b.1 < id
    · have ha : a.1 < id := by omega
      rw [if_pos ha] at h2 h3
      rw [if_pos hb] at h3 ⊢
      have g1 := h1 ha
      have g2 := h2 hb
      refine ⟨fun _ => by omega, fun _ => by omega, ?_⟩
      rw [if_pos ha]
      have e : c + b.2.2 + a.2.2 = c + a.2.2 + b.2.2 := by omega
      show Chk id (c + b.2.2 + a.2.2) post
      rw [e]
      exact h3
    · rw [if_neg hb] at h3 ⊢
      refine ⟨fun z => absurd z hb, h1, ?_⟩
      exact h3
  | x :: pre, c, h => ⟨h.1, chk_pass hab ht hp (pre := pre) h.2⟩
theorem fchk_fall {id : Nat} {a b : Cow} {post : List Cow} (hab : a.1 < b.1) (ht : 0 ≤ b.2.2) (hp : a.2.1 > b.2.1) : ∀ {pre : List Cow} {c : Int}, FChk id c (pre ++ a :: b :: post) → FChk id c (pre ++ b :: (a.1, (a.2.1 + b.2.2, a.2.2)) :: post)
  | [], c, h => by
    obtain ⟨h1, h2, h3⟩ := h
    show (b.1 < id → c < b.2.1) ∧ (a.1 < id → (if id < b.1 then c + b.2.2 else c) < a.2.1 + b.2.2) ∧ FChk id (if id < a.1 then (if id < b.1 then c + b.2.2 else c) + a.2.2 else (if id < b.1 then c + b.2.2 else c)) post
    by_cases ha : id < a.1
    · have hb : id < b.1 := by omega
      rw [if_pos ha] at h2 h3
      rw [if_pos hb] at h3
      rw [if_pos ha, if_pos hb]
      refine ⟨fun z => by omega, fun z => by omega, ?_⟩
      have e : c + b.2.2 + a.2.2 = c + a.2.2 + b.2.2 := by omega
      rw [e]
      exact h3
    · rw [if_neg ha] at h2 h3
      rw [if_neg ha]
      by_cases hb : id < b.1
      · rw [if_pos hb] at h3
        rw [if_pos hb]
        refine ⟨fun z => by omega, fun z => ?_, h3⟩
        have := h1 z
        omega
      · rw [if_neg hb] at h3
        rw [if_neg hb]
        refine ⟨h2, fun z => ?_, h3⟩
        have := h1 z
        omega
  | x :: pre, c, h => ⟨h.1, fchk_fall hab ht hp (pre := pre) h.2⟩
theorem pinv_pass {a b : Cow} {post : List Cow} (hab : a.1 < b.1) (ht : 0 ≤ b.2.2) (hp : b.2.1 - a.2.2 > a.2.1) : ∀ {pre : List Cow}, PInv (pre ++ a :: b :: post) → PInv (pre ++ (b.1, (b.2.1 - a.2.2, b.2.2)) :: a :: post)
  | [], h => by
    obtain ⟨⟨_, h1⟩, h2, h3⟩ := h
    rw [if_neg (show ¬ b.1 < a.1 by omega)] at h1
    refine ⟨⟨fun _ => ?_, ?_⟩, h1, h3⟩
    · show a.2.1 < b.2.1 - a.2.2 + b.2.2
      omega
    · show Chk b.1 (if a.1 < b.1 then b.2.1 - a.2.2 + b.2.2 + a.2.2 else _) post
      rw [if_pos hab]
      have e : b.2.1 - a.2.2 + b.2.2 + a.2.2 = b.2.1 + b.2.2 := by omega
      rw [e]
      exact h2
  | x :: pre, h => ⟨chk_pass hab ht hp h.1, pinv_pass hab ht hp (pre := pre) h.2⟩
theorem finv_fall {a b : Cow} {post : List Cow} (hab : a.1 < b.1) (ht : 0 ≤ b.2.2) (hp : a.2.1 > b.2.1) : ∀ {pre : List Cow}, FInv (pre ++ a :: b :: post) → FInv (pre ++ b :: (a.1, (a.2.1 + b.2.2, a.2.2)) :: post)
  | [], h => by
    obtain ⟨⟨_, h1⟩, h2, h3⟩ := h
    rw [if_pos hab] at h1
    refine ⟨⟨fun _ => ?_, ?_⟩, h1, h3⟩
    · show b.2.1 < a.2.1 + b.2.2
      omega
    · show FChk b.1 (if b.1 < a.1 then b.2.1 + a.2.2 else b.2.1) post
      rw [if_neg (by omega)]
      exact h2
  | x :: pre, h => ⟨fchk_fall hab ht hp h.1, finv_fall hab ht hp (pre := pre) h.2⟩
def cnt (a : Nat) : List Nat → Nat
  | [] => 0
  | y :: r => (if a < y then 1 else 0) + cnt a r
def asc : List Nat → Nat
  | [] => 0
  | a :: r => cnt a r + asc r
theorem cnt_swap {x a b : Nat} {post : List Nat} : ∀ pre : List Nat, cnt x (pre ++ a :: b :: post) = cnt x (pre ++ b :: a :: post)
  | [] => by
    show (if x < a then 1 else 0) + ((if x < b then 1 else 0) + cnt x post) = (if x < b then 1 else 0) + ((if x < a then 1 else 0) + cnt x post)
    omega
  | y :: pre => by
    show (if x < y then 1 else 0) + cnt x (pre ++ a :: b :: post) = (if x < y then 1 else 0) + cnt x (pre ++ b :: a :: post)
    rw [cnt_swap pre]
theorem asc_swap {a b : Nat} {post : List Nat} (h : a < b) : ∀ pre : List Nat, asc (pre ++ a :: b :: post) = asc (pre ++ b :: a :: post) + 1
  | [] => by
    show ((if a < b then 1 else 0) + cnt a post) + (cnt b post + asc post) = ((if b < a then 1 else 0) + cnt b post) + (cnt a post + asc post) + 1
    rw [if_pos h, if_neg (by omega)]
    omega
  | x :: pre => by
    show cnt x (pre ++ a :: b :: post) + asc (pre ++ a :: b :: post) = cnt x (pre ++ b :: a :: post) + asc (pre ++ b :: a :: post) + 1
    rw [cnt_swap pre, asc_swap h pre]
    omega
theorem cnt_le (a : Nat) : ∀ l : List Nat, cnt a l ≤ l.length
  | [] => Nat.le_refl _
  | y :: r => by
    show (if a < y then 1 else 0) + cnt a r ≤ r.length + 1
    have := cnt_le a r
    split <;> omega
theorem asc_le : ∀ l : List Nat, asc l ≤ l.length * l.length
  | [] => Nat.le_refl _
  | a :: r => by
    show cnt a r + asc r ≤ (r.length + 1) * (r.length + 1)
    have h1 := cnt_le a r
    have h2 := asc_le r
    have e : (r.length + 1) * (r.length + 1) = r.length * r.length + 2 * r.length + 1 := by
      rw [Nat.add_mul, Nat.mul_add]
      omega
    omega
inductive PRun (L0 : List Cow) : List Cow → List (Int × Int) → Prop
  | nil : PRun L0 L0 []
  | step {pre post : List Cow} {a b : Cow} {ps : List (Int × Int)} : PRun L0 (pre ++ a :: b :: post) ps → b.2.1 - a.2.2 > a.2.1 → PRun L0 (pre ++ (b.1, (b.2.1 - a.2.2, b.2.2)) :: a :: post) (ps ++ [((a.1 : Int), (b.1 : Int))])
inductive FRun (L0 : List Cow) : List Cow → List (Int × Int) → Prop
  | nil : FRun L0 L0 []
  | step {pre post : List Cow} {a b : Cow} {ps : List (Int × Int)} : FRun L0 (pre ++ a :: b :: post) ps → a.2.1 > b.2.1 → FRun L0 (pre ++ b :: (a.1, (a.2.1 + b.2.2, a.2.2)) :: post) (ps ++ [((a.1 : Int), (b.1 : Int))])
structure Facts (n : Nat) (L : List Cow) (ps : List (Int × Int)) : Prop where
  len : L.length = n
  tl : ∀ x ∈ L, 0 ≤ x.2.2
  nd : (L.map (·.1)).Nodup
  few : ps.length + asc (L.map (·.1)) ≤ n * n
theorem nd_ne {pre post : List Cow} {a b : Cow} (h : ((pre ++ a :: b :: post).map (·.1)).Nodup) : a.1 ≠ b.1 := by
  rw [List.map_append] at h
  have h1 := (List.nodup_append.mp h).2.1
  intro e
  have h2 := (List.nodup_cons.mp h1).1
  apply h2
  show a.1 ∈ b.1 :: post.map (·.1)
  rw [e]
  exact List.mem_cons_self ..
theorem nd_swap {pre post : List Cow} {a b : Cow} {u v : Int × Int} (h : ((pre ++ a :: b :: post).map (·.1)).Nodup) : ((pre ++ (b.1, u) :: (a.1, v) :: post).map (·.1)).Nodup := by
  rw [List.map_append] at h ⊢
  refine (List.Perm.nodup_iff ?_).mp h
  exact List.Perm.append_left _ (List.Perm.swap ..)
theorem asc_step {pre post : List Cow} {a b : Cow} {u v : Int × Int} (h : a.1 < b.1) : asc ((pre ++ a :: b :: post).map (·.1)) = asc ((pre ++ (b.1, u) :: (a.1, v) :: post).map (·.1)) + 1 := by
  rw [List.map_append, List.map_append]
  exact asc_swap h (pre.map (·.1))
theorem facts_tag {rs : Row} (h : ∀ b ∈ rs, 0 ≤ b.2) : Facts rs.length (tag 0 rs) [] := by
  refine ⟨tag_len 0 rs, fun x hx => ?_, ?_, ?_⟩
  · apply h
    rw [← tag_snd 0 rs]
    exact List.mem_map_of_mem (f := (·.2)) hx
  · rw [tag_fst]
    have e : (fun x => 0 + x) = (id : Nat → Nat) := by
      funext x
      exact Nat.zero_add x
    rw [e, List.map_id]
    exact List.nodup_range
  · have := asc_le ((tag 0 rs).map (·.1))
    rw [List.length_map, tag_len] at this
    show 0 + asc _ ≤ _
    omega
theorem facts_pass {n : Nat} {pre post : List Cow} {a b : Cow} {ps : List (Int × Int)} {q : Int × Int} (f : Facts n (pre ++ a :: b :: post) ps) (i : PInv (pre ++ a :: b :: post)) (hp : b.2.1 - a.2.2 > a.2.1) :
    Facts n (pre ++ (b.1, (b.2.1 - a.2.2, b.2.2)) :: a :: post) (ps ++ [q]) ∧ PInv (pre ++ (b.1, (b.2.1 - a.2.2, b.2.2)) :: a :: post) ∧ asc ((pre ++ (b.1, (b.2.1 - a.2.2, b.2.2)) :: a :: post).map (·.1)) < asc ((pre ++ a :: b :: post).map (·.1)) := by
  have hab := pinv_lt i hp (nd_ne f.nd)
  have hs := asc_step (pre := pre) (post := post) (a := a) (b := b) (u := (b.2.1 - a.2.2, b.2.2)) (v := a.2) hab
  have hb := f.tl b (by simp)
  have ha := f.tl a (by simp)
  refine ⟨⟨?_, fun x hx => ?_, nd_swap (v := a.2) f.nd, ?_⟩, pinv_pass hab hb hp i, ?_⟩
  · rw [← f.len, List.length_append, List.length_append]
    rfl
  · rcases List.mem_append.mp hx with h | h
    · exact f.tl x (List.mem_append_left _ h)
    · rcases List.mem_cons.mp h with rfl | h
      · exact hb
      · rcases List.mem_cons.mp h with rfl | h
        · exact ha
        · exact f.tl x (by simp [h])
  · have := f.few
    rw [List.length_append]
    show ps.length + 1 + asc ((pre ++ (b.1, (b.2.1 - a.2.2, b.2.2)) :: (a.1, a.2) :: post).map (·.1)) ≤ n * n
    omega
  · show asc ((pre ++ (b.1, (b.2.1 - a.2.2, b.2.2)) :: (a.1, a.2) :: post).map (·.1)) < _
    omega
theorem facts_fall {n : Nat} {pre post : List Cow} {a b : Cow} {ps : List (Int × Int)} {q : Int × Int} (f : Facts n (pre ++ a :: b :: post) ps) (i : FInv (pre ++ a :: b :: post)) (hp : a.2.1 > b.2.1) :
    Facts n (pre ++ b :: (a.1, (a.2.1 + b.2.2, a.2.2)) :: post) (ps ++ [q]) ∧ FInv (pre ++ b :: (a.1, (a.2.1 + b.2.2, a.2.2)) :: post) ∧ asc ((pre ++ b :: (a.1, (a.2.1 + b.2.2, a.2.2)) :: post).map (·.1)) < asc ((pre ++ a :: b :: post).map (·.1)) := by
  have hab := finv_lt i hp (nd_ne f.nd)
  have hs := asc_step (pre := pre) (post := post) (a := a) (b := b) (u := b.2) (v := (a.2.1 + b.2.2, a.2.2)) hab
  have hb := f.tl b (by simp)
  have ha := f.tl a (by simp)
  refine ⟨⟨?_, fun x hx => ?_, nd_swap (u := b.2) f.nd, ?_⟩, finv_fall hab hb hp i, ?_⟩
  · rw [← f.len, List.length_append, List.length_append]
    rfl
  · rcases List.mem_append.mp hx with h | h
    · exact f.tl x (List.mem_append_left _ h)
    · rcases List.mem_cons.mp h with rfl | h
      · exact hb
      · rcases List.mem_cons.mp h with rfl | h
        · exact ha
        · exact f.tl x (by simp [h])
  · have := f.few
    rw [List.length_append]
    show ps.length + 1 + asc ((pre ++ (b.1, b.2) :: (a.1, (a.2.1 + b.2.2, a.2.2)) :: post).map (·.1)) ≤ n * n
    omega
  · show asc ((pre ++ (b.1, b.2) :: (a.1, (a.2.1 + b.2.2, a.2.2)) :: post).map (·.1)) < _
    omega
end HH
set_option maxHeartbeats 4000000
namespace HH
open PySem PySem.Spec PyProof.Rows L2 Evl RZ
def rowsOf (L : List Cow) : HH.Row := L.map (·.2)
def ordL (L : List Cow) : List V := L.map fun x => V.int (x.1 : Int)
theorem RowAt.exL {K : PySem.W.Frag} {H H' : Hp} {v : V} {rs : HH.Row} {q : Addr} {ys : List V} (h : RowAt K H v rs) (e : ExB q H H') (hy : H q = some (.lst ys)) : RowAt K H' v rs := by
  obtain ⟨a, vs, h1, h2, h3⟩ := h
  exact ⟨a, vs, h1, e.t hy h2, h3.exB e hy⟩
theorem cow_len (L : List Cow) : (rowsOf L).length = L.length := List.length_map ..
theorem cow_split {L : List Cow} {p : Nat} (h : p + 1 < L.length) : ∃ (pre : List Cow) (x y : Cow) (post : List Cow), L = pre ++ x :: y :: post ∧ pre.length = p := by
  refine ⟨L.take p, L[p], L[p + 1], L.drop (p + 2), ?_, by rw [List.length_take]; omega⟩
  rw [← List.drop_eq_getElem_cons h, ← List.drop_eq_getElem_cons (by omega), List.take_append_drop]
theorem rows_mid (pre post : List Cow) (x y : Cow) : rowsOf (pre ++ x :: y :: post) = rowsOf pre ++ x.2 :: y.2 :: rowsOf post := by
  unfold rowsOf
  rw [List.map_append, List.map_cons, List.map_cons]
theorem ord_mid (pre post : List Cow) (x y : Cow) : ordL (pre ++ x :: y :: post) = ordL pre ++ V.int (x.1 : Int) :: V.int (y.1 : Int) :: ordL post := by
  unfold ordL
  rw [List.map_append, List.map_cons, List.map_cons]
theorem ord_len (L : List Cow) : (ordL L).length = L.length := List.length_map ..
theorem cow_pass {L : List Cow} {p : Nat} (hp : p < (rowsOf L).length) (hl : letsN (rowsOf L) p = true) : ∃ (pre post : List Cow) (a b : Cow), L = pre ++ a :: b :: post ∧ p = pre.length + 1 ∧ b.2.1 - a.2.2 > a.2.1 ∧ passR (rowsOf L) p = rowsOf (pre ++ (b.1, (b.2.1 - a.2.2, b.2.2)) :: a :: post) := by
  have h0 : 0 < p := of_decide_eq_true (Bool.and_eq_true_iff.mp hl).1
  rw [cow_len] at hp
  obtain ⟨k, rfl⟩ : ∃ k, p = k + 1 := ⟨p - 1, by omega⟩
  obtain ⟨pre, a, b, post, rfl, rfl⟩ := cow_split hp
  have e : pre.length = (rowsOf pre).length := (cow_len pre).symm
  rw [rows_mid, e, lets_split] at hl
  refine ⟨pre, post, a, b, rfl, rfl, of_decide_eq_true hl, ?_⟩
  rw [rows_mid, rows_mid, e, pass_split]
theorem given_get {n : Nat} {f : Nat → Bool} {v : Nat → V} {r : Nat} {x : V} (h : (given n f v)[r]? = some x) : ∃ k, x = v k ∧ k < n ∧ f k = true := by
  unfold given at h
  have h1 := List.mem_of_getElem? h
  obtain ⟨k, hk, rfl⟩ := List.mem_map.mp h1
  obtain ⟨h2, h3⟩ := List.mem_filter.mp hk
  exact ⟨k, rfl, List.mem_range.mp h2, h3⟩
theorem ord_get {pre post : List Cow} {x y : Cow} : (ordL (pre ++ x :: y :: post))[pre.length]? = some (.int (x.1 : Int)) ∧ (ordL (pre ++ x :: y :: post))[pre.length + 1]? = some (.int (y.1 : Int)) := by
  rw [ord_mid]
  have e : pre.length = (ordL pre).length := (ord_len pre).symm
  rw [e]
  constructor
  · rw [List.getElem?_append_right (Nat.le_refl _), Nat.sub_self]
    rfl
  · rw [List.getElem?_append_right (by omega), show (ordL pre).length + 1 - (ordL pre).length = 1 by omega]
    rfl
theorem ord_swap {pre post : List Cow} {x y : Cow} {u v : Int × Int} : (ordL (pre ++ x :: y :: post)).take pre.length ++ [.int (y.1 : Int), .int (x.1 : Int)] ++ (ordL (pre ++ x :: y :: post)).drop (pre.length + 2) = ordL (pre ++ (y.1, u) :: (x.1, v) :: post) := by
  rw [ord_mid, ord_mid]
  have e : pre.length = (ordL pre).length := (ord_len pre).symm
  rw [e, List.take_append_of_le_length (Nat.le_refl _), List.take_length, ← List.drop_drop, List.drop_append_of_le_length (Nat.le_refl _), List.drop_length, List.append_assoc]
  rfl
theorem ord_tag (rs : HH.Row) : rgV 0 (rs.length : Int) = ordL (tag 0 rs) := by
  unfold rgV ordL
  have h := congrArg (List.map fun k : Nat => V.int (k : Int)) (tag_fst 0 rs)
  rw [List.map_map, List.map_map] at h
  refine Eq.trans ?_ h.symm
  rw [show ((rs.length : Int) - 0).toNat = rs.length by omega]
  refine List.map_congr_left fun i _ => ?_
  show V.int (0 + (i : Int)) = V.int ((0 + i : Nat) : Int)
  rw [Int.zero_add, Nat.zero_add]
section
variable {K : PySem.W.Frag} {σ : L2.St} {H H' : Hp} {te to ta tc : TE} {D : Ends} {tz : TS}
theorem q_sl {l : Addr} {xs ys : List V} {i j : Nat} {a c : Int} (h : EvL te σ H ys) (ho : Ev to σ H (.ref l)) (ha : Ev ta σ H (.int a)) (hc : Ev tc σ H (.int c)) (ea : a = (i : Int)) (ec : c = (j : Int)) (hl : H l = some (.lst xs)) (hij : i ≤ j) (hj : j ≤ xs.length) (hz : xs.length + ys.length ≤ 100000)
    (k : ∀ H1, Ex H H1 → tz D σ (upd H1 l (.lst (xs.take i ++ ys ++ xs.drop j)))) : tSeq (tAsg te (gSl to ta tc)) tz D σ H :=
  h H (Ex.refl H) _ fun b H1 hb e1 h1 => ho H1 e1 _ fun H2 e2 => ha H2 (e1.trans e2) _ fun H3 e3 => hc H3 ((e1.trans e2).trans e3) _ fun H4 e4 => by
    subst ea ec
    have e := (((e1.trans e2).trans e3).trans e4)
    exact ⟨l, b, xs, ys, (i : Int), (j : Int), rfl, rfl, rfl, rfl, e _ _ hl, ((e2.trans e3).trans e4) _ _ h1, ne_of_none hl hb, by omega, by omega, by omega, sz_of hz, k H4 e⟩
end
structure EndAt (K : PySem.W.Frag) (H H' : Hp) (p : Addr) (q : Addr) (v' : V) (ot lp : Addr) (pvs : List V) (L : List Cow) (ps : List (Int × Int)) (n : Nat) : Prop where
  ex : ExB p H H'
  bx : Bx H' p (n + 1000)
  q : H' q = some (.tup [v', .ref ot, .ref lp])
  row : RowAt K H' v' (rowsOf L)
  ord : H' ot = some (.tup (ordL L))
  lst : H' lp = some (.lst pvs)
  prs : Beasts K H' pvs ps
def spEnded (K : PySem.W.Frag) : Sp := fun vs H Q _ => ∃ (p : Addr) (v : V) (rs : HH.Row) (n : Nat), vs = [.ref p, v] ∧ RowAt K H v rs ∧ rs.length ≤ 30 ∧ (∀ b ∈ rs, 0 ≤ b.2) ∧ Bx H p n ∧ n + 1000 < Lim ∧
  ∀ (q : Addr) (v' : V) (ot lp : Addr) (pvs : List V) (L : List Cow) (ps : List (Int × Int)) (H' : Hp), EndAt K H H' p q v' ot lp pvs L ps n → PRun (tag 0 rs) L ps → Facts rs.length L ps → passL (rowsOf L) = [] → Q (.ref q) H'
end HH
set_option maxHeartbeats 4000000
namespace HH
open PySem PySem.Spec PyProof.Rows L2 Evl RZ
inductive All2 {α : Type} (R : V → α → Prop) : List V → List α → Prop
  | nil : All2 R [] []
  | cons {v : V} {x : α} {vs : List V} {xs : List α} : R v x → All2 R vs xs → All2 R (v :: vs) (x :: xs)
theorem All2.mono {α : Type} {R S : V → α → Prop} (h : ∀ v x, R v x → S v x) : ∀ {vs : List V} {xs : List α}, All2 R vs xs → All2 S vs xs
  | _, _, .nil => .nil
  | _, _, .cons a b => .cons (h _ _ a) (All2.mono h b)
theorem All2.app {α : Type} {R : V → α → Prop} : ∀ {vs : List V} {xs : List α} {us : List V} {ys : List α}, All2 R vs xs → All2 R us ys → All2 R (vs ++ us) (xs ++ ys)
  | _, _, _, _, .nil, h => h
  | _, _, _, _, .cons a b, h => .cons a (All2.app b h)
theorem All2.len {α : Type} {R : V → α → Prop} : ∀ {vs : List V} {xs : List α}, All2 R vs xs → vs.length = xs.length
  | _, _, .nil => rfl
  | _, _, .cons a b => by rw [List.length_cons, List.length_cons, All2.len b]
theorem All2.get {α : Type} {R : V → α → Prop} : ∀ {vs : List V} {xs : List α} {i : Nat} {v : V}, All2 R vs xs → vs[i]? = some v → ∃ x, xs[i]? = some x ∧ R v x
  | _, _, _, _, .nil, h => by simp at h
  | _, _, 0, _, .cons a b, h => by
    cases h
    exact ⟨_, rfl, a⟩
  | _, _, i + 1, _, .cons a b, h => All2.get (i := i) b h
abbrev Deed := Bool × Nat
def wordOf (b : Bool) : Str := if b then "pass" else "fall"
def DeedAt (K : PySem.W.Frag) (H : Hp) (v : V) (d : Deed) : Prop := ∃ p, v = .ref p ∧ SqT K H p [.str (wordOf d.1), .int (d.2 : Int)]
section
variable {K : PySem.W.Frag} {σ : L2.St} {H H' : Hp} {t : TT}
end
inductive MRun (L0 : List Cow) : List Cow → List Deed → Prop
  | nil : MRun L0 L0 []
  | pass {pre post : List Cow} {a b : Cow} {ds : List Deed} : MRun L0 (pre ++ a :: b :: post) ds → b.2.1 - a.2.2 > a.2.1 → MRun L0 (pre ++ (b.1, (b.2.1 - a.2.2, b.2.2)) :: a :: post) (ds ++ [(true, pre.length + 1)])
  | fall {pre post : List Cow} {a b : Cow} {ds : List Deed} : MRun L0 (pre ++ a :: b :: post) ds → a.2.1 > b.2.1 → MRun L0 (pre ++ b :: (a.1, (a.2.1 + b.2.2, a.2.2)) :: post) (ds ++ [(false, pre.length)])
structure WanAt (K : PySem.W.Frag) (H H' : Hp) (p : Addr) (q : Addr) (v' : V) (ot lp : Addr) (us : List V) (L : List Cow) (ds : List Deed) (n m : Nat) : Prop where
  ex : ExB p H H'
  bx : Bx H' p (n + m)
  q : H' q = some (.tup [v', .ref ot, .ref lp])
  row : RowAt K H' v' (rowsOf L)
  ord : H' ot = some (.tup (ordL L))
  lst : H' lp = some (.lst us)
  prs : All2 (DeedAt K H') us ds
end HH
set_option maxHeartbeats 4000000
namespace HH
open PySem PySem.Spec PyProof.Rows L2 Evl RZ
section
variable {X : Cx}
end
section
variable {K : PySem.W.Frag} {σ : L2.St} {H H' : Hp} {te : TE} {D : Ends} {tz tu : TS} {g : TG}
theorem et_yes : EvT tYes σ H true := fun H1 _ _ q => q H1 (Ex.refl H1)
theorem ev_any {bs : List Bool} (h : EvL te σ H (bs.map V.bl)) : Ev (tCB (rAny K) (tCons te tNil)) σ H (.bl (bs.any id)) := fun H1 e Q q =>
  h H1 e _ fun p H2 hp e2 h2 => ⟨p, bs, rfl, sq_of h2, q H2 e2⟩
theorem given_all (n : Nat) (f : Nat → Bool) : given n (fun _ => true) (fun i => V.bl (f i)) = ((List.range n).map f).map V.bl := by
  unfold given
  rw [List.filter_eq_self.mpr (fun _ _ => rfl), List.map_map]
  rfl
end
theorem empty_any (n : Nat) (f : Nat → Bool) (v : Nat → V) : (given n f v).isEmpty = !((List.range n).map f).any id := by
  unfold given
  rw [Bool.eq_iff_iff, List.isEmpty_iff, Bool.not_eq_true', ← Bool.not_eq_true, List.any_eq_true]
  constructor
  · intro h ⟨b, hb, hb2⟩
    obtain ⟨i, hi, rfl⟩ := List.mem_map.mp hb
    have h1 : v i ∈ ((List.range n).filter f).map v := List.mem_map_of_mem (f := v) (List.mem_filter.mpr ⟨hi, hb2⟩)
    rw [h] at h1
    cases h1
  · intro h
    cases hl : ((List.range n).filter f).map v with
    | nil => rfl
    | cons x r =>
      exfalso
      have h1 : x ∈ ((List.range n).filter f).map v := by
        rw [hl]
        exact List.mem_cons_self ..
      obtain ⟨i, hi, _⟩ := List.mem_map.mp h1
      obtain ⟨h2, h3⟩ := List.mem_filter.mp hi
      exact h ⟨f i, List.mem_map_of_mem (f := f) h2, h3⟩
theorem last_any (rs : HH.Row) : (HH.passL rs).isEmpty = !((List.range rs.length).map (letsN rs)).any id := empty_any ..
def spRight : Sp := fun vs H Q _ => ∃ (p : Addr), vs = [.ref p] ∧ Bx H p 0 ∧ ∀ H', ExB p H H' → Q (.bl true) H'
def spLaw (K : PySem.W.Frag) : Sp := fun vs H Q _ => ∃ (a : Addr) (ns : List Int), vs = [.ref a] ∧ SqL K H a (ns.map V.int) ∧ ns.length ≤ 63 ∧ ∀ H', Q (.bl true) H'
section
variable {K : PySem.W.Frag} {σ : L2.St} {H H' : Hp} {te t1 t2 : TE}
end
theorem q_call {sp : Sp} {dvs : List V} {E : XK} {ta : TA} {i : Nat} {D : Ends} {tz : TS} {σ : L2.St} {H : Hp} (h : ta σ H fun vs H1 => sp (vs ++ dvs) H1 (fun x H2 => tz D (σ.set i (some x)) H2) E) : tSeq (tAsg (tCall sp dvs E ta) (gName i)) tz D σ H := h
end HH
set_option maxHeartbeats 4000000
namespace HH
open PySem PySem.Spec PyProof.Rows L2 Evl RZ
inductive Bk where
  | val
  | run
  | look
  | over
namespace Bk
def nm : Bk → String
  | val => "ValueError"
  | run => "RuntimeError"
  | look => "LookupError"
  | over => "OverflowError"
def st : Bk → Str
  | val => "ValueError"
  | run => "RuntimeError"
  | look => "LookupError"
  | over => "OverflowError"
def nw : Bk → String
  | val => "ValueError.__new__"
  | run => "RuntimeError.__new__"
  | look => "LookupError.__new__"
  | over => "OverflowError.__new__"
def ini : Bk → String
  | val => "ValueError.__init__"
  | run => "RuntimeError.__init__"
  | look => "LookupError.__init__"
  | over => "OverflowError.__init__"
def mro : Bk → List Value
  | val => [.type "ValueError", .type "Exception", .type "BaseException", .type "object"]
  | run => [.type "RuntimeError", .type "Exception", .type "BaseException", .type "object"]
  | look => [.type "LookupError", .type "Exception", .type "BaseException", .type "object"]
  | over => [.type "OverflowError", .type "ArithmeticError", .type "Exception", .type "BaseException", .type "object"]
theorem base : (b : Bk) → ExcBaseFacts b.nm b.nw b.ini b.mro
  | val => F.excBase_ValueError
  | run => F.excBase_RuntimeError
  | look => F.excBase_LookupError
  | over => F.excBase_OverflowError
end Bk
structure ExcTy (K : PySem.W.Frag) (b : Bk) (f : Str) (C fI : Addr) : Prop where
  ok : PySem.W.excInitIn K C b.mro b.nw = true
  ov : PySem.W.excOver K C b.mro = true
  tk : PySem.W.takerIn K C f = some none
  hd : PySem.W.hasDictIn K C = true
  sa : PySem.W.findIn K (.ref C) "__setattr__" = some (some (.builtin "object.__setattr__"))
  ga : PySem.W.findIn K (.ref C) "__getattribute__" = some (some (.builtin "BaseException.__getattribute__"))
  gg : PySem.W.findIn K (.ref C) "__getattr__" = some none
  no : PySem.W.findIn K (.ref C) f = some none
  iC : PySem.W.findIn K (.ref C) "__init__" = some (some (.ref fI))
  ca : PySem.W.findIn K (.ref C) "__class__" = some (some (.builtin "object.__class__"))
  gs : PySem.W.specialIn K (.builtin "object.__class__") "__get__" = some (some (.builtin "getset_descriptor.__get__"))
  tI : PySem.W.typeIn K (.ref fI) = some (.type "function")
  kC : PySem.W.keepIn K (.ref C) = true
  ex : PySem.W.subIn K (.ref C) (.type "BaseException") = some true
  ty : PySem.W.typeIn K (.ref C) = some (.type "type")
  ts : PySem.W.takesIn K (.builtin "object.__class__") = some true
  mo : PySem.W.mroIn K C (.type "object") = some true
  bi : PySem.W.findCls K (.type b.nm) (.type "type") "__init__" = some (.val (.builtin b.ini))
section
variable {X : Cx} {pins : List (Addr × Obj)} {σ : L2.St} {H : Hp} {s : Shared} {a C fI : Addr} {f : Str} {b : Bk} {y : V} {u : Value} {A : Around} {E : Value → Shared → Prop}
end
def spIni (C : Addr) (f : Str) : Sp := fun vs H Q _ => ∃ (a : Addr) (v : V), vs = [.ref a, v] ∧ H a = some (exo a C none) ∧ ∀ dx, H dx = none → dx ≠ a → Q .non (upd (upd H dx (exd dx [(f, v)])) a (exo a C (some dx)))
section
variable {X : Cx} {C fI : Addr} {f : Str} {b : Bk}
end
end HH
set_option maxHeartbeats 4000000
namespace HH
open PySem PySem.Spec PyProof.Rows L2 Evl RZ
section
variable {X : Cx} {pins : List (Addr × Obj)} {σ : L2.St} {H : Hp} {s : Shared} {a : Addr} {oe : Obj} {cls : Value} {d : Option Addr} {vs : Array Value}
end
section
variable {X : Cx} {x1 x2 x3 x4 : Str} {c1 c2 c3 c4 : Value} {p1 p2 p3 p4 tp : Pos} {kk : Nat}
end
section
variable {X : Cx} {t : Expr} {n : Str} {i : Nat} {m : Value → Prop} {body suite : List Stmt} {b0 : Stmt} {pos pos' : Pos} {tb : WX → TS} {ts : Addr → Value → Option Addr → TS}
end
section
variable {X : Cx} {C fI : Addr} {f : Str} {b : Bk}
end
end HH
set_option maxHeartbeats 4000000
namespace HH
open PySem PySem.Spec PyProof.Rows L2 Evl RZ
structure FnG (P : Program) (w : World) (K : PySem.W.Frag) (mg : Str → Option Value) (base : Heap) (k : Nat) (f : Addr) (fd : FuncData) (ps : List Str) (sp : Sp) : Prop where
  len : ∀ vs H Q E, sp vs H Q E → vs.length = ps.length
  run : ∀ (A : Around) (outer : List Env) (s : Shared) (H : Hp) (args : Args) (us : List Value) (vs : List V) (Q : VK) (E : XK), A.guards = some [] → Room k A → Env0 P w K mg base A outer s H → BindsTo s fd args (ps.zip us) → Vals vs us → sp vs H Q E →
    codeAny (model P w) A (.call (.ref f) args) (CR CX0 outer P w H s Q E) s
theorem FnG.of {P : Program} {w : World} {K : PySem.W.Frag} {mg : Str → Option Value} {base : Heap} {k : Nat} {f : Addr} {x qual : Str} {params : Arguments} {body : List Stmt} {scope : Scope} {kws : List (Str × V)} {fd : FuncData} {N ps : List Str} {sp : Sp}
    (F : FunD K x qual params body scope [] kws f fd) (S : FnScope N ps scope) (len : ∀ vs H Q E, sp vs H Q E → vs.length = ps.length)
    (hbody : ∀ (cdv : Value) (A : Around) (outer : List Env) (s : Shared) (H : Hp) (vs : List V) (Q : VK) (E : XK), (A.deeper (envOfC qual scope s.heap.objs.size f cdv)).guards = some [] → Room k (A.deeper (envOfC qual scope s.heap.objs.size f cdv)) → sp vs H Q E →
      ∃ t, PSs (cxOf CX0 P w K mg base N qual scope f cdv A outer s H E) body t ∧ t { nx := fun _ H' => Q .non H', rt := Q } (start N vs) H) : FnG P w K mg base (k + 1) f fd ps sp := by
  obtain ⟨oc, od, dV, kV, doc, pm, an, cdv, ct, osl, rfl, lk, hcd, _, _⟩ := F.ex
  refine ⟨len, fun A outer s H args us vs Q E hg hr e0 hb r hsp => ?_⟩
  have inK : K.In s.heap := e0.mod.kin.keeps fun c o z => (e0.bs c o z).1
  have noL : s.heap.NoLimit := e0.mod.nolimit.keeps fun c o z => (e0.bs c o z).1
  have kinds : ∀ y ∈ ps.zip us, scope.names.lookup y.1 = some .local ∨ (scope.names.lookup y.1 = some .cell ∧ ((cellsFrom (s.heap.objs.size + 1) scope.names []).lookup y.1).isSome = true) := fun ⟨nm, v⟩ hy =>
    (S.par nm (List.of_mem_zip hy).1).elim .inl fun z => .inr ⟨z, PySem.W.cellsFrom_some _ _ _ (.inl z)⟩
  refine codeAny_call_function hr.depth (inK _ _ lk) rfl S.co S.gen rfl (PySem.W.codeRec_of inK hcd) (hb _ _ _ _ (wpAny_newFunctionEnv_cells S.kind kinds fun env he s1 x => ?_))
  subst he
  refine ⟨noL.keeps x.toInCall.keep, codeAny_func ?_⟩
  obtain ⟨t, ht, hq⟩ := hbody cdv A outer s H vs Q E hg (hr.deeper _) hsp
  have I0 := inv_start (CX := CX0) (E := E) S hr.hd e0 (len _ _ _ _ hsp) r x
  refine wpAny_mono (ht.run [] s1 (start N vs) H _ I0 hq) (fun fl s' hs => ?_) fun e s' hs => hs
  cases fl with
  | ret u =>
    obtain ⟨v, σ', H', J, rv, q⟩ := hs
    exact ⟨v, H', J.os, J.bare, J.base, J.hok, rv, q⟩
  | next =>
    obtain ⟨σ', H', J, q⟩ := hs
    exact ⟨.non, H', J.os, J.bare, J.base, J.hok, rfl, q⟩
  | brk => exact hs.elim fun _ z => z.elim fun _ z => z.2.elim
  | cont => exact hs.elim fun _ z => z.elim fun _ z => z.2.elim
structure HasG (P : Program) (w : World) (K : PySem.W.Frag) (mg : Str → Option Value) (base : Heap) (k : Nat) (x : Str) (ps : List Str) (sp : Sp) (f : Addr) (fd : FuncData) : Prop where
  G : FnG P w K mg base k f fd ps sp
  g : mg x = some (.ref f)
  kp : PySem.W.keepIn K (.ref f) = true
  b : Binds K fd ps []
section
variable {X : Cx}
end
end HH
set_option maxHeartbeats 4000000
namespace HH
open PySem PySem.Spec PyProof.Rows L2 Evl RZ
end HH
set_option maxHeartbeats 4000000
namespace HH
open PySem PySem.Spec PyProof.Rows L2 Evl RZ
section
variable {X : Cx}
def rGetN : V → V → Hp → VK → Prop := fun x y H Q => ∃ (l : Addr) (xs : List V) (j : Nat) (v : V), x = .ref l ∧ y = .int (j : Int) ∧ H l = some (.lst xs) ∧ xs[j]? = some v ∧ Q v H
theorem get_listN : PGet X rGetN := by
  intro pins s σ H o i ov iv Q I0 ro ri h
  obtain ⟨l, xs, j, v, rfl, rfl, hl, hv, q⟩ := h
  cases ro
  obtain ⟨t, rfl⟩ := ri
  obtain ⟨its, r, pl, hz⟩ := I0.list (SqL.of hl)
  obtain ⟨w, ew, rw'⟩ := r.get hv
  have hj : j < xs.length := (List.getElem?_eq_some_iff.mp hv).1
  have hn := line63
  exact wpAny_getItem_list pl.isList (Int.natCast_nonneg j) (by omega) (by simpa using ew) ⟨v, H, I0, rw', q⟩
end
def Step (L M : List Cow) : Prop := ∃ (pre post : List Cow) (a b : Cow), L = pre ++ a :: b :: post ∧ b.2.1 - a.2.2 > a.2.1 ∧ M = pre ++ (b.1, (b.2.1 - a.2.2, b.2.2)) :: a :: post
inductive Steps : List Cow → List Cow → Prop
  | refl (L : List Cow) : Steps L L
  | head {L M N : List Cow} : Step L M → Steps M N → Steps L N
theorem Steps.trans {L M N : List Cow} (h : Steps L M) (g : Steps M N) : Steps L N := by
  induction h with
  | refl => exact g
  | head s _ ih => exact .head s (ih g)
theorem Steps.one {L M : List Cow} (h : Step L M) : Steps L M := .head h (.refl M)
def Nf (L : List Cow) : Prop := ∀ M, ¬ Step L M
theorem Step.under {L M : List Cow} (pre post : List Cow) (h : Step L M) : Step (pre ++ L ++ post) (pre ++ M ++ post) := by
  obtain ⟨p, q, a, b, rfl, hp, rfl⟩ := h
  exact ⟨pre ++ p, q ++ post, a, b, by simp, hp, by simp⟩
theorem Steps.under {L M : List Cow} (pre post : List Cow) (h : Steps L M) : Steps (pre ++ L ++ post) (pre ++ M ++ post) := by
  induction h with
  | refl => exact .refl _
  | head s _ ih => exact .head (s.under pre post) ih
theorem three {a b c : Cow} (ta : 0 ≤ a.2.2) (tb : 0 ≤ b.2.2) (h1 : b.2.1 - a.2.2 > a.2.1) (h2 : c.2.1 - b.2.2 > b.2.1) :
    Steps [(b.1, (b.2.1 - a.2.2, b.2.2)), a, c] [(c.1, (c.2.1 - a.2.2 - b.2.2, c.2.2)), (b.1, (b.2.1 - a.2.2, b.2.2)), a] ∧ Steps [a, (c.1, (c.2.1 - b.2.2, c.2.2)), b] [(c.1, (c.2.1 - a.2.2 - b.2.2, c.2.2)), (b.1, (b.2.1 - a.2.2, b.2.2)), a] := by
  constructor
  · refine .head (M := [(b.1, (b.2.1 - a.2.2, b.2.2)), (c.1, (c.2.1 - a.2.2, c.2.2)), a]) ⟨[(b.1, (b.2.1 - a.2.2, b.2.2))], [], a, c, rfl, by omega, rfl⟩ (.one ⟨[], [a], (b.1, (b.2.1 - a.2.2, b.2.2)), (c.1, (c.2.1 - a.2.2, c.2.2)), rfl, by dsimp only; omega, rfl⟩)
  · have e : c.2.1 - a.2.2 - b.2.2 = c.2.1 - b.2.2 - a.2.2 := by omega
    rw [e]
    exact .head (M := [(c.1, (c.2.1 - b.2.2 - a.2.2, c.2.2)), a, b]) ⟨[], [b], a, (c.1, (c.2.1 - b.2.2, c.2.2)), rfl, by dsimp only; omega, rfl⟩ (.one ⟨[(c.1, (c.2.1 - b.2.2 - a.2.2, c.2.2))], [], a, b, rfl, h1, rfl⟩)
theorem splits {α : Type} : ∀ {p p' : List α} {a b a' b' : α} {q q' : List α}, p ++ a :: b :: q = p' ++ a' :: b' :: q' →
    (p = p' ∧ a = a' ∧ b = b' ∧ q = q') ∨ (∃ c, p' = p ++ [a] ∧ a' = b ∧ b' = c ∧ q = c :: q') ∨ (∃ c, p = p' ++ [a'] ∧ a = b' ∧ b = c ∧ q' = c :: q) ∨ (∃ m, p' = p ++ a :: b :: m ∧ q = m ++ a' :: b' :: q') ∨ (∃ m, p = p' ++ a' :: b' :: m ∧ q' = m ++ a :: b :: q)
  | [], [], _, _, _, _, _, _, h => by
    simp only [List.nil_append, List.cons.injEq] at h
    exact .inl ⟨rfl, h.1, h.2.1, h.2.2⟩
  | [], [x], a, b, a', b', q, q', h => by
    simp only [List.nil_append, List.cons_append, List.cons.injEq] at h
    exact .inr (.inl ⟨b', by simp [h.1], h.2.1.symm, rfl, h.2.2⟩)
  | [], x :: y :: m, a, b, a', b', q, q', h => by
    simp only [List.nil_append, List.cons_append, List.cons.injEq] at h
    exact .inr (.inr (.inr (.inl ⟨m, by simp [h.1, h.2.1], h.2.2⟩)))
  | [x], [], a, b, a', b', q, q', h => by
    simp only [List.nil_append, List.cons_append, List.cons.injEq] at h
    exact .inr (.inr (.inl ⟨b, by simp [h.1], h.2.1, rfl, h.2.2.symm⟩))
  | x :: y :: m, [], a, b, a', b', q, q', h => by
    simp only [List.nil_append, List.cons_append, List.cons.injEq] at h
    exact .inr (.inr (.inr (.inr ⟨m, by simp [h.1, h.2.1], h.2.2.symm⟩)))
  | x :: p, y :: p', a, b, a', b', q, q', h => by
    simp only [List.cons_append, List.cons.injEq] at h
    obtain ⟨rfl, h⟩ := h
    rcases splits h with ⟨rfl, k⟩ | ⟨c, rfl, k⟩ | ⟨c, rfl, k⟩ | ⟨m, rfl, k⟩ | ⟨m, rfl, k⟩
    · exact .inl ⟨rfl, k⟩
    · exact .inr (.inl ⟨c, rfl, k⟩)
    · exact .inr (.inr (.inl ⟨c, rfl, k⟩))
    · exact .inr (.inr (.inr (.inl ⟨m, rfl, k⟩)))
    · exact .inr (.inr (.inr (.inr ⟨m, rfl, k⟩)))
theorem near {L M N : List Cow} (ht : ∀ x ∈ L, 0 ≤ x.2.2) (h : Step L M) (g : Step L N) : ∃ J, Steps M J ∧ Steps N J := by
  obtain ⟨p, q, a, b, rfl, h1, rfl⟩ := h
  obtain ⟨p', q', a', b', e, h2, rfl⟩ := g
  rcases splits e with ⟨rfl, rfl, rfl, rfl⟩ | ⟨c, rfl, rfl, rfl, rfl⟩ | ⟨c, rfl, rfl, rfl, rfl⟩ | ⟨m, rfl, rfl⟩ | ⟨m, rfl, rfl⟩
  · exact ⟨_, .refl _, .refl _⟩
  · obtain ⟨s1, s2⟩ := three (a := a) (b := a') (c := b') (ht a (by simp)) (ht a' (by simp)) h1 h2
    refine ⟨p ++ [(b'.1, (b'.2.1 - a.2.2 - a'.2.2, b'.2.2)), (a'.1, (a'.2.1 - a.2.2, a'.2.2)), a] ++ q', ?_, ?_⟩
    · have := s1.under p q'
      simpa using this
    · have := s2.under p q'
      simpa using this
  · obtain ⟨s1, s2⟩ := three (a := a') (b := a) (c := b) (ht a' (by simp)) (ht a (by simp)) h2 h1
    refine ⟨p' ++ [(b.1, (b.2.1 - a'.2.2 - a.2.2, b.2.2)), (a.1, (a.2.1 - a'.2.2, a.2.2)), a'] ++ q, ?_, ?_⟩
    · have := s2.under p' q
      simpa using this
    · have := s1.under p' q
      simpa using this
  · refine ⟨p ++ (b.1, (b.2.1 - a.2.2, b.2.2)) :: a :: (m ++ (b'.1, (b'.2.1 - a'.2.2, b'.2.2)) :: a' :: q'), .one ⟨p ++ (b.1, (b.2.1 - a.2.2, b.2.2)) :: a :: m, q', a', b', by simp, h2, by simp⟩, .one ⟨p, m ++ (b'.1, (b'.2.1 - a'.2.2, b'.2.2)) :: a' :: q', a, b, by simp, h1, by simp⟩⟩
  · refine ⟨p' ++ (b'.1, (b'.2.1 - a'.2.2, b'.2.2)) :: a' :: (m ++ (b.1, (b.2.1 - a.2.2, b.2.2)) :: a :: q), .one ⟨p', m ++ (b.1, (b.2.1 - a.2.2, b.2.2)) :: a :: q, a', b', by simp, h2, by simp⟩, .one ⟨p' ++ (b'.1, (b'.2.1 - a'.2.2, b'.2.2)) :: a' :: m, q, a, b, by simp, h1, by simp⟩⟩
structure Good (L : List Cow) : Prop where
  tl : ∀ x ∈ L, 0 ≤ x.2.2
  nd : (L.map (·.1)).Nodup
  iv : PInv L
theorem Good.step {L M : List Cow} (g : Good L) (h : Step L M) : Good M ∧ asc (M.map (·.1)) < asc (L.map (·.1)) := by
  obtain ⟨p, q, a, b, rfl, h1, rfl⟩ := h
  obtain ⟨f1, f2, f3⟩ := facts_pass (n := (p ++ a :: b :: q).length) (ps := []) (q := (0, 0)) ⟨rfl, g.tl, g.nd, by
    have := asc_le ((p ++ a :: b :: q).map (·.1))
    rw [List.length_map] at this
    show 0 + _ ≤ _
    omega⟩ g.iv h1
  exact ⟨⟨f1.tl, f1.nd, f2⟩, f3⟩
theorem Good.steps {L M : List Cow} (g : Good L) (h : Steps L M) : Good M := by
  induction h with
  | refl => exact g
  | head s _ ih => exact ih (g.step s).1
theorem some_nf : ∀ (n : Nat) {L : List Cow}, Good L → asc (L.map (·.1)) ≤ n → ∃ N, Steps L N ∧ Nf N
  | n, L, g, h => by
    by_cases z : Nf L
    · exact ⟨L, .refl L, z⟩
    · have z' : ∃ M, Step L M := Classical.byContradiction fun e => z fun M s => e ⟨M, s⟩
      obtain ⟨M, s⟩ := z'
      obtain ⟨g2, lt⟩ := g.step s
      cases n with
      | zero => omega
      | succ n =>
        obtain ⟨N, s2, nf⟩ := some_nf n g2 (by omega)
        exact ⟨N, .head s s2, nf⟩
theorem one_nf : ∀ (n : Nat) {L N N' : List Cow}, Good L → asc (L.map (·.1)) ≤ n → Steps L N → Nf N → Steps L N' → Nf N' → N = N'
  | n, L, N, N', g, h, s, nf, s', nf' => by
    cases s with
    | refl =>
      cases s' with
      | refl => rfl
      | head t _ => exact (nf _ t).elim
    | @head _ M _ t u =>
      cases s' with
      | refl => exact (nf' _ t).elim
      | @head _ M' _ t' u' =>
        obtain ⟨J, j1, j2⟩ := near g.tl t t'
        obtain ⟨g2, l2⟩ := g.step t
        obtain ⟨g3, l3⟩ := g.step t'
        cases n with
        | zero => omega
        | succ n =>
          obtain ⟨O, so, nfo⟩ := some_nf _ (g2.steps j1) (Nat.le_refl _)
          have e1 := one_nf n g2 (by omega) u nf (j1.trans so) nfo
          have e2 := one_nf n g3 (by omega) u' nf' (j2.trans so) nfo
          rw [e1, e2]
theorem good_tag {rs : HH.Row} (h : ∀ b ∈ rs, 0 ≤ b.2) : Good (tag 0 rs) := ⟨(facts_tag h).tl, (facts_tag h).nd, pinv_tag 0 rs⟩
theorem Steps.snoc {L M N : List Cow} (h : Steps L M) (s : Step M N) : Steps L N := h.trans (.one s)
theorem PRun.steps {L0 L : List Cow} {ps : List (Int × Int)} (h : PRun L0 L ps) : Steps L0 L := by
  induction h with
  | nil => exact .refl _
  | step _ hp ih => exact ih.snoc ⟨_, _, _, _, rfl, hp, rfl⟩
theorem nf_of {L : List Cow} (h : HH.passL (rowsOf L) = []) : Nf L := by
  intro M s
  obtain ⟨p, q, a, b, rfl, hp, rfl⟩ := s
  have h1 : letsN (rowsOf (p ++ a :: b :: q)) (p.length + 1) = true := by
    rw [rows_mid, show p.length = (rowsOf p).length from (cow_len p).symm, lets_split]
    exact decide_eq_true hp
  have h2 : V.int ((p.length + 1 : Nat) : Int) ∈ HH.passL (rowsOf (p ++ a :: b :: q)) := by
    unfold HH.passL given
    refine List.mem_map_of_mem (f := fun i : Nat => V.int (i : Int)) (List.mem_filter.mpr ⟨List.mem_range.mpr ?_, h1⟩)
    rw [cow_len, List.length_append, List.length_cons, List.length_cons]
    omega
  rw [h] at h2
  cases h2
end HH
set_option maxHeartbeats 4000000
namespace HH
open PySem PySem.Spec PyProof.Rows L2 Evl RZ
def NfR : List Cow → Prop
  | [] => True
  | [_] => True
  | a :: b :: r => ¬ (b.2.1 - a.2.2 > a.2.1) ∧ NfR (b :: r)
theorem nfr_tail {a : Cow} {r : List Cow} (h : NfR (a :: r)) : NfR r := by
  cases r with
  | nil => exact True.intro
  | cons b r => exact h.2
theorem nfr_nf : ∀ {L : List Cow}, NfR L → Nf L := by
  intro L h M s
  obtain ⟨p, q, a, b, rfl, hp, rfl⟩ := s
  induction p with
  | nil => exact h.1 hp
  | cons x p ih => exact ih (nfr_tail h)
theorem nfr_in {w : Cow} : ∀ {A B : List Cow}, NfR (A ++ B) → (∀ x, A.getLast? = some x → ¬ (w.2.1 - x.2.2 > x.2.1)) → (∀ b r, B = b :: r → ¬ (b.2.1 - w.2.2 > w.2.1)) → NfR (A ++ w :: B)
  | [], [], _, _, _ => True.intro
  | [], b :: r, h, _, g => ⟨g b r rfl, h⟩
  | [x], B, h, f, g => ⟨f x rfl, by
    have := nfr_in (w := w) (A := []) (B := B) (nfr_tail h) (fun _ z => by cases z) g
    exact this⟩
  | x :: y :: A, B, h, f, g => ⟨h.1, nfr_in (A := y :: A) (B := B) h.2 (fun z hz => f z (by rw [List.getLast?_cons_cons]; exact hz)) g⟩
def idsV (N : List Cow) : List V := N.map fun x => V.int (x.1 : Int)
structure Kept (S T : List Int) (N : List Cow) : Prop where
  s : ∀ x ∈ N, S[x.1]? = some x.2.1
  t : ∀ x ∈ N, T[x.1]? = some x.2.2
def ExB2 (a b : Addr) (H H' : Hp) : Prop := ∀ c o, c ≠ a → c ≠ b → H c = some o → H' c = some o
def spPassAll : Sp := fun vs H Q _ => ∃ (l sa ta : Addr) (N : List Cow) (S T : List Int) (who : Nat) (s0 t0 : Int), vs = [.ref l, .ref sa, .ref ta, .int (who : Int)] ∧ H l = some (.lst (idsV N)) ∧ H sa = some (.lst (S.map V.int)) ∧ H ta = some (.lst (T.map V.int)) ∧ l ≠ sa ∧ l ≠ ta ∧ sa ≠ ta ∧ Kept S T N ∧ S[who]? = some s0 ∧ T[who]? = some t0 ∧ (∀ x ∈ N, x.1 ≠ who) ∧ N.length ≤ 1000 ∧ 0 ≤ t0 ∧ NfR N ∧
  ∀ (A B : List Cow) (s : Int) H', N = A ++ B → Steps (N ++ [(who, (s0, t0))]) (A ++ (who, (s, t0)) :: B) → NfR (A ++ (who, (s, t0)) :: B) → H' l = some (.lst (idsV (A ++ (who, (s, t0)) :: B))) → H' sa = some (.lst ((S.set who s).map V.int)) → ExB2 l sa H H' → Q .non H'
structure LastAt (K : PySem.W.Frag) (H : Hp) (q : Addr) (L : List Cow) : Prop where
  ex : ∃ (v : V) (ot : Addr), H q = some (.tup [v, .ref ot]) ∧ RowAt K H v (rowsOf L) ∧ H ot = some (.tup (ordL L))
theorem LastAt.mono {K : PySem.W.Frag} {H H' : Hp} {q : Addr} {L : List Cow} (h : LastAt K H q L) (e : Ex H H') : LastAt K H' q L := by
  obtain ⟨v, ot, h1, h2, h3⟩ := h.ex
  exact ⟨v, ot, e _ _ h1, h2.ex e, e _ _ h3⟩
section
variable {K : PySem.W.Frag} {σ : L2.St} {H H' : Hp} {te : TE} {v : V}
theorem getI {S : List Int} {j : Nat} {x : Int} (h : S[j]? = some x) : (S.map V.int)[j]? = some (.int x) := by
  rw [List.getElem?_map, h]
  rfl
theorem el_unzip {i j c : Nat} {vs : List Nat} {rs : HH.Row} (fst : Bool) (hr : RowAt K H v rs) (hl : rs.length ≤ 1000) (h : Ev te σ H v) (hw : ∀ x y, wipe (((wipe σ vs).set i (some x)).set j (some y)) vs = wipe σ vs) (hc : ∀ x y : V, (((wipe σ vs).set i (some x)).set j (some y))[c]? = some (some (if fst then x else y))) :
    EvL (tLc (iTup K te) (gTup K 2 (gCons (gName i) (gCons (gName j) gNil))) tYes (tVar c) vs) σ H (rs.map fun b => V.int (if fst then b.1 else b.2)) := fun H0 e Q q => by
  obtain ⟨a, us, rfl, ht, hb⟩ := hr
  refine h H0 e _ fun H1 e1 => ⟨a, rfl, ⟨us, ex_t (e.trans e1) ht⟩, fun Dl hD => ?_⟩
  refine lc_it (walk_tup (xs := us)) (fun k H2 => Ex H1 H2 ∧ H2 Dl = some (.lst ((rs.take k).map fun b => V.int (if fst then b.1 else b.2)))) ⟨Ex.new hD, upd_same⟩ (fun k H2 _ p => ex_t ((e.trans e1).trans p.1) ht) (fun k x H2 H3 hk p y => ?_) (fun H2 p => ?_)
  · obtain ⟨rfl, hx⟩ := y
    obtain ⟨p1, p2⟩ := p
    have hk' : k < rs.length := by rw [← hb.1]; exact hk
    obtain ⟨u, hu, bp, rfl, hbt⟩ := hb.2 k _ (List.getElem?_eq_getElem hk')
    rw [hx] at hu
    cases hu
    refine ⟨bp, _, rfl, ex_t ((e.trans e1).trans p1) hbt, rfl, _, _, rfl, _, _, rfl, rfl, hw _ _, ?_⟩
    refine ⟨_, hc _ _, _, p2, ?_, Ex.mut p1 hD, ?_⟩
    · rw [List.length_map, List.length_take]
      exact sz_lt (by omega)
    · rw [upd_same, List.take_add_one, List.getElem?_eq_getElem hk', List.map_append]
      cases fst <;> rfl
  · have e3 : rs.take us.length = rs := List.take_of_length_le (by rw [hb.1]; exact Nat.le_refl _)
    rw [e3] at p
    exact q Dl H2 (fresh_back e1 hD) (e1.trans p.1) p.2
end
theorem rows_get (rs : HH.Row) (k : Nat) (b : Int × Int) (h : rs[k]? = some b) : (rs.map (·.1))[k]? = some b.1 ∧ (rs.map (·.2))[k]? = some b.2 := by
  rw [List.getElem?_map, List.getElem?_map, h]
  exact ⟨rfl, rfl⟩
theorem tag_split : ∀ (k i : Nat) (rs : HH.Row) (b : Int × Int), rs[i]? = some b → tag (k + i) (rs.drop i) = (k + i, b) :: tag (k + i + 1) (rs.drop (i + 1))
  | k, 0, b' :: r, b, h => by
    cases h
    rfl
  | k, i + 1, c :: r, b, h => by
    have := tag_split (k + 1) i r b h
    show tag (k + (i + 1)) (r.drop i) = _
    rw [show k + (i + 1) = k + 1 + i by omega, this]
    rfl
  | _, 0, [], _, h => by cases h
  | _, _ + 1, [], _, h => by cases h
theorem set_self {α : Type} {S : List α} {k : Nat} {x : α} (h : S[k]? = some x) : S.set k x = S := by
  refine List.ext_getElem? fun i => ?_
  rw [List.getElem?_set]
  by_cases e : k = i
  · subst e
    rw [if_pos rfl, h, if_pos (List.getElem?_eq_some_iff.mp h).1]
  · rw [if_neg e]
theorem set_at {α : Type} {S : List α} {k : Nat} {x y : α} (h : S[k]? = some x) : (S.set k y)[k]? = some y := by
  rw [List.getElem?_set, if_pos rfl, if_pos (List.getElem?_eq_some_iff.mp h).1]
theorem set_off {α : Type} {S : List α} {k i : Nat} {y : α} (h : k ≠ i) : (S.set k y)[i]? = S[i]? := by
  rw [List.getElem?_set, if_neg h]
theorem idsV_at (A B : List Cow) (x : Cow) : (idsV (A ++ x :: B))[A.length]? = some (.int (x.1 : Int)) := by
  unfold idsV
  rw [List.map_append, List.getElem?_append_right (by rw [List.length_map]; exact Nat.le_refl _), List.length_map, Nat.sub_self]
  rfl
theorem idsV_len (A : List Cow) : (idsV A).length = A.length := List.length_map ..
theorem idsV_ins (A B : List Cow) (w : Cow) : (idsV (A ++ B)).take A.length ++ [.int (w.1 : Int)] ++ (idsV (A ++ B)).drop A.length = idsV (A ++ w :: B) := by
  unfold idsV
  rw [List.map_append, List.take_append_of_le_length (by rw [List.length_map]; exact Nat.le_refl _), List.drop_append_of_le_length (by rw [List.length_map]; exact Nat.le_refl _), List.take_of_length_le (by rw [List.length_map]; exact Nat.le_refl _), List.drop_of_length_le (by rw [List.length_map]; exact Nat.le_refl _), List.map_append, List.append_assoc]
  rfl
end HH
set_option maxHeartbeats 4000000
namespace HH
open PySem PySem.Spec PyProof.Rows L2 Evl RZ
section
variable {K : PySem.W.Frag} {σ : L2.St} {p : Addr} {ta tb te : TE} {D : Ends} {tz : TS}
def Dr (te : TE) (σ : L2.St) (p : Addr) (c : Nat) (P : Int → Prop) : Prop := ∀ (H : Hp) (n : Nat), Bx H p n → n + c < Lim → ∀ Q : VK, (∀ r H', P r → ExB p H H' → Bx H' p (n + c) → Q (.int r) H') → te σ H Q
theorem dr_c {i : Int} (h : ∀ H, Ev te σ H (.int i)) : Dr te σ p 0 (fun r => r = i) := fun H n hb hn Q q => h H H (Ex.refl H) Q fun H1 e1 => q i H1 rfl (.of e1) (hb.ex e1)
theorem dr_take {ib : Nat} {tm : TE} {E : XK} {m : Int} (hb : σ[ib]? = some (some (.ref p))) (hm : ∀ H, Ev tm σ H (.int m)) (h0 : 0 < m) (h1 : m < 1073741824) : Dr (tCall spTake [] E (tCons (tVar ib) (tCons tm tNil))) σ p 1 (fun r => 0 ≤ r ∧ r < m) := fun H n bx hn Q q =>
  ⟨.ref p, hb, hm H H (Ex.refl H) _ fun H1 e1 => ⟨p, m, n, rfl, h0, h1, bx.ex e1, by omega, fun r H2 r0 r1 x2 b2 => q r H2 ⟨r0, r1⟩ ((ExB.of e1).trans x2) b2⟩⟩
theorem dr_I {C : Int → Int → Prop} {g : Int → Int → Int} {c d : Nat} {P R S : Int → Prop} (ha : Dr ta σ p c P) (hb : Dr tb σ p d R) (h : ∀ i j, P i → R j → C i j ∧ S (g i j)) : Dr (tOp (rI C fun i j => .int (g i j)) ta tb) σ p (c + d) S := fun H n bx hn Q q =>
  ha H n bx (by omega) _ fun i H1 pi x1 b1 => hb H1 (n + c) b1 (by omega) _ fun j H2 rj x2 b2 => ⟨i, j, rfl, rfl, (h i j pi rj).1, q _ H2 (h i j pi rj).2 (x1.trans x2) (by rw [show n + (c + d) = n + c + d by omega]; exact b2)⟩
theorem dr_I0 {g : Int → Int → Int} {c d : Nat} {P R S : Int → Prop} (ha : Dr ta σ p c P) (hb : Dr tb σ p d R) (h : ∀ i j, P i → R j → S (g i j)) : Dr (tOp (rI0 fun i j => .int (g i j)) ta tb) σ p (c + d) S := fun H n bx hn Q q =>
  ha H n bx (by omega) _ fun i H1 pi x1 b1 => hb H1 (n + c) b1 (by omega) _ fun j H2 rj x2 b2 => ⟨i, j, rfl, rfl, q _ H2 (h i j pi rj) (x1.trans x2) (by rw [show n + (c + d) = n + c + d by omega]; exact b2)⟩
theorem q_asgDr {i c n : Nat} {P : Int → Prop} {H : Hp} (h : Dr te σ p c P) (hb : Bx H p n) (hn : n + c < Lim) (k : ∀ r H', P r → ExB p H H' → Bx H' p (n + c) → tz D (σ.set i (some (.int r))) H') : tSeq (tAsg te (gName i)) tz D σ H := h H n hb hn _ k
end
theorem ev_pow {σ : L2.St} {H : Hp} {a b c : Int} (h : CPow a b) (e : a ^ b.toNat = c) : Ev (tOp (rI CPow fun i j => .int (i ^ j.toNat)) (tC (.int a)) (tC (.int b))) σ H (.int c) := ev_is (ev_op ev_c ev_c (rv_I h)) (by rw [e])
end HH
set_option maxHeartbeats 4000000
namespace HH
open PySem PySem.Spec PyProof.Rows L2 Evl RZ
def beastD (b : Int × Int) : PyData := .tuple [.int b.1, .int b.2]
def rowD (rs : HH.Row) : PyData := .tuple (rs.map beastD)
theorem Beasts.uncons {K : PySem.W.Frag} {H : Hp} {v : V} {vs : List V} {b : Int × Int} {rs : HH.Row} (h : Beasts K H (v :: vs) (b :: rs)) : BeastAt K H v b ∧ Beasts K H vs rs := by
  refine ⟨?_, Nat.succ.inj h.1, fun i c hi => ?_⟩
  · obtain ⟨u, hu, g⟩ := h.2 0 b rfl
    cases hu
    exact g
  · obtain ⟨u, hu, g⟩ := h.2 (i + 1) c hi
    exact ⟨u, hu, g⟩
theorem beasts_dp {K : PySem.W.Frag} {H : Hp} : ∀ {vs : List V} {rs : HH.Row}, Beasts K H vs rs → DpAll K H vs (rs.map beastD)
  | [], [], _ => .nil
  | [], _ :: _, h => by cases h.1
  | _ :: _, [], h => by cases h.1
  | v :: vs, b :: rs, h => by
    obtain ⟨⟨p, rfl, hp⟩, h2⟩ := h.uncons
    exact .cons (.tup hp (.cons (.int _) (.cons (.int _) .nil))) (beasts_dp h2)
theorem RowAt.dp {K : PySem.W.Frag} {H : Hp} {v : V} {rs : HH.Row} (h : RowAt K H v rs) : ∃ a, v = .ref a ∧ Dp K H (.ref a) (rowD rs) := by
  obtain ⟨a, vs, rfl, h1, h2⟩ := h
  exact ⟨a, rfl, .tup h1 (beasts_dp h2)⟩
def Low (b : Int × Int) : Prop := b.1.natAbs < 10 ^ 18 ∧ b.2.natAbs < 10 ^ 18
theorem Tame.low {b : Int × Int} (h : Tame b) : Low b := by
  unfold Tame at h
  have e : (10 : Int) ^ 12 = 1000000000000 := by decide
  have e2 : (10 : Nat) ^ 18 = 1000000000000000000 := by decide
  rw [e] at h
  unfold Low
  rw [e2]
  omega
section
variable {K : PySem.W.Frag} {σ : L2.St} {H H' : Hp} {te : TE} {v : V}
end
theorem Alike.up {K : PySem.W.Frag} {H : Hp} : ∀ {d : Nat} {x y : V}, Alike K H d x y → Alike K H (d + 1) x y
  | 0, _, _, h => h.elim
  | d + 1, x, y, h => by
    rcases h with h | ⟨a, b, xs, ys, h1, h2, h3, h4, h5, h6⟩
    · exact .inl h
    · exact .inr ⟨a, b, xs, ys, h1, h2, h3, h4, h5, fun i u v hu hv => (h6 i u v hu hv).up⟩
def lastD (L : List Cow) : PyData := .tuple [rowD (rowsOf L), .tuple ((L.map fun x => (x.1 : Int)).map PyData.int)]
theorem LastAt.dp {K : PySem.W.Frag} {H : Hp} {p : Addr} {L : List Cow} (h : LastAt K H p L) : Dp K H (.ref p) (lastD L) := by
  obtain ⟨v, ot, h1, h2, h3⟩ := h.ex
  obtain ⟨a, rfl, hd⟩ := h2.dp
  have e : ordL L = (L.map fun x => (x.1 : Int)).map V.int := by
    unfold ordL
    rw [List.map_map]
    rfl
  rw [e] at h3
  exact .tup (st_of h1) (.cons hd (.cons (.tup (st_of h3) (dp_ints _)) .nil))
end HH
set_option maxHeartbeats 4000000
namespace HH
open PySem PySem.Spec PyProof.Rows L2 Evl RZ
def FStep (L M : List Cow) : Prop := ∃ (pre post : List Cow) (a b : Cow), L = pre ++ a :: b :: post ∧ a.2.1 > b.2.1 ∧ M = pre ++ b :: (a.1, (a.2.1 + b.2.2, a.2.2)) :: post
inductive FSteps : List Cow → List Cow → Prop
  | refl (L : List Cow) : FSteps L L
  | head {L M N : List Cow} : FStep L M → FSteps M N → FSteps L N
theorem FSteps.trans {L M N : List Cow} (h : FSteps L M) (g : FSteps M N) : FSteps L N := by
  induction h with
  | refl => exact g
  | head s _ ih => exact .head s (ih g)
theorem FSteps.one {L M : List Cow} (h : FStep L M) : FSteps L M := .head h (.refl M)
def Ff (L : List Cow) : Prop := ∀ M, ¬ FStep L M
theorem FStep.under {L M : List Cow} (pre post : List Cow) (h : FStep L M) : FStep (pre ++ L ++ post) (pre ++ M ++ post) := by
  obtain ⟨p, q, a, b, rfl, hp, rfl⟩ := h
  exact ⟨pre ++ p, q ++ post, a, b, by simp, hp, by simp⟩
theorem FSteps.under {L M : List Cow} (pre post : List Cow) (h : FSteps L M) : FSteps (pre ++ L ++ post) (pre ++ M ++ post) := by
  induction h with
  | refl => exact .refl _
  | head s _ ih => exact .head (s.under pre post) ih
theorem threeF {a b c : Cow} (tb : 0 ≤ b.2.2) (tc : 0 ≤ c.2.2) (h1 : a.2.1 > b.2.1) (h2 : b.2.1 > c.2.1) :
    FSteps [b, (a.1, (a.2.1 + b.2.2, a.2.2)), c] [c, (b.1, (b.2.1 + c.2.2, b.2.2)), (a.1, (a.2.1 + b.2.2 + c.2.2, a.2.2))] ∧ FSteps [a, c, (b.1, (b.2.1 + c.2.2, b.2.2))] [c, (b.1, (b.2.1 + c.2.2, b.2.2)), (a.1, (a.2.1 + b.2.2 + c.2.2, a.2.2))] := by
  constructor
  · exact .head (M := [b, c, (a.1, (a.2.1 + b.2.2 + c.2.2, a.2.2))]) ⟨[b], [], (a.1, (a.2.1 + b.2.2, a.2.2)), c, rfl, by dsimp only; omega, rfl⟩ (.one ⟨[], [(a.1, (a.2.1 + b.2.2 + c.2.2, a.2.2))], b, c, rfl, h2, rfl⟩)
  · have e : a.2.1 + b.2.2 + c.2.2 = a.2.1 + c.2.2 + b.2.2 := by omega
    rw [e]
    exact .head (M := [c, (a.1, (a.2.1 + c.2.2, a.2.2)), (b.1, (b.2.1 + c.2.2, b.2.2))]) ⟨[], [(b.1, (b.2.1 + c.2.2, b.2.2))], a, c, rfl, by omega, rfl⟩ (.one ⟨[c], [], (a.1, (a.2.1 + c.2.2, a.2.2)), (b.1, (b.2.1 + c.2.2, b.2.2)), rfl, by dsimp only; omega, rfl⟩)
theorem nearF {L M N : List Cow} (ht : ∀ x ∈ L, 0 ≤ x.2.2) (h : FStep L M) (g : FStep L N) : ∃ J, FSteps M J ∧ FSteps N J := by
  obtain ⟨p, q, a, b, rfl, h1, rfl⟩ := h
  obtain ⟨p', q', a', b', e, h2, rfl⟩ := g
  rcases splits e with ⟨rfl, rfl, rfl, rfl⟩ | ⟨c, rfl, rfl, rfl, rfl⟩ | ⟨c, rfl, rfl, rfl, rfl⟩ | ⟨m, rfl, rfl⟩ | ⟨m, rfl, rfl⟩
  · exact ⟨_, .refl _, .refl _⟩
  · obtain ⟨s1, s2⟩ := threeF (a := a) (b := a') (c := b') (ht a' (by simp)) (ht b' (by simp)) h1 h2
    refine ⟨p ++ [b', (a'.1, (a'.2.1 + b'.2.2, a'.2.2)), (a.1, (a.2.1 + a'.2.2 + b'.2.2, a.2.2))] ++ q', ?_, ?_⟩
    · have := s1.under p q'
      simpa using this
    · have := s2.under p q'
      simpa using this
  · obtain ⟨s1, s2⟩ := threeF (a := a') (b := a) (c := b) (ht a (by simp)) (ht b (by simp)) h2 h1
    refine ⟨p' ++ [b, (a.1, (a.2.1 + b.2.2, a.2.2)), (a'.1, (a'.2.1 + a.2.2 + b.2.2, a'.2.2))] ++ q, ?_, ?_⟩
    · have := s2.under p' q
      simpa using this
    · have := s1.under p' q
      simpa using this
  · refine ⟨p ++ b :: (a.1, (a.2.1 + b.2.2, a.2.2)) :: (m ++ b' :: (a'.1, (a'.2.1 + b'.2.2, a'.2.2)) :: q'), .one ⟨p ++ b :: (a.1, (a.2.1 + b.2.2, a.2.2)) :: m, q', a', b', by simp, h2, by simp⟩, .one ⟨p, m ++ b' :: (a'.1, (a'.2.1 + b'.2.2, a'.2.2)) :: q', a, b, by simp, h1, by simp⟩⟩
  · refine ⟨p' ++ b' :: (a'.1, (a'.2.1 + b'.2.2, a'.2.2)) :: (m ++ b :: (a.1, (a.2.1 + b.2.2, a.2.2)) :: q), .one ⟨p', m ++ b :: (a.1, (a.2.1 + b.2.2, a.2.2)) :: q, a', b', by simp, h2, by simp⟩, .one ⟨p' ++ b' :: (a'.1, (a'.2.1 + b'.2.2, a'.2.2)) :: m, q, a, b, by simp, h1, by simp⟩⟩
structure FGood (L : List Cow) : Prop where
  tl : ∀ x ∈ L, 0 ≤ x.2.2
  nd : (L.map (·.1)).Nodup
  iv : FInv L
theorem FGood.step {L M : List Cow} (g : FGood L) (h : FStep L M) : FGood M ∧ asc (M.map (·.1)) < asc (L.map (·.1)) := by
  obtain ⟨p, q, a, b, rfl, h1, rfl⟩ := h
  obtain ⟨f1, f2, f3⟩ := facts_fall (n := (p ++ a :: b :: q).length) (ps := []) (q := (0, 0)) ⟨rfl, g.tl, g.nd, by
    have := asc_le ((p ++ a :: b :: q).map (·.1))
    rw [List.length_map] at this
    show 0 + _ ≤ _
    omega⟩ g.iv h1
  exact ⟨⟨f1.tl, f1.nd, f2⟩, f3⟩
theorem FGood.steps {L M : List Cow} (g : FGood L) (h : FSteps L M) : FGood M := by
  induction h with
  | refl => exact g
  | head s _ ih => exact ih (g.step s).1
theorem some_ff : ∀ (n : Nat) {L : List Cow}, FGood L → asc (L.map (·.1)) ≤ n → ∃ N, FSteps L N ∧ Ff N
  | n, L, g, h => by
    by_cases z : Ff L
    · exact ⟨L, .refl L, z⟩
    · have z' : ∃ M, FStep L M := Classical.byContradiction fun e => z fun M s => e ⟨M, s⟩
      obtain ⟨M, s⟩ := z'
      obtain ⟨g2, lt⟩ := g.step s
      cases n with
      | zero => omega
      | succ n =>
        obtain ⟨N, s2, nf⟩ := some_ff n g2 (by omega)
        exact ⟨N, .head s s2, nf⟩
theorem one_ff : ∀ (n : Nat) {L N N' : List Cow}, FGood L → asc (L.map (·.1)) ≤ n → FSteps L N → Ff N → FSteps L N' → Ff N' → N = N'
  | n, L, N, N', g, h, s, nf, s', nf' => by
    cases s with
    | refl =>
      cases s' with
      | refl => rfl
      | head t _ => exact (nf _ t).elim
    | @head _ M _ t u =>
      cases s' with
      | refl => exact (nf' _ t).elim
      | @head _ M' _ t' u' =>
        obtain ⟨J, j1, j2⟩ := nearF g.tl t t'
        obtain ⟨g2, l2⟩ := g.step t
        obtain ⟨g3, l3⟩ := g.step t'
        cases n with
        | zero => omega
        | succ n =>
          obtain ⟨O, so, nfo⟩ := some_ff _ (g2.steps j1) (Nat.le_refl _)
          have e1 := one_ff n g2 (by omega) u nf (j1.trans so) nfo
          have e2 := one_ff n g3 (by omega) u' nf' (j2.trans so) nfo
          rw [e1, e2]
theorem fgood_tag {rs : HH.Row} (h : ∀ b ∈ rs, 0 ≤ b.2) : FGood (tag 0 rs) := ⟨(facts_tag h).tl, (facts_tag h).nd, finv_tag 0 rs⟩
theorem FSteps.snoc {L M N : List Cow} (h : FSteps L M) (s : FStep M N) : FSteps L N := h.trans (.one s)
theorem FRun.steps {L0 L : List Cow} {ps : List (Int × Int)} (h : FRun L0 L ps) : FSteps L0 L := by
  induction h with
  | nil => exact .refl _
  | step _ hp ih => exact ih.snoc ⟨_, _, _, _, rfl, hp, rfl⟩
def FfR : List Cow → Prop
  | [] => True
  | [_] => True
  | a :: b :: r => ¬ (a.2.1 > b.2.1) ∧ FfR (b :: r)
theorem ffr_tail {a : Cow} {r : List Cow} (h : FfR (a :: r)) : FfR r := by
  cases r with
  | nil => exact True.intro
  | cons b r => exact h.2
theorem ffr_ff : ∀ {L : List Cow}, FfR L → Ff L := by
  intro L h M s
  obtain ⟨p, q, a, b, rfl, hp, rfl⟩ := s
  induction p with
  | nil => exact h.1 hp
  | cons x p ih => exact ih (ffr_tail h)
theorem ffr_in {w : Cow} : ∀ {A B : List Cow}, FfR (A ++ B) → (∀ x, A.getLast? = some x → ¬ (x.2.1 > w.2.1)) → (∀ b r, B = b :: r → ¬ (w.2.1 > b.2.1)) → FfR (A ++ w :: B)
  | [], [], _, _, _ => True.intro
  | [], b :: r, h, _, g => ⟨g b r rfl, h⟩
  | [x], B, h, f, g => ⟨f x rfl, by
    have := ffr_in (w := w) (A := []) (B := B) (ffr_tail h) (fun _ z => by cases z) g
    exact this⟩
  | x :: y :: A, B, h, f, g => ⟨h.1, ffr_in (A := y :: A) (B := B) h.2 (fun z hz => f z (by rw [List.getLast?_cons_cons]; exact hz)) g⟩
theorem ff_ffr : ∀ {L : List Cow}, Ff L → FfR L
  | [], _ => True.intro
  | [_], _ => True.intro
  | a :: b :: r, h => ⟨fun z => h _ ⟨[], r, a, b, rfl, z, rfl⟩, ff_ffr fun M s => h (a :: M) (by
    have := s.under [a] []
    simpa using this)⟩
def spFallAll : Sp := fun vs H Q _ => ∃ (l sa ta : Addr) (N : List Cow) (S T : List Int) (who : Nat) (s0 t0 : Int), vs = [.ref l, .ref sa, .ref ta, .int (who : Int)] ∧ H l = some (.lst (idsV N)) ∧ H sa = some (.lst (S.map V.int)) ∧ H ta = some (.lst (T.map V.int)) ∧ l ≠ sa ∧ l ≠ ta ∧ sa ≠ ta ∧ Kept S T N ∧ S[who]? = some s0 ∧ T[who]? = some t0 ∧ (∀ x ∈ N, x.1 ≠ who ∧ 0 ≤ x.2.2) ∧ N.length ≤ 1000 ∧ FfR N ∧
  ∀ (A B : List Cow) (s : Int) H', N = A ++ B → FSteps ((who, (s0, t0)) :: N) (A ++ (who, (s, t0)) :: B) → FfR (A ++ (who, (s, t0)) :: B) → H' l = some (.lst (idsV (A ++ (who, (s, t0)) :: B))) → H' sa = some (.lst ((S.set who s).map V.int)) → ExB2 l sa H H' → Q .non H'
theorem tag_snoc : ∀ (j : Nat) (rs : HH.Row) (b : Int × Int), tag j (rs ++ [b]) = tag j rs ++ [(j + rs.length, b)]
  | j, [], b => rfl
  | j, c :: r, b => by
    show (j, c) :: tag (j + 1) (r ++ [b]) = (j, c) :: (tag (j + 1) r ++ [(j + (r.length + 1), b)])
    rw [tag_snoc, show j + 1 + r.length = j + (r.length + 1) by omega]
theorem tag_take {rs : HH.Row} {k : Nat} {b : Int × Int} (h : rs[k]? = some b) : tag 0 (rs.take (k + 1)) = tag 0 (rs.take k) ++ [(k, b)] := by
  have hk := (List.getElem?_eq_some_iff.mp h).1
  rw [List.take_add_one, h]
  show tag 0 (rs.take k ++ [b]) = _
  rw [tag_snoc, List.length_take, Nat.zero_add, Nat.min_eq_left (by omega)]
section
variable {K : PySem.W.Frag} {σ : L2.St} {H : Hp} {D : Ends} {tz tu : TS}
theorem q_forRev {te : TE} {j n : Nat} (h : Ev te σ H (.int (n : Int))) (hn : n ≤ 100000) (Pv : Nat → L2.St → Hp → Prop) (h0 : ∀ H1, Ex H H1 → Pv 0 σ H1)
    (hs : ∀ i σ' H', i < n → Pv i σ' H' → tu { D with nx := Pv (i + 1), ct := Pv (i + 1), bk := tz D } (σ'.set j (some (.int ((n - 1 - i : Nat) : Int)))) H') (hd : ∀ σ' H', Pv n σ' H' → tz D σ' H') : tSeq (tFor (iRevR (tRg1 te)) (gName j) tu) tz D σ H :=
  h H (Ex.refl H) _ fun H1 e => ⟨(n : Int), rfl, by omega, by omega, by omega, by omega, by
    rw [show ((n : Int) - 0).toNat = n by omega]
    refine for_rangeC (D := { D with nx := tz D }) Pv (h0 H1 e) (fun i σ' H' hi p => ?_) hd
    rw [show (0 : Int) + ((n : Nat) : Int) - 1 + ((i : Nat) : Int) * (-1) = ((n - 1 - i : Nat) : Int) by omega]
    exact hs i σ' H' hi p⟩
end
end HH
set_option maxHeartbeats 4000000
namespace PySem
open Sem (wp)
open AutoSeq1 (wpAny_loadPart')
theorem meets_enum_newT (t : Addr) (items : Array Value) (n : Nat) (dct : Option Addr) (sl : Array (Option Value)) :
    Meets (Builtin.«enumerate.__new__» ⟨[.type "enumerate", .ref t], []⟩) (fun _ R s => s.heap.get? t = some { cls := .type "tuple", dict := dct, data := .seq items n, slots := sl } ∧
      R (.ok (.ret (.ref (s.heap.push { cls := .type "tuple_iterator", data := .fields #[.ref t, .int 0 0] }).objs.size)))
        { s with heap := (s.heap.push { cls := .type "tuple_iterator", data := .fields #[.ref t, .int 0 0] }).push { cls := .type "enumerate", data := .fields #[.none, .bool false, .ref s.heap.objs.size, rawInt 0, .none, .none] } }) :=
  .of_wp fun prog w A R s h => by
    obtain ⟨hp, g, d, tk, os⟩ := s; obtain ⟨hl, h⟩ := h
    have hsub := sub_enumerate
    have hT : Heap.IsTuple (Shared.heap ⟨hp, g, d, tk, os⟩) t items := ⟨_, hl, rfl, n, rfl⟩
    wp_walk using wpAny_loadPart' hl
    refine wpAny_stack_any fun st => wpAny_pure ?_
    split
    · rename_i c _ _ _ _ _
      cases (c == Value.type "enumerate")
      · wp_walk using wpAny_loadPart' hl, wpAny_pyIter_tuple hT
        exact ⟨_, rfl, h⟩
      · wp_walk using wpAny_loadPart' hl, wpAny_pyIter_tuple hT
        exact ⟨_, rfl, h⟩
    · wp_walk using wpAny_loadPart' hl, wpAny_pyIter_tuple hT
      exact ⟨_, rfl, h⟩
section
variable {prog : Program} {w : World} {A : Around} {E : Value → Shared → Prop} {s : Shared}
theorem call_enum_tuple {t : Addr} {items : Array Value} {Q : Value → Shared → Prop} (hL : s.heap.IsTuple t items)
    (h : ∀ h', IsEnum h' (s.heap.objs.size + 1) s.heap.objs.size 0 .none → h'.IsTupleIter s.heap.objs.size t 0 → h'.objs.size = s.heap.objs.size + 2 →
      (∀ b o, s.heap.get? b = some o → h'.get? b = some o) → Q (.ref (s.heap.objs.size + 1)) { s with heap := h' }) :
    wpAny (model prog w) A (call (.type "enumerate") [.ref t]) Q E s := by
  obtain ⟨⟨c, dct, dt, sl⟩, hl, hc, n, hd⟩ := hL
  replace hc : c = .type "tuple" := hc
  replace hd : dt = .seq items n := hd
  subst hc hd
  refine callType_new F.called_enumerate (by decide) (F.typeCall_enumerate_1 _) (F.newCall_enumerate_1 _) (fun obj => F.args_object_init_2 obj _) F.entry_enumerate_new
    (meets_enum_newT t items n dct sl) ⟨hl, ?_⟩
  have hz : (s.heap.push { cls := .type "tuple_iterator", data := .fields #[.ref t, .int 0 0] }).objs.size = s.heap.objs.size + 1 := Heap.size_push ..
  show _ ∧ _
  rw [hz]
  have he : IsEnum ((s.heap.push { cls := .type "tuple_iterator", data := .fields #[.ref t, .int 0 0] }).push
      { cls := .type "enumerate", data := .fields #[.none, .bool false, .ref s.heap.objs.size, rawInt 0, .none, .none] }) (s.heap.objs.size + 1) s.heap.objs.size 0 .none := by
    have := Heap.get?_push_size (s.heap.push { cls := .type "tuple_iterator", data := .fields #[.ref t, .int 0 0] })
      (o := { cls := .type "enumerate", data := .fields #[.none, .bool false, .ref s.heap.objs.size, rawInt 0, .none, .none] }) rfl
    rw [hz] at this; exact this
  refine ⟨⟨_, he, rfl⟩, h _ he ⟨_, Heap.get?_push_of_some _ (Heap.get?_push_size _ rfl), rfl, rfl⟩ (by rw [Heap.size_push, hz]) fun b o x => Heap.get?_push_of_some _ (Heap.get?_push_of_some _ x)⟩
end
end PySem
namespace HH
open PySem PySem.Spec PyProof.Rows L2 Evl RZ
def IteT (K : PySem.W.Frag) (a : Addr) : It :=
  ⟨fun i H => ∃ (xs : List V) (x : V), SqT K H a xs ∧ xs[i]? = some x, fun i H v H' => ∃ T x, v = .ref T ∧ H T = none ∧ H' = upd H T (.tup [.int (i : Nat), x]) ∧ ∀ xs, SqT K H a xs → xs[i]? = some x, fun i H => ∃ xs : List V, SqT K H a xs ∧ xs.length = i⟩
theorem turn_enumT {P : Program} {w : World} {K : PySem.W.Frag} {elts : List Expr} {kk : Nat} {tpos : Pos} (a e it : Addr) :
    Turn P w K (.Tuple elts kk tpos) (IteT K a) [e, it] e (fun i h => (∃ old, IsEnum h e it ((i : Nat) : Int) old) ∧ h.IsTupleIter it a i ∧ e ≠ it) where
  mem := by simp
  obj := fun i h st b hb => by
    obtain ⟨⟨old, he⟩, ⟨o, ho, hc, hd⟩, _⟩ := st
    have e' : b = e ∨ b = it := by simpa using hb
    rcases e' with z | z
    · rw [z]; exact ⟨_, he, fun v q => nomatch q⟩
    · rw [z]; exact ⟨o, ho, fun v q => by rw [hd] at q; cases q⟩
  keep := fun i h h' st k => let ⟨⟨old, he⟩, hi, hne⟩ := st; ⟨⟨old, k e (by simp) _ he⟩, hi.at fun o q => k it (by simp) o q, hne⟩
  item := by
    intro X hP hw hK hc i pins s σ H E I hf st hg
    subst hP hw hK
    obtain ⟨⟨old, he⟩, hit, hne⟩ := st
    obtain ⟨xs, x, hq, hx⟩ := hg
    obtain ⟨its, rv, p, hz⟩ := I.tuple hq
    obtain ⟨u, hu, ru⟩ := rv.get hx
    have hel : e < s.heap.objs.size := Heap.lt_size he
    have hil : it < s.heap.objs.size := by obtain ⟨_, q, _⟩ := hit; exact Heap.lt_size q
    have pT : s.heap.IsTuple a its.toArray := p
    have hHa : ∀ b ∈ [e, it], a ≠ b := fun b hb z => by
      obtain ⟨o, ho, hoc, _⟩ := (show s.heap.IsTuple a its.toArray from p)
      obtain ⟨o2, ho2, hc2, _⟩ := hit
      have e' : b = e ∨ b = it := by simpa using hb
      rcases e' with z' | z'
      · rw [z, z', he] at ho
        rw [← Option.some.inj ho] at hoc
        revert hoc
        simp
      · rw [z, z', ho2] at ho
        rw [← Option.some.inj ho, hc2] at hoc
        revert hoc
        simp
    have hae : a ≠ e := hHa e (by simp)
    have hai : a ≠ it := hHa it (by simp)
    have hlt : i < its.toArray.size := by
      have := (List.getElem?_eq_some_iff.mp hu).1
      simpa using this
    refine wpAny_pyNext_enum_itemD (Draws.tuple (A := X.A.in1) (I.ok.hd hc) it a hai its.toArray) he ⟨hit, pT⟩ hlt hne (by simp; exact ⟨hne, Ne.symm hae⟩) fun y h' tk hy ho hst hT hsz hk => ?_
    have hyu : y = u := by
      have : its.toArray[i]? = some u := by simpa using hu
      rw [hy] at this
      exact Option.some.inj this
    subst hyu
    obtain ⟨hit', _⟩ := hst
    refine ⟨_, rfl, wpAny_letOwnedTupleGo_enum (s := { s with heap := h', toks := tk + 1 }) ho fun h'' he' sb => ?_⟩
    have hT2 : h''.get? s.heap.objs.size = some { cls := .type "tuple", data := .seq #[.int i tk, y] } := (sb.2 _ (Nat.ne_of_gt hel)).trans hT
    have new : ObjOk X.prog X.w (upd H s.heap.objs.size (.tup [.int (i : Nat), x])) h'' s.heap.objs.size (.tup [.int (i : Nat), x]) :=
      ⟨by show 2 ≤ sizeLine; decide, [.int i tk, y], .cons ⟨_, rfl⟩ (.cons ru .nil), ⟨_, hT2, rfl, _, rfl⟩⟩
    have I1 : Inv X pins σ (upd H s.heap.objs.size (.tup [.int (i : Nat), x])) { s with heap := h'', toks := tk + 1 } :=
      I.turnedNew (ch := [e, it]) (fun b ob hb q => (sb.2 b (fun z => hb (by simp [z]))).trans (hk b ob (fun z => hb (by simp [z])) (fun z => hb (by simp [z])) q)) hf (Nat.le_refl _) new
    refine ⟨.ref s.heap.objs.size, _, I1, rfl, ⟨_, x, rfl, I.hok.fresh (Nat.le_refl _), rfl, fun ys hy => by rw [I.tuple_inj hy hq]; exact hx⟩, ⟨⟨y, ?_⟩, hit'.at fun o q => (sb.2 it (Ne.symm hne)).trans q, hne⟩, fun b hb => ?_⟩
    · have e1 : ((i + 1 : Nat) : Int) = (i : Int) + 1 := by omega
      rw [e1]; exact he'
    · have hb' : b < s.heap.objs.size := by
        have e' : b = e ∨ b = it := by simpa using hb
        rcases e' with z | z
        · rw [z]; exact hel
        · rw [z]; exact hil
      rw [upd_ne (Nat.ne_of_lt hb')]
      exact (hf b hb).1
  done := by
    intro X hP hw hK hc i pins s σ H E I hf st hg
    subst hP hw hK
    obtain ⟨⟨old, he⟩, hit, hne⟩ := st
    obtain ⟨xs, hq, hx⟩ := hg
    obtain ⟨its, rv, p, hz⟩ := I.tuple hq
    have hHa : ∀ b ∈ [e, it], a ≠ b := fun b hb z => by
      obtain ⟨o, ho, hoc, _⟩ := (show s.heap.IsTuple a its.toArray from p)
      obtain ⟨o2, ho2, hc2, _⟩ := hit
      have e' : b = e ∨ b = it := by simpa using hb
      rcases e' with z' | z'
      · rw [z, z', he] at ho
        rw [← Option.some.inj ho] at hoc
        revert hoc
        simp
      · rw [z, z', ho2] at ho
        rw [← Option.some.inj ho, hc2] at hoc
        revert hoc
        simp
    have hai : a ≠ it := hHa it (by simp)
    have pT : s.heap.IsTuple a its.toArray := p
    obtain ⟨f0, f1, f2, f3, f4, f5⟩ := hf it (by simp)
    have hl := rv.length
    have hn : its.toArray.size = i := by simp; omega
    exact wpAny_pyNext_enum_endD (Draws.tuple (A := X.A.in1) (I.ok.hd hc) it a hai its.toArray) he (by rw [hn]; exact ⟨hit, pT⟩) fun h' eb => ⟨rfl, I.turned (t' := s.toks) (fun b o hb q => eb b o hb q) f0 f1 f3 f4 f5⟩
  self := fun A i s Q E st h => let ⟨⟨_, he⟩, _⟩ := st; wpAny_pyIter_enum he h
def iEnumT (K : PySem.W.Frag) (ta : TA) : TI := fun σ H R => ta σ H fun vs H1 => ∃ a xs, vs = [.ref a] ∧ SqT K H1 a xs ∧ R (IteT K a) H1
theorem pi_enumT {X : Cx} {e : Expr} {ta : TA} {p pos tpos : Pos} {elts : List Expr} {kk : Nat} (hg : Gl X "enumerate") (hm : X.mg "enumerate" = none) (ha : PA X [e] ta) (hs : starEach [e] X.env = [(false, eval e X.env)] := by rfl) :
    PI X (.Tuple elts kk tpos) (.Call (.Name "enumerate" p) [e] [] pos) (iEnumT X.K ta) := by
  refine ⟨fun pins s σ H R I h => ?_⟩
  refine Call_ (ld_blt I hg hm boot_enumerate (PyProof.Rows.callWith_type1 (thn (ha.run pos pins s σ H _ I h) fun us s1 ⟨vs, H1, I1, r1, q1⟩ => ?_) hs rfl))
  obtain ⟨a, xs, ex, hq, q⟩ := q1
  subst ex
  cases r1 with
  | cons r rr =>
    cases rr
    cases r
    obtain ⟨its, rv, p', hz⟩ := I1.tuple hq
    refine call_enum_tuple (show s1.heap.IsTuple a its.toArray from p') fun h' he hit hsz hk => wpAny_pyIter_enum he ?_
    have I2 : Inv X pins σ H1 { s1 with heap := h' } := I1.kept (t' := s1.toks) hk
    refine ⟨s1.heap.objs.size + 1, [s1.heap.objs.size + 1, s1.heap.objs.size], _, _, H1, rfl, I2, turn_enumT a (s1.heap.objs.size + 1) s1.heap.objs.size, ⟨⟨.none, he⟩, hit, Nat.succ_ne_self _⟩, fun b hb => ?_, q⟩
    have e' : b = s1.heap.objs.size + 1 ∨ b = s1.heap.objs.size := by simpa using hb
    have hle : s1.heap.objs.size ≤ b := by
      rcases e' with z | z
      · rw [z]; exact Nat.le_add_right _ _
      · rw [z]; exact Nat.le_refl _
    exact I1.fpOk hle (I1.hok.fresh hle)
theorem walk_enumT {K : PySem.W.Frag} {a : Addr} {xs : List V} : Walk (IteT K a) xs.length (fun H => SqT K H a xs) (YPair (fun i => some (.int (i : Nat))) (fun i => xs[i]?)) := by
  refine ⟨fun i _ hi q => ⟨xs, xs[i], q, by simp [hi]⟩, fun _ q => ⟨xs, q, rfl⟩, fun i H v H' _ q y => ?_⟩
  obtain ⟨T, x, h1, h2, h3, h4⟩ := y
  exact ⟨T, .int (i : Nat), x, h1, h2, h3, rfl, h4 xs q⟩
end HH
set_option maxHeartbeats 4000000
namespace HH
open PySem PySem.Spec PyProof.Rows L2 Evl RZ
def bef : List Nat → Nat → Nat → Bool
  | [], _, _ => false
  | x :: r, j, i => (decide (x = j) && decide (i ∈ r)) || bef r j i
theorem bef_cons {x : Nat} {r : List Nat} {j i : Nat} : bef (x :: r) j i = true ↔ (x = j ∧ i ∈ r) ∨ bef r j i = true := by
  simp [bef]
theorem bef_mem : ∀ {l : List Nat} {j i : Nat}, bef l j i = true → j ∈ l ∧ i ∈ l
  | [], _, _, h => by cases h
  | x :: r, j, i, h => by
    rcases bef_cons.mp h with ⟨rfl, h1⟩ | h1
    · exact ⟨List.mem_cons_self .., List.mem_cons_of_mem _ h1⟩
    · exact ⟨List.mem_cons_of_mem _ (bef_mem h1).1, List.mem_cons_of_mem _ (bef_mem h1).2⟩
theorem bef_swap {a b i j : Nat} {B : List Nat} (hab : a < b) (hij : i < j) : ∀ A : List Nat, bef (A ++ b :: a :: B) j i = true ↔ bef (A ++ a :: b :: B) j i = true ∨ (i = a ∧ j = b)
  | [] => by
    rw [List.nil_append, List.nil_append, bef_cons, bef_cons, bef_cons, bef_cons, List.mem_cons, List.mem_cons]
    constructor
    · rintro (⟨h1, h2 | h2⟩ | ⟨h1, h2⟩ | h)
      · exact .inr ⟨h2, h1.symm⟩
      · exact .inl (.inr (.inl ⟨h1, h2⟩))
      · exact .inl (.inl ⟨h1, .inr h2⟩)
      · exact .inl (.inr (.inr h))
    · rintro ((⟨h1, h2 | h2⟩ | ⟨h1, h2⟩ | h) | ⟨h1, h2⟩)
      · omega
      · exact .inr (.inl ⟨h1, h2⟩)
      · exact .inl ⟨h1, .inr h2⟩
      · exact .inr (.inr h)
      · exact .inl ⟨h2.symm, .inl h1⟩
  | x :: A => by
    rw [List.cons_append, List.cons_append, bef_cons, bef_cons, bef_swap hab hij A]
    have e : i ∈ A ++ b :: a :: B ↔ i ∈ A ++ a :: b :: B := by
      rw [List.mem_append, List.mem_append, List.mem_cons, List.mem_cons, List.mem_cons, List.mem_cons]
      constructor
      · rintro (h | h | h | h)
        · exact .inl h
        · exact .inr (.inr (.inl h))
        · exact .inr (.inl h)
        · exact .inr (.inr (.inr h))
      · rintro (h | h | h | h)
        · exact .inl h
        · exact .inr (.inr (.inl h))
        · exact .inr (.inl h)
        · exact .inr (.inr (.inr h))
    rw [e]
    constructor
    · rintro (h | h | h)
      · exact .inl (.inl h)
      · exact .inl (.inr h)
      · exact .inr h
    · rintro ((h | h) | h)
      · exact .inl h
      · exact .inr (.inl h)
      · exact .inr (.inr h)
theorem bef_lt : ∀ {l : List Nat} {p q j i : Nat}, l[p]? = some j → l[q]? = some i → p < q → bef l j i = true
  | [], p, q, j, i, h, _, _ => by cases h
  | x :: r, 0, 0, j, i, _, _, h => absurd h (Nat.lt_irrefl 0)
  | x :: r, 0, q + 1, j, i, h1, h2, _ => by
    have e : x = j := Option.some.inj h1
    exact bef_cons.mpr (.inl ⟨e, List.mem_of_getElem? (i := q) h2⟩)
  | x :: r, p + 1, 0, j, i, _, _, h => absurd h (Nat.not_lt_zero _)
  | x :: r, p + 1, q + 1, j, i, h1, h2, h => bef_cons.mpr (.inr (bef_lt (l := r) (p := p) (q := q) h1 h2 (by omega)))
theorem bef_get : ∀ {l : List Nat} {j i : Nat}, bef l j i = true → ∃ p q : Nat, p < q ∧ l[p]? = some j ∧ l[q]? = some i
  | [], _, _, h => by cases h
  | x :: r, j, i, h => by
    rcases bef_cons.mp h with ⟨rfl, h1⟩ | h1
    · obtain ⟨q, hq⟩ := List.getElem?_of_mem h1
      exact ⟨0, q + 1, by omega, rfl, hq⟩
    · obtain ⟨p, q, h2, h3, h4⟩ := bef_get h1
      exact ⟨p + 1, q + 1, by omega, h3, h4⟩
theorem nd_at {l : List Nat} (nd : l.Nodup) {p q j : Nat} (h1 : l[p]? = some j) (h2 : l[q]? = some j) : p = q := by
  have hp := (List.getElem?_eq_some_iff.mp h1).1
  exact (List.getElem?_inj hp nd).mp (h1.trans h2.symm)
theorem bef_iff {l : List Nat} (nd : l.Nodup) {p q j i : Nat} (h1 : l[p]? = some j) (h2 : l[q]? = some i) : bef l j i = decide (p < q) := by
  by_cases h : p < q
  · rw [decide_eq_true h]
    exact bef_lt h1 h2 h
  · rw [decide_eq_false h]
    cases hb : bef l j i with
    | false => rfl
    | true =>
      obtain ⟨p', q', h3, h4, h5⟩ := bef_get hb
      have := nd_at nd h1 h4
      have := nd_at nd h2 h5
      omega
def inP (l : List Nat) (i : Nat) (k : Nat) : Bool := bef l (i + 1 + k) i
def tabR (l : List Nat) (n i m : Nat) : List (Int × Int) := ((List.range m).filter (inP l i)).map fun k => ((i : Int), ((i + 1 + k : Nat) : Int))
def tab (l : List Nat) (n m : Nat) : List (Int × Int) := (List.range m).flatMap fun i => tabR l n i (n - (i + 1))
theorem tabR_succ (l : List Nat) (n i m : Nat) : tabR l n i (m + 1) = tabR l n i m ++ (if inP l i m = true then [((i : Int), ((i + 1 + m : Nat) : Int))] else []) := by
  unfold tabR
  rw [List.range_succ, List.filter_append, List.map_append]
  by_cases h : inP l i m = true
  · rw [if_pos h, List.filter_cons_of_pos h]
    rfl
  · rw [if_neg h, List.filter_cons_of_neg h]
    rfl
theorem tab_succ (l : List Nat) (n m : Nat) : tab l n (m + 1) = tab l n m ++ tabR l n m (n - (m + 1)) := by
  unfold tab
  rw [List.range_succ, List.flatMap_append]
  simp
theorem mem_tab {l : List Nat} {n : Nat} {p : Int × Int} : p ∈ tab l n n ↔ ∃ i j : Nat, i < j ∧ j < n ∧ p = ((i : Int), (j : Int)) ∧ bef l j i = true := by
  unfold tab tabR
  rw [List.mem_flatMap]
  constructor
  · rintro ⟨i, hi, h⟩
    obtain ⟨k, hk, rfl⟩ := List.mem_map.mp h
    obtain ⟨h1, h2⟩ := List.mem_filter.mp hk
    have h3 := List.mem_range.mp h1
    exact ⟨i, i + 1 + k, by omega, by omega, rfl, h2⟩
  · rintro ⟨i, j, h1, h2, rfl, h3⟩
    refine ⟨i, List.mem_range.mpr (by omega), List.mem_map.mpr ⟨j - (i + 1), List.mem_filter.mpr ⟨List.mem_range.mpr (by omega), ?_⟩, ?_⟩⟩
    · unfold inP
      rw [show i + 1 + (j - (i + 1)) = j by omega]
      exact h3
    · rw [show i + 1 + (j - (i + 1)) = j by omega]
def lexL (p q : Int × Int) : Prop := p.1 < q.1 ∨ (p.1 = q.1 ∧ p.2 < q.2)
theorem pw_tabR (l : List Nat) (n i m : Nat) : (tabR l n i m).Pairwise lexL := by
  unfold tabR
  rw [List.pairwise_map]
  refine List.Pairwise.filter _ ?_
  refine List.pairwise_lt_range.imp fun {a b} h => .inr ⟨rfl, ?_⟩
  show ((i + 1 + a : Nat) : Int) < ((i + 1 + b : Nat) : Int)
  omega
theorem pw_tab (l : List Nat) (n : Nat) : ∀ m, (tab l n m).Pairwise lexL
  | 0 => .nil
  | m + 1 => by
    rw [tab_succ]
    refine List.pairwise_append.mpr ⟨pw_tab l n m, pw_tabR l n m _, fun p hp q hq => ?_⟩
    obtain ⟨i, hi, h⟩ := List.mem_flatMap.mp hp
    obtain ⟨k, _, rfl⟩ := List.mem_map.mp h
    obtain ⟨k', _, rfl⟩ := List.mem_map.mp hq
    have := List.mem_range.mp hi
    exact .inl (by show (i : Int) < (m : Int); omega)
theorem lex_irr (p : Int × Int) : ¬ lexL p p := fun h => by
  rcases h with h | h
  · omega
  · omega
theorem nd_tab (l : List Nat) (n m : Nat) : (tab l n m).Nodup := (pw_tab l n m).imp fun {a b} h (e : a = b) => lex_irr b (by rw [e] at h; exact h)
structure Told (n : Nat) (l : List Nat) (ps : List (Int × Int)) : Prop where
  mem : ∀ p, p ∈ ps ↔ ∃ i j : Nat, i < j ∧ p = ((i : Int), (j : Int)) ∧ bef l j i = true
  nd : ps.Nodup
theorem told_swap {n a b : Nat} {A B : List Nat} {ps : List (Int × Int)} (t : Told n (A ++ a :: b :: B) ps) (hab : a < b) (nd : (A ++ a :: b :: B).Nodup) : Told n (A ++ b :: a :: B) (ps ++ [((a : Int), (b : Int))]) := by
  refine ⟨fun p => ?_, ?_⟩
  · rw [List.mem_append, List.mem_singleton, t.mem]
    constructor
    · rintro (⟨i, j, h1, h2, h3⟩ | rfl)
      · exact ⟨i, j, h1, h2, (bef_swap hab h1 A).mpr (.inl h3)⟩
      · exact ⟨a, b, hab, rfl, (bef_swap hab hab A).mpr (.inr ⟨rfl, rfl⟩)⟩
    · rintro ⟨i, j, h1, h2, h3⟩
      rcases (bef_swap hab h1 A).mp h3 with h4 | ⟨rfl, rfl⟩
      · exact .inl ⟨i, j, h1, h2, h4⟩
      · exact .inr h2
  · refine List.nodup_append.mpr ⟨t.nd, by simp, fun x hx y hy e => ?_⟩
    rw [List.mem_singleton] at hy
    subst e hy
    obtain ⟨i, j, h1, h2, h3⟩ := (t.mem _).mp hx
    have e1 : a = i := by
      have := congrArg Prod.fst h2
      have : (a : Int) = (i : Int) := this
      omega
    have e2 : b = j := by
      have := congrArg Prod.snd h2
      have : (b : Int) = (j : Int) := this
      omega
    subst e1 e2
    have g1 : (A ++ a :: b :: B)[A.length]? = some a := by simp
    have g2 : (A ++ a :: b :: B)[A.length + 1]? = some b := by
      rw [List.getElem?_append_right (by omega), show A.length + 1 - A.length = 1 by omega]
      rfl
    rw [bef_iff nd g2 g1] at h3
    have := of_decide_eq_true h3
    omega
theorem bef_range' : ∀ (k n : Nat) {j i : Nat}, bef (List.range' k n) j i = true → j < i
  | k, 0, _, _, h => by cases h
  | k, n + 1, j, i, h => by
    rw [List.range'_succ] at h
    rcases bef_cons.mp h with ⟨rfl, h1⟩ | h1
    · have := (List.mem_range'_1.mp h1).1
      omega
    · exact bef_range' _ n h1
theorem told_nil (n : Nat) : Told n (List.range n) [] := by
  refine ⟨fun p => ⟨(fun h => by cases h), ?_⟩, .nil⟩
  rintro ⟨i, j, h1, _, h2⟩
  rw [List.range_eq_range'] at h2
  have := bef_range' 0 n h2
  omega
theorem told_tab {n : Nat} {l : List Nat} {ps : List (Int × Int)} (t : Told n l ps) (hl : ∀ x ∈ l, x < n) : ps.Perm (tab l n n) := by
  refine (List.perm_ext_iff_of_nodup t.nd (nd_tab l n n)).mpr fun p => ?_
  rw [t.mem, mem_tab]
  constructor
  · rintro ⟨i, j, h1, h2, h3⟩
    exact ⟨i, j, h1, hl _ (bef_mem h3).1, h2, h3⟩
  · rintro ⟨i, j, h1, h2, h3, h4⟩
    exact ⟨i, j, h1, h3, h4⟩
end HH
set_option maxHeartbeats 4000000
namespace HH
open PySem PySem.Spec PyProof.Rows L2 Evl RZ
theorem in_it {J : It} {n : Nat} {G : Hp → Prop} {Y : Nat → Hp → V → Hp → Prop} (w : Walk J n G Y) {Step : V → Hp → (Hp → Prop) → Prop} {H1 : Hp} {Qd : Hp → Prop} (Pv : Nat → Hp → Prop) (h0 : Pv 0 H1) (hG : ∀ i H, i ≤ n → Pv i H → G H)
    (hs : ∀ i x H H', i < n → Pv i H → Y i H x H' → Step x H' (Pv (i + 1))) (hd : ∀ H, Pv n H → Qd H) :
    ∃ W : Nat → Nat → Hp → Prop, (∃ m, W 0 m H1) ∧ ∀ i m H, W i m H →
      (J.stop i H ∧ Qd H) ∨ (J.go i H ∧ ∃ Nx : Hp → Prop, (∀ H', Nx H' → ∃ m', m' < m ∧ W (i + 1) m' H') ∧ ∀ x H', J.yld i H x H' → Step x H' Nx) := by
  refine ⟨fun i m H => m = n - i ∧ i ≤ n ∧ Pv i H, ⟨n, by simp, Nat.zero_le _, h0⟩, ?_⟩
  rintro i m H ⟨rfl, hi, p⟩
  have q := hG i H hi p
  by_cases hlt : i < n
  · refine .inr ⟨w.goes i H hlt q, Pv (i + 1), fun H' p' => ⟨n - (i + 1), by omega, rfl, hlt, p'⟩, fun x H' y => hs i x H H' hlt p (w.yields i H x H' hlt q y)⟩
  · have e : i = n := by omega
    subst e
    exact .inl ⟨w.stops H q, hd H p⟩
theorem PRun.told {rs : HH.Row} {L : List Cow} {ps : List (Int × Int)} (r : PRun (tag 0 rs) L ps) (ht : ∀ b ∈ rs, 0 ≤ b.2) : Told rs.length (L.map (·.1)) ps ∧ Facts rs.length L ps ∧ PInv L := by
  induction r with
  | nil =>
    refine ⟨?_, facts_tag ht, pinv_tag 0 rs⟩
    have e : (tag 0 rs).map (·.1) = List.range rs.length := by
      rw [tag_fst]
      have e : (fun x => 0 + x) = (id : Nat → Nat) := by
        funext x
        exact Nat.zero_add x
      rw [e, List.map_id]
    rw [e]
    exact told_nil _
  | step r hp ih =>
    rename_i pre post a b ps
    obtain ⟨t, f, i⟩ := ih
    have hab := pinv_lt i hp (nd_ne f.nd)
    obtain ⟨f1, f2, f3⟩ := facts_pass (q := ((a.1 : Int), (b.1 : Int))) f i hp
    refine ⟨?_, f1, f2⟩
    have e1 : (pre ++ a :: b :: post).map (·.1) = pre.map (·.1) ++ a.1 :: b.1 :: post.map (·.1) := by simp
    have e2 : (pre ++ (b.1, (b.2.1 - a.2.2, b.2.2)) :: a :: post).map (·.1) = pre.map (·.1) ++ b.1 :: a.1 :: post.map (·.1) := by simp
    have nd := f.nd
    rw [e1] at t nd
    rw [e2]
    exact told_swap t hab nd
theorem FRun.told {rs : HH.Row} {L : List Cow} {ps : List (Int × Int)} (r : FRun (tag 0 rs) L ps) (ht : ∀ b ∈ rs, 0 ≤ b.2) : Told rs.length (L.map (·.1)) ps ∧ Facts rs.length L ps ∧ FInv L := by
  induction r with
  | nil =>
    refine ⟨?_, facts_tag ht, finv_tag 0 rs⟩
    have e : (tag 0 rs).map (·.1) = List.range rs.length := by
      rw [tag_fst]
      have e : (fun x => 0 + x) = (id : Nat → Nat) := by
        funext x
        exact Nat.zero_add x
      rw [e, List.map_id]
    rw [e]
    exact told_nil _
  | step r hp ih =>
    rename_i pre post a b ps
    obtain ⟨t, f, i⟩ := ih
    have hab := finv_lt i hp (nd_ne f.nd)
    obtain ⟨f1, f2, f3⟩ := facts_fall (q := ((a.1 : Int), (b.1 : Int))) f i hp
    refine ⟨?_, f1, f2⟩
    have e1 : (pre ++ a :: b :: post).map (·.1) = pre.map (·.1) ++ a.1 :: b.1 :: post.map (·.1) := by simp
    have e2 : (pre ++ b :: (a.1, (a.2.1 + b.2.2, a.2.2)) :: post).map (·.1) = pre.map (·.1) ++ b.1 :: a.1 :: post.map (·.1) := by simp
    have nd := f.nd
    rw [e1] at t nd
    rw [e2]
    exact told_swap t hab nd
theorem Step.ids {L M : List Cow} (h : Step L M) : (M.map (·.1)).Perm (L.map (·.1)) := by
  obtain ⟨pre, post, a, b, rfl, _, rfl⟩ := h
  rw [List.map_append, List.map_append]
  exact List.Perm.append_left _ (List.Perm.swap ..)
theorem FStep.ids {L M : List Cow} (h : FStep L M) : (M.map (·.1)).Perm (L.map (·.1)) := by
  obtain ⟨pre, post, a, b, rfl, _, rfl⟩ := h
  rw [List.map_append, List.map_append]
  exact List.Perm.append_left _ (List.Perm.swap ..)
theorem Steps.ids {L M : List Cow} (h : Steps L M) : (M.map (·.1)).Perm (L.map (·.1)) := by
  induction h with
  | refl => exact .refl _
  | head s _ ih => exact ih.trans s.ids
theorem FSteps.ids {L M : List Cow} (h : FSteps L M) : (M.map (·.1)).Perm (L.map (·.1)) := by
  induction h with
  | refl => exact .refl _
  | head s _ ih => exact ih.trans s.ids
theorem tag_ids (rs : HH.Row) : (tag 0 rs).map (·.1) = List.range rs.length := by
  rw [tag_fst]
  have e : (fun x => 0 + x) = (id : Nat → Nat) := by
    funext x
    exact Nat.zero_add x
  rw [e, List.map_id]
def natsV (l : List Nat) : List V := l.map fun (x : Nat) => V.int (x : Int)
theorem ordL_nats (L : List Cow) : ordL L = natsV (L.map (·.1)) := by
  unfold ordL natsV
  rw [List.map_map]
  rfl
structure PlacesD (l : List Nat) (k : Nat) (kvs : List (Key × V)) : Prop where
  at' : ∀ i x : Nat, i < k → l[i]? = some x → valV kvs (.inl (x : Int)) = some (.int (i : Int))
  few : kvs.length ≤ k
theorem PlacesD.put {l : List Nat} (nd : l.Nodup) {k x : Nat} {kvs : List (Key × V)} (h : PlacesD l k kvs) (hx : l[k]? = some x) : PlacesD l (k + 1) (putK kvs (.inl (x : Int)) (.int (k : Int))) := by
  refine ⟨fun i y hi hy => ?_, ?_⟩
  · rw [valV_put]
    by_cases e : y = x
    · subst e
      have := nd_at nd hy hx
      subst this
      rw [if_pos rfl]
    · rw [if_neg (fun z => e (by
        have z' : (y : Int) = (x : Int) := Sum.inl.inj z
        omega))]
      refine h.at' i y ?_ hy
      rcases Nat.lt_or_ge i k with h1 | h1
      · exact h1
      · have h2 : i = k := by omega
        subst h2
        rw [hx] at hy
        exact absurd (Option.some.inj hy).symm e
  · have := length_putK kvs (.inl (x : Int)) (.int (k : Int))
    have := h.few
    omega
theorem room_u1 {k : Nat} {A : Around} (r : Room k A) : A.units + 1 < cLine := by
  have := r.un
  omega
theorem ev_lenT {K : PySem.W.Frag} {ta : TE} {σ : L2.St} {H : Hp} {a : Addr} {xs : List V} (h : Ev ta σ H (.ref a)) (hr : SqT K H a xs) : Ev (tCB (rLenS K) (tCons ta tNil)) σ H (.int (xs.length : Int)) := fun H1 e Q q => h H1 e _ fun H2 e2 => ⟨a, xs, rfl, Or.inr (ex_t (e.trans e2) hr), q H2 e2⟩
theorem ev_dget {td ty : TE} {σ : L2.St} {H : Hp} {a : Addr} {kvs : List (Key × V)} {k : Key} {v : V} (hd : Ev td σ H (.ref a)) (hy : Ev ty σ H (kV k)) (h : H a = some (.dK kvs)) (hv : valV kvs k = some v) : Ev (tDGet td ty) σ H v := fun H1 e Q q =>
  hd H1 e _ fun H2 e2 => hy H2 (e.trans e2) _ fun H3 e3 => ⟨a, v, rfl, by rw [← hv]; exact DGet.k (((e.trans e2).trans e3) _ _ h), q H3 (e2.trans e3)⟩
theorem tabR_len (l : List Nat) (n i m : Nat) : (tabR l n i m).length ≤ m := by
  unfold tabR
  rw [List.length_map]
  have := List.length_filter_le (inP l i) (List.range m)
  rw [List.length_range] at this
  exact this
theorem tab_len (l : List Nat) (n : Nat) : ∀ m, (tab l n m).length ≤ m * n
  | 0 => by
    show ([] : List (Int × Int)).length ≤ 0 * n
    simp
  | m + 1 => by
    rw [tab_succ, List.length_append, Nat.succ_mul]
    have := tab_len l n m
    have := tabR_len l n m (n - (m + 1))
    omega
theorem i_rng2 {ta : TA} {σ : L2.St} {H : Hp} {R : It → Hp → Prop} {i j : Int} (h : EvA ta σ H [.int i, .int j]) (b : -(2 ^ 62) ≤ i ∧ i < 2 ^ 62 ∧ -(2 ^ 62) ≤ j ∧ j < 2 ^ 62) (k : ∀ H1, Ex H H1 → R (Itr i (j - i).toNat) H1) : iRng2 ta σ H R := h H (Ex.refl H) _ fun H1 e => ⟨i, j, rfl, b, k H1 e⟩
theorem t_ev {t : TT} {σ : L2.St} {H : Hp} {b : Bool} {Q : Bool → Hp → Prop} (h : EvT t σ H b) (k : ∀ H1, Ex H H1 → Q b H1) : t σ H Q := h H (Ex.refl H) _ k
theorem t_yes {σ : L2.St} {H : Hp} {Q R : Hp → Prop} (h : Q H) : tYes σ H (fun b H1 => if b = true then Q H1 else R H1) := by
  show if true = true then Q H else R H
  rw [if_pos rfl]
  exact h
def toLast (L M : List Cow) : Prop := Steps L M ∧ NfR M
end HH
set_option maxHeartbeats 4000000
namespace HH
open PySem PySem.Spec PyProof.Rows L2 Evl RZ
theorem step_back {L M : List Cow} (h : Step L M) : FStep M L := by
  obtain ⟨pre, post, a, b, rfl, hp, rfl⟩ := h
  refine ⟨pre, post, _, a, rfl, hp, ?_⟩
  obtain ⟨bi, bs, bt⟩ := b
  show pre ++ a :: (bi, (bs, bt)) :: post = pre ++ a :: (bi, (bs - a.2.2 + a.2.2, bt)) :: post
  rw [Int.sub_add_cancel]
theorem fstep_back {L M : List Cow} (h : FStep L M) : Step M L := by
  obtain ⟨pre, post, a, b, rfl, hp, rfl⟩ := h
  refine ⟨pre, post, b, _, rfl, ?_, ?_⟩
  · show a.2.1 + b.2.2 - b.2.2 > b.2.1
    omega
  · obtain ⟨ai, as, at'⟩ := a
    show pre ++ (ai, (as, at')) :: b :: post = pre ++ (ai, (as + b.2.2 - b.2.2, at')) :: b :: post
    rw [Int.add_sub_cancel]
theorem FSteps.back {L M : List Cow} (h : FSteps L M) : Steps M L := by
  induction h with
  | refl => exact .refl _
  | head s _ ih => exact ih.snoc (fstep_back s)
theorem Steps.back {L M : List Cow} (h : Steps L M) : FSteps M L := by
  induction h with
  | refl => exact .refl _
  | head s _ ih => exact ih.snoc (step_back s)
def rl (f : Nat → Nat) (x : Cow) : Cow := (f x.1, x.2)
def rlL (f : Nat → Nat) (L : List Cow) : List Cow := L.map (rl f)
theorem rl_rows (f : Nat → Nat) (L : List Cow) : rowsOf (rlL f L) = rowsOf L := by
  unfold rowsOf rlL
  rw [List.map_map]
  rfl
theorem Step.map {L M : List Cow} (f : Nat → Nat) (h : Step L M) : Step (rlL f L) (rlL f M) := by
  obtain ⟨pre, post, a, b, rfl, hp, rfl⟩ := h
  exact ⟨rlL f pre, rlL f post, rl f a, rl f b, by simp [rlL], hp, by simp [rlL, rl]⟩
theorem Step.unmap {f : Nat → Nat} {L0 M : List Cow} (h : Step (rlL f L0) M) : ∃ M0, Step L0 M0 ∧ M = rlL f M0 := by
  obtain ⟨pre, post, a, b, h1, hp, rfl⟩ := h
  obtain ⟨p0, r0, rfl, rfl, h2⟩ := List.map_eq_append_iff.mp h1
  obtain ⟨a0, r1, rfl, rfl, h3⟩ := List.map_eq_cons_iff.mp h2
  obtain ⟨b0, r2, rfl, rfl, rfl⟩ := List.map_eq_cons_iff.mp h3
  exact ⟨_, ⟨p0, r2, a0, b0, rfl, hp, rfl⟩, by simp [rlL, rl]⟩
theorem FStep.map {L M : List Cow} (f : Nat → Nat) (h : FStep L M) : FStep (rlL f L) (rlL f M) := step_back ((fstep_back h).map f)
theorem Steps.map {L M : List Cow} (f : Nat → Nat) (h : Steps L M) : Steps (rlL f L) (rlL f M) := by
  induction h with
  | refl => exact .refl _
  | head s _ ih => exact .head (s.map f) ih
theorem FSteps.map {L M : List Cow} (f : Nat → Nat) (h : FSteps L M) : FSteps (rlL f L) (rlL f M) := by
  induction h with
  | refl => exact .refl _
  | head s _ ih => exact .head (s.map f) ih
theorem FStep.unmap {f : Nat → Nat} {L0 M : List Cow} (h : FStep (rlL f L0) M) : ∃ M0, FStep L0 M0 ∧ M = rlL f M0 := by
  obtain ⟨pre, post, a, b, h1, hp, rfl⟩ := h
  obtain ⟨p0, r0, rfl, rfl, h2⟩ := List.map_eq_append_iff.mp h1
  obtain ⟨a0, r1, rfl, rfl, h3⟩ := List.map_eq_cons_iff.mp h2
  obtain ⟨b0, r2, rfl, rfl, rfl⟩ := List.map_eq_cons_iff.mp h3
  exact ⟨_, ⟨p0, r2, a0, b0, rfl, hp, rfl⟩, by simp [rlL, rl]⟩
theorem Steps.unmap {f : Nat → Nat} {L M : List Cow} (h : Steps L M) : ∀ {L0 : List Cow}, L = rlL f L0 → ∃ M0, Steps L0 M0 ∧ M = rlL f M0 := by
  induction h with
  | refl => exact fun e => ⟨_, .refl _, e⟩
  | head s _ ih =>
    intro L0 e
    subst e
    obtain ⟨M1, s1, e1⟩ := s.unmap
    obtain ⟨M0, s0, e0⟩ := ih e1
    exact ⟨M0, .head s1 s0, e0⟩
theorem FSteps.unmap {f : Nat → Nat} {L M : List Cow} (h : FSteps L M) : ∀ {L0 : List Cow}, L = rlL f L0 → ∃ M0, FSteps L0 M0 ∧ M = rlL f M0 := by
  induction h with
  | refl => exact fun e => ⟨_, .refl _, e⟩
  | head s _ ih =>
    intro L0 e
    subst e
    obtain ⟨M1, s1, e1⟩ := s.unmap
    obtain ⟨M0, s0, e0⟩ := ih e1
    exact ⟨M0, .head s1 s0, e0⟩
theorem nf_un {f : Nat → Nat} {L : List Cow} (h : Nf (rlL f L)) : Nf L := fun M s => h _ (s.map f)
theorem ff_un {f : Nat → Nat} {L : List Cow} (h : Ff (rlL f L)) : Ff L := fun M s => h _ (s.map f)
theorem nf_map {f : Nat → Nat} {L : List Cow} (h : Nf L) : Nf (rlL f L) := fun M s => by
  obtain ⟨M0, s0, _⟩ := s.unmap
  exact h _ s0
theorem ff_map {f : Nat → Nat} {L : List Cow} (h : Ff L) : Ff (rlL f L) := fun M s => by
  obtain ⟨M0, s0, _⟩ := s.unmap
  exact h _ s0
def ixN (l : List Nat) (i : Nat) : Nat := (l[i]?).getD 0
theorem tag_at : ∀ (k i : Nat) (rs : HH.Row), (tag k rs)[i]? = (rs[i]?).map fun b => (k + i, b)
  | _, _, [] => rfl
  | k, 0, b :: r => rfl
  | k, i + 1, b :: r => by
    show (tag (k + 1) r)[i]? = (r[i]?).map _
    rw [tag_at (k + 1) i r]
    rw [show k + 1 + i = k + (i + 1) by omega]
theorem rl_tag (L : List Cow) : rlL (ixN (L.map (·.1))) (tag 0 (rowsOf L)) = L := by
  refine List.ext_getElem? fun i => ?_
  unfold rlL
  rw [List.getElem?_map, tag_at]
  unfold rowsOf
  rw [List.getElem?_map]
  cases h : L[i]? with
  | none => rfl
  | some x =>
    show some (rl (ixN (L.map (·.1))) (0 + i, x.2)) = some x
    unfold rl ixN
    rw [Nat.zero_add, List.getElem?_map, h]
    rfl
theorem tolls_rows {L : List Cow} (h : ∀ x ∈ L, 0 ≤ x.2.2) : ∀ b ∈ rowsOf L, 0 ≤ b.2 := fun b hb => by
  obtain ⟨x, hx, rfl⟩ := List.mem_map.mp hb
  exact h x hx
theorem nf_any {L N N' : List Cow} (ht : ∀ x ∈ L, 0 ≤ x.2.2) (s : Steps L N) (n : Nf N) (s' : Steps L N') (n' : Nf N') : N = N' := by
  obtain ⟨M, t, rfl⟩ := s.unmap (rl_tag L).symm
  obtain ⟨M', t', rfl⟩ := s'.unmap (rl_tag L).symm
  rw [one_nf _ (good_tag (tolls_rows ht)) (Nat.le_refl _) t (nf_un n) t' (nf_un n')]
theorem ff_any {L N N' : List Cow} (ht : ∀ x ∈ L, 0 ≤ x.2.2) (s : FSteps L N) (n : Ff N) (s' : FSteps L N') (n' : Ff N') : N = N' := by
  obtain ⟨M, t, rfl⟩ := s.unmap (rl_tag L).symm
  obtain ⟨M', t', rfl⟩ := s'.unmap (rl_tag L).symm
  rw [one_ff _ (fgood_tag (tolls_rows ht)) (Nat.le_refl _) t (ff_un n) t' (ff_un n')]
theorem nf_is {L : List Cow} (ht : ∀ x ∈ L, 0 ≤ x.2.2) : ∃ N, Steps L N ∧ Nf N := by
  obtain ⟨N, s, n⟩ := some_nf _ (good_tag (tolls_rows ht)) (Nat.le_refl _)
  have s' := s.map (ixN (L.map (·.1)))
  rw [rl_tag] at s'
  exact ⟨_, s', nf_map n⟩
theorem ff_is {L : List Cow} (ht : ∀ x ∈ L, 0 ≤ x.2.2) : ∃ N, FSteps L N ∧ Ff N := by
  obtain ⟨N, s, n⟩ := some_ff _ (fgood_tag (tolls_rows ht)) (Nat.le_refl _)
  have s' := s.map (ixN (L.map (·.1)))
  rw [rl_tag] at s'
  exact ⟨_, s', ff_map n⟩
theorem step_tl {L M : List Cow} (h : Step L M) (ht : ∀ x ∈ L, 0 ≤ x.2.2) : ∀ x ∈ M, 0 ≤ x.2.2 := by
  obtain ⟨pre, post, a, b, rfl, hp, rfl⟩ := h
  intro x hx
  simp only [List.mem_append, List.mem_cons] at hx
  rcases hx with h | h | h | h
  · exact ht x (by simp [h])
  · subst h
    exact ht b (by simp)
  · exact ht x (by simp [h])
  · exact ht x (by simp [h])
theorem fstep_tl {L M : List Cow} (h : FStep L M) (ht : ∀ x ∈ L, 0 ≤ x.2.2) : ∀ x ∈ M, 0 ≤ x.2.2 := by
  obtain ⟨pre, post, a, b, rfl, hp, rfl⟩ := h
  intro x hx
  simp only [List.mem_append, List.mem_cons] at hx
  rcases hx with h | h | h | h
  · exact ht x (by simp [h])
  · exact ht x (by simp [h])
  · subst h
    exact ht a (by simp)
  · exact ht x (by simp [h])
theorem Steps.tl {L M : List Cow} (h : Steps L M) (ht : ∀ x ∈ L, 0 ≤ x.2.2) : ∀ x ∈ M, 0 ≤ x.2.2 := by
  induction h with
  | refl => exact ht
  | head s _ ih => exact ih (step_tl s ht)
theorem FSteps.tl {L M : List Cow} (h : FSteps L M) (ht : ∀ x ∈ L, 0 ≤ x.2.2) : ∀ x ∈ M, 0 ≤ x.2.2 := by
  induction h with
  | refl => exact ht
  | head s _ ih => exact ih (fstep_tl s ht)
theorem ends_fstep {L M E : List Cow} (ht : ∀ x ∈ L, 0 ≤ x.2.2) (s : FStep L M) (h : FSteps L E) (n : Ff E) : FSteps M E := by
  obtain ⟨N, s1, n1⟩ := ff_is (fstep_tl s ht)
  rw [ff_any ht h n (.head s s1) n1]
  exact s1
theorem ends_step {L M E : List Cow} (ht : ∀ x ∈ L, 0 ≤ x.2.2) (s : Step L M) (h : Steps L E) (n : Nf E) : Steps M E := by
  obtain ⟨N, s1, n1⟩ := nf_is (step_tl s ht)
  rw [nf_any ht h n (.head s s1) n1]
  exact s1
theorem MRun.both {L0 L E B : List Cow} {ds : List Deed} (r : MRun L0 L ds) (ht : ∀ x ∈ L0, 0 ≤ x.2.2) (hE : Steps L0 E) (nE : Nf E) (hB : FSteps L0 B) (nB : Ff B) : (∀ x ∈ L, 0 ≤ x.2.2) ∧ Steps L E ∧ FSteps L B := by
  induction r with
  | nil => exact ⟨ht, hE, hB⟩
  | pass r hp ih =>
    rename_i pre post a b ds
    have s : Step (pre ++ a :: b :: post) (pre ++ (b.1, (b.2.1 - a.2.2, b.2.2)) :: a :: post) := ⟨_, _, _, _, rfl, hp, rfl⟩
    exact ⟨step_tl s ih.1, ends_step ih.1 s ih.2.1 nE, .head (step_back s) ih.2.2⟩
  | fall r hp ih =>
    rename_i pre post a b ds
    have s : FStep (pre ++ a :: b :: post) (pre ++ b :: (a.1, (a.2.1 + b.2.2, a.2.2)) :: post) := ⟨_, _, _, _, rfl, hp, rfl⟩
    exact ⟨fstep_tl s ih.1, .head (fstep_back s) ih.2.1, ends_fstep ih.1 s ih.2.2 nB⟩
end HH
set_option maxHeartbeats 4000000
namespace HH
open PySem PySem.Spec PyProof.Rows L2 Evl RZ
structure Thru (n : Nat) (l1 l2 y : List Nat) : Prop where
  p1 : l1.Perm (List.range n)
  p2 : l2.Perm (List.range n)
  py : y.Perm (List.range n)
  e : l2 = y.map (ixN l1)
  no : ∀ {a b : Nat}, a < b → bef l1 b a = true → bef l2 b a = true → False
end HH
set_option maxHeartbeats 4000000
namespace SrtO
open PySem PySem.Spec PyProof.Rows L2
section
variable {prog : Program} {w : World} {A : Around} {E : Value → Shared → Prop} {s : Shared}
end
end SrtO
namespace HH
open PySem PySem.Spec PyProof.Rows L2 Evl RZ
section
variable {X : Cx}
def pairOf (h : Heap) : Value → Int × Int
  | .ref t => match h.get? t with
    | some o => match o.data with
      | .seq its _ => match its.toList with
        | [.int a _, .int b _] => (a, b)
        | _ => (0, 0)
      | _ => (0, 0)
    | none => (0, 0)
  | _ => (0, 0)
theorem pairOf_is {pins : List (Addr × Obj)} {σ : L2.St} {H : Hp} {s : Shared} {x : V} {u : Value} {b : Int × Int} (I : Inv X pins σ H s) (r : RelV x u) (h : BeastAt X.K H x b) : pairOf s.heap u = b ∧ Srt.IsPair s.heap u b.1 b.2 ∧ ∃ p, u = .ref p ∧ x = .ref p := by
  obtain ⟨p, rfl, hp⟩ := h
  obtain rfl : u = Value.ref p := r
  obtain ⟨its, rv, ⟨o, ho, hc, n, hd⟩, hz⟩ := I.tuple hp
  obtain ⟨u1, u2, rfl, ri, rj⟩ := vals2 rv
  obtain ⟨t1, rfl⟩ := ri
  obtain ⟨t2, rfl⟩ := rj
  refine ⟨?_, ⟨p, o, t1, t2, n, rfl, ho, hc, hd⟩, p, rfl, rfl⟩
  unfold pairOf
  dsimp only
  rw [ho]
  dsimp only
  rw [hd]
def rSortedPT (K : PySem.W.Frag) : List V → Hp → VK → Prop := fun vs H Q => ∃ (a : Addr) (xs : List V) (ps : HH.Row), vs = [V.ref a] ∧ SqL K H a xs ∧ Beasts K H xs ps ∧
  ∀ (ys : List V) (qs : HH.Row) (p : Addr), Beasts K H ys qs → qs.Perm ps → qs.Pairwise (fun b c => ¬ lexL c b) → H p = none → Q (.ref p) (upd H p (.lst ys))
theorem cr_sortedPT : CallR X (.builtin "sorted") (rSortedPT X.K) := by
  intro pins s σ H vs us Q I r h
  obtain ⟨a, xs, ps, rfl, hs, hb, q⟩ := h
  obtain ⟨its, rv, hl, hz⟩ := I.list hs
  obtain ⟨u, rfl, ru⟩ := vals1 r
  obtain rfl : u = Value.ref a := ru
  have hlen : its.length = ps.length := by rw [← rv.length, hb.1]
  have at' : ∀ (i : Nat) (b : Int × Int), ps[i]? = some b → ∃ u, its[i]? = some u ∧ pairOf s.heap u = b ∧ Srt.IsPair s.heap u b.1 b.2 ∧ ∃ p, u = Value.ref p ∧ BeastAt X.K H (.ref p) b := fun i b hi => by
    obtain ⟨x, hx, hB⟩ := hb.2 i b hi
    obtain ⟨u, hu, ru⟩ := rv.get hx
    obtain ⟨e1, e2, p, e3, e4⟩ := pairOf_is I ru hB
    exact ⟨u, hu, e1, e2, p, e3, by rw [← e4]; exact hB⟩
  have each : ∀ u ∈ its, Srt.IsPair s.heap u (pairOf s.heap u).1 (pairOf s.heap u).2 ∧ ∃ p, u = Value.ref p ∧ BeastAt X.K H (.ref p) (pairOf s.heap u) := fun u hu => by
    obtain ⟨i, hi⟩ := List.getElem?_of_mem hu
    have hi' : i < ps.length := by
      have := (List.getElem?_eq_some_iff.mp hi).1
      omega
    obtain ⟨u', hu', e1, e2, p, e3, e4⟩ := at' i _ (List.getElem?_eq_getElem hi')
    rw [hi] at hu'
    cases hu'
    rw [e1]
    exact ⟨e2, p, e3, e4⟩
  have emap : its.map (pairOf s.heap) = ps := by
    refine List.ext_getElem? fun i => ?_
    rw [List.getElem?_map]
    cases hp : ps[i]? with
    | none =>
      have h1 : its[i]? = none := List.getElem?_eq_none (by
        have := List.getElem?_eq_none_iff.mp hp
        omega)
      rw [h1]
      rfl
    | some b =>
      obtain ⟨u, hu, e1, _⟩ := at' i b hp
      rw [hu, Option.map_some, e1]
  refine SrtO.sorted_pairsO (k := pairOf s.heap) hl.isList (by rw [← rv.length]; exact hz) (fun v hv => (each v hv).1) fun h' d out h1 h2 kp hd hn => ?_
  have hmem : ∀ u ∈ out, u ∈ its := fun u hu => h2.perm.mem_iff.mp hu
  obtain ⟨n, hn⟩ := hn
  have h3 : ∀ u ∈ out, ∃ a, u = Value.ref a := fun u hu => by
    obtain ⟨_, p, e, _⟩ := each u (hmem u hu)
    exact ⟨p, e⟩
  have hol : out.length = its.length := h2.perm.length_eq
  refine ⟨.ref d, upd H d (.lst (out.map backV)), I.laid (t' := s.toks) kp hd ⟨?_, out, n, vals_back h3, hn⟩, rfl, q _ (out.map (pairOf s.heap)) d ⟨by rw [List.length_map, List.length_map], fun i b hi => ?_⟩ ?_ ?_ (I.hok.fresh hd)⟩
  · rw [List.length_map, hol, ← rv.length]
    exact hz
  · rw [List.getElem?_map] at hi
    cases ho : out[i]? with
    | none =>
      rw [ho] at hi
      cases hi
    | some u =>
      rw [ho] at hi
      cases hi
      obtain ⟨_, p, rfl, hB⟩ := each u (hmem u (List.mem_of_getElem? ho))
      refine ⟨.ref p, ?_, hB⟩
      rw [List.getElem?_map, ho]
      rfl
  · rw [← emap]
    exact h2.perm.map _
  · refine List.pairwise_map.mpr (List.Pairwise.imp (fun {u v} hh => ?_) h1)
    exact SrtO.lexB_no.mp hh
end
theorem sort_one {ps qs : HH.Row} (h : qs.Perm ps) (h1 : qs.Pairwise (fun b c => ¬ lexL c b)) (h2 : ps.Pairwise (fun b c => ¬ lexL c b)) : qs = ps := by
  refine h.eq_of_pairwise (fun b c _ _ g1 g2 => ?_) h1 h2
  unfold lexL at g1 g2
  obtain ⟨b1, b2⟩ := b
  obtain ⟨c1, c2⟩ := c
  dsimp only at g1 g2
  have e1 : b1 = c1 := by omega
  have e2 : b2 = c2 := by omega
  rw [e1, e2]
theorem pw_no {ps : HH.Row} (h : ps.Pairwise lexL) : ps.Pairwise (fun b c => ¬ lexL c b) := h.imp fun {b c} g g' => by
  unfold lexL at g g'
  omega
end HH
set_option maxHeartbeats 4000000
namespace HH
open PySem PySem.Spec PyProof.Rows L2 Evl RZ
theorem natsV_at {l : List Nat} {k x : Nat} (h : l[k]? = some x) : (natsV l)[k]? = some (V.int (x : Int)) := by
  unfold natsV
  rw [List.getElem?_map, h]
  rfl
theorem natsV_len (l : List Nat) : (natsV l).length = l.length := List.length_map ..
section
variable {K : PySem.W.Frag} {σ : L2.St} {H H' : Hp} {ta tb te : TE} {x y v : V}
end
end HH
set_option maxHeartbeats 4000000
namespace HH
open PySem PySem.Spec PyProof.Rows L2 Evl RZ
theorem FSteps.len {L M : List Cow} (h : FSteps L M) : M.length = L.length := by
  have := h.ids.length_eq
  rw [List.length_map, List.length_map] at this
  exact this
theorem Steps.len {L M : List Cow} (h : Steps L M) : M.length = L.length := by
  have := h.ids.length_eq
  rw [List.length_map, List.length_map] at this
  exact this
theorem FSteps.idsT {rs : HH.Row} {M : List Cow} (h : FSteps (tag 0 rs) M) : (M.map (·.1)).Perm (List.range rs.length) := by
  rw [← tag_ids]
  exact h.ids
theorem Steps.idsT {rs : HH.Row} {M : List Cow} (h : Steps (tag 0 rs) M) : (M.map (·.1)).Perm (List.range rs.length) := by
  rw [← tag_ids]
  exact h.ids
section
variable {K : PySem.W.Frag} {σ : L2.St} {H H' : Hp} {ta tb te : TE} {x y v : V} {t : TT} {tu tz : TS} {D : Ends}
end
end HH
namespace HH
open PySem PySem.Spec PyProof.Rows L2 Evl RZ
section
variable {X : Cx} {K : PySem.W.Frag}
theorem pe_tupleOfK {a : Expr} {ta : TE} {p pos : Pos} (hg : Gl X "tuple") (hm : X.mg "tuple" = none) (ha : PE X a ta) (na : starEach [a] X.env = (false, eval a X.env) :: starEach [] X.env := by rfl) (hK : X.K = K := by rfl) :
    PE X (.Call (.Name "tuple" p) [a] [] pos) (tThen ta (kTup K)) := by
  subst hK
  exact pe_tupleOf hg hm ha na
theorem pi_tupK {tg e : Expr} {te : TE} (he : PE X e te) (hK : X.K = K := by rfl) : PI X tg e (iTup K te) := by
  subst hK
  exact pi_tup he
end
end HH
namespace HH
open PySem PySem.Spec PyProof.Rows L2 Evl RZ
section
variable {K : PySem.W.Frag} {σ : L2.St} {H H' : Hp} {ta tb te : TE} {x y v : V} {Q : VK}
end
end HH
namespace HH
open PySem PySem.Spec PyProof.Rows L2 Evl RZ
section
variable {K : PySem.W.Frag} {σ : L2.St} {H H' : Hp} {ta tb te : TE} {x y v : V} {Q : VK}
end
end HH
set_option maxHeartbeats 4000000
namespace HH
open PySem PySem.Spec PyProof.Rows L2 Evl RZ
section
variable {K : PySem.W.Frag} {σ : L2.St} {H H' : Hp} {ta tb te : TE} {x y v : V} {Q : VK}
end
end HH
namespace HH
open PySem PySem.Spec PyProof.Rows L2 Evl RZ
end HH
namespace HH
open PySem PySem.Spec PyProof.Rows L2 Evl RZ
end HH
set_option maxHeartbeats 4000000
namespace HH
open PySem PySem.Spec PyProof.Rows L2 Evl RZ
def spPlaces (K : PySem.W.Frag) : Sp := fun vs H Q _ => ∃ (o : Addr) (l : List Nat), vs = [.ref o] ∧ SqT K H o (natsV l) ∧ l.Nodup ∧ l.length ≤ 30 ∧ ∀ (q : Addr) (kvs : List (Key × V)) (H' : Hp), H q = none → Ex H H' → H' q = some (.dK kvs) → PlacesD l l.length kvs → Q (.ref q) H'
theorem s_at {ts : TS} {D : Ends} {σ : L2.St} {H : Hp} (σ' : L2.St) (e : σ = σ') (k : ts D σ' H) : ts D σ H := by
  rw [e]
  exact k
end HH
set_option maxHeartbeats 4000000
namespace HH
open PySem PySem.Spec PyProof.Rows L2 Evl RZ
def barN (rs : HH.Row) (i : Nat) : Nat → Int
  | 0 => sS rs i + tS rs i
  | m + 1 => if sS rs (i + 1 + m) ≤ barN rs i m then barN rs i m + tS rs (i + 1 + m) else barN rs i m
theorem barN_yes {rs : HH.Row} {i m : Nat} (h : sS rs (i + 1 + m) ≤ barN rs i m) : barN rs i (m + 1) = barN rs i m + tS rs (i + 1 + m) := if_pos h
theorem barN_no {rs : HH.Row} {i m : Nat} (h : ¬ sS rs (i + 1 + m) ≤ barN rs i m) : barN rs i (m + 1) = barN rs i m := if_neg h
def tsumC : List Cow → Int
  | [] => 0
  | x :: r => x.2.2 + tsumC r
theorem tsumC_app : ∀ A B : List Cow, tsumC (A ++ B) = tsumC A + tsumC B
  | [], B => by
    show tsumC B = 0 + tsumC B
    omega
  | x :: A, B => by
    show x.2.2 + tsumC (A ++ B) = x.2.2 + tsumC A + tsumC B
    rw [tsumC_app A B]
    omega
def BarI (rs : HH.Row) (m : Nat) : List Cow → Prop
  | [] => True
  | x :: r => x.2.1 + x.2.2 + tsumC r = barN rs x.1 (m - x.1 - 1) ∧ BarI rs m r
def PB (s : Int) : List Cow → Prop
  | [] => True
  | x :: r => x.2.1 + x.2.2 + tsumC r < s ∧ PB s r
theorem ins_end (w : Cow) : ∀ (k : Nat) (A B : List Cow), A.length = k → PB w.2.1 B → ∃ A' B', A ++ B = A' ++ B' ∧ PB w.2.1 B' ∧ Steps (A ++ (w.1, (w.2.1 - tsumC B, w.2.2)) :: B) (A' ++ (w.1, (w.2.1 - tsumC B', w.2.2)) :: B') ∧ ∀ x, A'.getLast? = some x → ¬ (w.2.1 - tsumC B' - x.2.2 > x.2.1)
  | 0, A, B, h, hp => by
    have e : A = [] := List.length_eq_zero_iff.mp h
    subst e
    exact ⟨[], B, rfl, hp, .refl _, fun x hx => by cases hx⟩
  | k + 1, A, B, h, hp => by
    have hne : A ≠ [] := fun e => by
      rw [e] at h
      cases h
    have eA := List.dropLast_concat_getLast hne
    generalize A.getLast hne = a at eA
    by_cases z : w.2.1 - tsumC B - a.2.2 > a.2.1
    · have hl : A.dropLast.length = k := by rw [List.length_dropLast, h]; rfl
      obtain ⟨A', B', e1, p1, s1, l1⟩ := ins_end w k A.dropLast (a :: B) hl ⟨by omega, hp⟩
      refine ⟨A', B', ?_, p1, .head ?_ s1, l1⟩
      · rw [← e1]
        conv => lhs; rw [← eA]
        simp
      · refine ⟨A.dropLast, B, a, (w.1, (w.2.1 - tsumC B, w.2.2)), ?_, z, ?_⟩
        · conv => lhs; rw [← eA]
          simp
        · have e2 : w.2.1 - tsumC (a :: B) = w.2.1 - tsumC B - a.2.2 := by
            show w.2.1 - (a.2.2 + tsumC B) = _
            omega
          rw [e2]
    · refine ⟨A, B, rfl, hp, .refl _, fun x hx => ?_⟩
      have e3 : A.getLast? = some a := by
        rw [← eA]
        simp
      rw [e3] at hx
      cases hx
      exact z
theorem bar_idx {x m : Nat} (h : x < m) : m + 1 - x - 1 = (m - x - 1) + 1 ∧ x + 1 + (m - x - 1) = m := by omega
theorem barI_B {rs : HH.Row} {m : Nat} {s : Int} (hs : s = sS rs m) : ∀ {B : List Cow}, PB s B → BarI rs m B → (∀ x ∈ B, x.1 < m) → BarI rs (m + 1) B ∧ ∀ x ∈ B, barN rs x.1 (m - x.1 - 1) < s
  | [], _, _, _ => ⟨True.intro, fun x hx => by cases hx⟩
  | x :: r, h, b, l => by
    obtain ⟨i1, i2⟩ := bar_idx (l x (List.mem_cons_self ..))
    obtain ⟨g1, g2⟩ := barI_B hs h.2 b.2 fun y hy => l y (List.mem_cons_of_mem _ hy)
    have h1 := h.1
    have hb := b.1
    refine ⟨⟨?_, g1⟩, fun y hy => ?_⟩
    · rw [i1, barN_no (by rw [i2, ← hs, ← hb]; omega)]
      exact hb
    · rcases List.mem_cons.mp hy with rfl | hy
      · rw [← hb]
        exact h1
      · exact g2 y hy
theorem barI_A {rs : HH.Row} {m : Nat} {w : Cow} {B : List Cow} (hw : w.1 = m) (hs : w.2.1 = sS rs m) (ht : w.2.2 = tS rs m) (hB : BarI rs (m + 1) B) : ∀ {A : List Cow}, NfR (A ++ B) → BarI rs m (A ++ B) → (∀ x ∈ A, x.1 < m) → (∀ x, A.getLast? = some x → ¬ (w.2.1 - tsumC B - x.2.2 > x.2.1)) →
    BarI rs (m + 1) (A ++ (w.1, (w.2.1 - tsumC B, w.2.2)) :: B) ∧ (∀ x r, A = x :: r → w.2.1 ≤ x.2.1 + x.2.2 + tsumC (r ++ B)) ∧ ∀ x ∈ A, w.2.1 ≤ barN rs x.1 (m - x.1 - 1)
  | [], _, _, _, _ => by
    refine ⟨⟨?_, hB⟩, fun x r e => (by cases e), fun x hx => by cases hx⟩
    show w.2.1 - tsumC B + w.2.2 + tsumC B = barN rs w.1 (m + 1 - w.1 - 1)
    rw [hw, show m + 1 - m - 1 = 0 by omega]
    show _ = sS rs m + tS rs m
    omega
  | [x], n, b, l, la => by
    obtain ⟨i1, i2⟩ := bar_idx (l x (List.mem_cons_self ..))
    have z := la x rfl
    have hb : x.2.1 + x.2.2 + tsumC ([] ++ B) = barN rs x.1 (m - x.1 - 1) := b.1
    have hc : w.2.1 ≤ x.2.1 + x.2.2 + tsumC ([] ++ B) := by
      show w.2.1 ≤ x.2.1 + x.2.2 + tsumC B
      omega
    refine ⟨⟨?_, ?_⟩, fun y r e => ?_, fun y hy => ?_⟩
    · show x.2.1 + x.2.2 + (w.2.2 + tsumC B) = barN rs x.1 (m + 1 - x.1 - 1)
      rw [i1, barN_yes (by rw [i2, ← hs, ← hb]; exact hc), i2, ← hb, ← ht]
      show _ = x.2.1 + x.2.2 + tsumC B + w.2.2
      omega
    · show BarI rs (m + 1) ((w.1, (w.2.1 - tsumC B, w.2.2)) :: B)
      refine ⟨?_, hB⟩
      show w.2.1 - tsumC B + w.2.2 + tsumC B = barN rs w.1 (m + 1 - w.1 - 1)
      rw [hw, show m + 1 - m - 1 = 0 by omega]
      show _ = sS rs m + tS rs m
      omega
    · cases e
      exact hc
    · rcases List.mem_cons.mp hy with rfl | hy
      · rw [← hb]
        exact hc
      · cases hy
  | x :: y :: A, n, b, l, la => by
    obtain ⟨i1, i2⟩ := bar_idx (l x (List.mem_cons_self ..))
    obtain ⟨g1, g2, g3⟩ := barI_A hw hs ht hB (A := y :: A) n.2 b.2 (fun z hz => l z (List.mem_cons_of_mem _ hz)) (fun z hz => la z (by rw [List.getLast?_cons_cons]; exact hz))
    have hb : x.2.1 + x.2.2 + tsumC (y :: A ++ B) = barN rs x.1 (m - x.1 - 1) := b.1
    have nn := n.1
    have hy := g2 y A rfl
    have hc : w.2.1 ≤ x.2.1 + x.2.2 + tsumC (y :: A ++ B) := by
      show w.2.1 ≤ x.2.1 + x.2.2 + (y.2.2 + tsumC (A ++ B))
      omega
    refine ⟨⟨?_, g1⟩, fun z r e => ?_, fun z hz => ?_⟩
    · show x.2.1 + x.2.2 + tsumC (y :: A ++ (w.1, (w.2.1 - tsumC B, w.2.2)) :: B) = barN rs x.1 (m + 1 - x.1 - 1)
      rw [i1, barN_yes (by rw [i2, ← hs, ← hb]; exact hc), i2, ← hb, ← ht, tsumC_app, tsumC_app]
      show x.2.1 + x.2.2 + (tsumC (y :: A) + (w.2.2 + tsumC B)) = _
      omega
    · cases e
      exact hc
    · rcases List.mem_cons.mp hz with rfl | hz
      · rw [← hb]
        exact hc
      · exact g3 z hz
theorem bef_ins {m j i : Nat} {Y : List Nat} (hj : j ≠ m) (hi : i ≠ m) : ∀ X : List Nat, (bef (X ++ m :: Y) j i = true ↔ bef (X ++ Y) j i = true)
  | [] => by
    show bef (m :: Y) j i = true ↔ bef Y j i = true
    rw [bef_cons]
    constructor
    · rintro (⟨h, _⟩ | h)
      · exact absurd h.symm hj
      · exact h
    · exact .inr
  | x :: X => by
    show bef (x :: (X ++ m :: Y)) j i = true ↔ bef (x :: (X ++ Y)) j i = true
    rw [bef_cons, bef_cons, bef_ins hj hi X]
    have e : i ∈ X ++ m :: Y ↔ i ∈ X ++ Y := by
      simp [hi]
    rw [e]
theorem bef_new {m i : Nat} {Y : List Nat} (hY : m ∉ Y) : ∀ X : List Nat, m ∉ X → (bef (X ++ m :: Y) m i = true ↔ i ∈ Y)
  | [], _ => by
    show bef (m :: Y) m i = true ↔ i ∈ Y
    rw [bef_cons]
    constructor
    · rintro (⟨_, h⟩ | h)
      · exact h
      · exact absurd (bef_mem h).1 hY
    · exact fun h => .inl ⟨rfl, h⟩
  | x :: X, h => by
    show bef (x :: (X ++ m :: Y)) m i = true ↔ i ∈ Y
    rw [bef_cons, bef_new hY X (fun z => h (List.mem_cons_of_mem _ z))]
    constructor
    · rintro (⟨e, _⟩ | h1)
      · exact absurd (List.mem_cons.mpr (.inl e.symm)) h
      · exact h1
    · exact .inr
theorem tag_app : ∀ (k : Nat) (a b : HH.Row), tag k (a ++ b) = tag k a ++ tag (k + a.length) b
  | k, [], b => rfl
  | k, x :: a, b => by
    show (k, x) :: tag (k + 1) (a ++ b) = (k, x) :: (tag (k + 1) a ++ tag (k + (a.length + 1)) b)
    rw [tag_app (k + 1) a b, show k + 1 + a.length = k + (a.length + 1) by omega]
structure EndP (rs : HH.Row) (m : Nat) (N : List Cow) : Prop where
  st : Steps (tag 0 (rs.take m)) N
  nf : NfR N
  ba : BarI rs m N
  ids : (N.map (·.1)).Perm (List.range m)
  by' : ∀ i j : Nat, i < j → j < m → (bef (N.map (·.1)) j i = true ↔ barN rs i (j - i - 1) < sS rs j)
theorem endP {rs : HH.Row} (ht : ∀ b ∈ rs, 0 ≤ b.2) : ∀ m, m ≤ rs.length → ∃ N, EndP rs m N
  | 0, _ => ⟨[], .refl _, True.intro, True.intro, .refl _, fun i j _ h => absurd h (Nat.not_lt_zero _)⟩
  | m + 1, h => by
    obtain ⟨N, e⟩ := endP ht m (by omega)
    have hm : m < rs.length := by omega
    have hg := row_get hm
    have hmem : ∀ x ∈ N, x.1 < m := fun x hx => List.mem_range.mp (e.ids.mem_iff.mp (List.mem_map_of_mem (f := (·.1)) hx))
    obtain ⟨A, B, e1, pb, st, la⟩ := ins_end (m, (sS rs m, tS rs m)) N.length N [] rfl True.intro
    rw [List.append_nil] at e1
    subst e1
    have t0 : 0 ≤ tS rs m := by
      have := ht (sS rs m, tS rs m) (List.mem_of_getElem? hg)
      exact this
    have hA : ∀ x ∈ A, x.1 < m := fun x hx => hmem x (List.mem_append_left _ hx)
    have hB : ∀ x ∈ B, x.1 < m := fun x hx => hmem x (List.mem_append_right _ hx)
    have baB : BarI rs m B := by
      have := e.ba
      clear e st la pb hmem hA
      induction A with
      | nil => exact this
      | cons x A ih => exact ih this.2
    obtain ⟨b1, b2⟩ := barI_B (s := sS rs m) rfl pb baB hB
    obtain ⟨a1, _, a3⟩ := barI_A (w := (m, (sS rs m, tS rs m))) rfl rfl rfl b1 e.nf e.ba hA la
    refine ⟨A ++ (m, (sS rs m - tsumC B, tS rs m)) :: B, ?_, ?_, a1, ?_, ?_⟩
    · have e2 : rs.take (m + 1) = rs.take m ++ [(sS rs m, tS rs m)] := by
        rw [List.take_add_one, hg]
        rfl
      have e3 : tag 0 (rs.take (m + 1)) = tag 0 (rs.take m) ++ [(m, (sS rs m, tS rs m))] := by
        rw [e2, tag_app, List.length_take, Nat.min_eq_left (by omega), Nat.zero_add]
        rfl
      rw [e3]
      have s1 := e.st.under [] [(m, (sS rs m, tS rs m))]
      refine Steps.trans (by simpa using s1) ?_
      have e4 : sS rs m - tsumC [] = sS rs m := Int.sub_zero _
      have st' := st
      dsimp only at st'
      rw [e4] at st'
      simpa using st'
    · refine nfr_in e.nf la fun b r eb => ?_
      subst eb
      have := pb.1
      show ¬ (b.2.1 - tS rs m > sS rs m - (b.2.2 + tsumC r))
      dsimp only at this
      omega
    · rw [List.map_append, List.map_cons, List.range_succ]
      have ids := e.ids
      rw [List.map_append] at ids
      refine List.perm_middle.trans ?_
      refine (List.Perm.cons m ids).trans ?_
      exact List.perm_append_comm (l₁ := [m]) (l₂ := List.range m)
    · intro i j hij hj
      have eids : (A ++ (m, (sS rs m - tsumC B, tS rs m)) :: B).map (·.1) = A.map (·.1) ++ m :: B.map (·.1) := by
        rw [List.map_append, List.map_cons]
      rw [eids]
      have eids0 : (A ++ B).map (·.1) = A.map (·.1) ++ B.map (·.1) := List.map_append
      have noA : m ∉ A.map (·.1) := fun z => by
        obtain ⟨x, hx, ex⟩ := List.mem_map.mp z
        have := hA x hx
        omega
      have noB : m ∉ B.map (·.1) := fun z => by
        obtain ⟨x, hx, ex⟩ := List.mem_map.mp z
        have := hB x hx
        omega
      by_cases hjm : j = m
      · subst hjm
        rw [bef_new noB _ noA]
        constructor
        · intro z
          obtain ⟨x, hx, rfl⟩ := List.mem_map.mp z
          exact b2 x hx
        · intro z
          have hi : i ∈ (A ++ B).map (·.1) := e.ids.mem_iff.mpr (List.mem_range.mpr hij)
          rw [eids0] at hi
          rcases List.mem_append.mp hi with hi | hi
          · obtain ⟨x, hx, rfl⟩ := List.mem_map.mp hi
            have := a3 x hx
            dsimp only at this
            omega
          · exact hi
      · rw [bef_ins hjm (by omega), ← eids0]
        exact e.by' i j hij (by omega)
theorem never_iff {rs : HH.Row} {L : List Cow} (ht : ∀ b ∈ rs, 0 ≤ b.2) (h : Steps (tag 0 rs) L) (nf : Nf L) {i j : Nat} (hij : i < j) (hj : j < rs.length) : bef (L.map (·.1)) j i = true ↔ barN rs i (j - i - 1) < sS rs j := by
  obtain ⟨N, e⟩ := endP ht rs.length (Nat.le_refl _)
  have st := e.st
  rw [List.take_length] at st
  rw [nf_any (good_tag ht).tl h nf st (nfr_nf e.nf)]
  exact e.by' i j hij hj
def nevP (rs : HH.Row) (i m : Nat) : Bool := decide (sS rs (i + 1 + m) ≤ barN rs i m)
def nevL (rs : HH.Row) (i n : Nat) : List Nat := ((List.range n).filter (nevP rs i)).map (i + 1 + ·)
theorem nevL_yes {rs : HH.Row} {i n : Nat} (h : nevP rs i n = true) : nevL rs i (n + 1) = nevL rs i n ++ [i + 1 + n] := by
  unfold nevL
  rw [List.range_succ, List.filter_append, List.map_append, List.filter_cons_of_pos h]
  rfl
theorem nevL_no {rs : HH.Row} {i n : Nat} (h : nevP rs i n = false) : nevL rs i (n + 1) = nevL rs i n := by
  unfold nevL
  rw [List.range_succ, List.filter_append, List.map_append, List.filter_cons_of_neg (by rw [h]; decide)]
  exact List.append_nil _
theorem nevL_len (rs : HH.Row) (i n : Nat) : (nevL rs i n).length ≤ n := by
  unfold nevL
  rw [List.length_map]
  have := List.length_filter_le (nevP rs i) (List.range n)
  rw [List.length_range] at this
  exact this
def spNeverPass (K : PySem.W.Frag) : Sp := fun vs H Q _ => ∃ (v : V) (rs : HH.Row) (i : Nat), vs = [v, .int (i : Int)] ∧ RowAt K H v rs ∧ rs.length ≤ 1000 ∧ i < rs.length ∧ RetL (natsV (nevL rs i (rs.length - i - 1))) H Q
end HH
set_option maxHeartbeats 4000000
namespace HH
open PySem PySem.Spec PyProof.Rows L2 Evl RZ
section
variable {K : PySem.W.Frag} {σ : L2.St} {H H' : Hp} {ta tb te : TE} {x y v : V}
end
def LowN (n : Nat) (b : Int × Int) : Prop := b.1.natAbs ≤ 10 ^ 12 * (n + 1) ∧ 0 ≤ b.2 ∧ b.2 < 10 ^ 12
theorem MRun.low {L0 L : List Cow} {ds : List Deed} (r : MRun L0 L ds) (h : ∀ x ∈ L0, LowN 0 x.2) : ∀ x ∈ L, LowN ds.length x.2 := by
  have e : (10 : Int) ^ 12 = 1000000000000 := by decide
  have e2 : (10 : Nat) ^ 12 = 1000000000000 := by decide
  induction r with
  | nil => exact h
  | pass r hp ih =>
    rename_i pre post a b ds
    intro x hx
    rw [List.length_append]
    show LowN (ds.length + 1) x.2
    have up : ∀ y, LowN ds.length y → LowN (ds.length + 1) y := fun y hy => by
      unfold LowN at hy ⊢
      rw [e2] at hy ⊢
      omega
    simp only [List.mem_append, List.mem_cons] at hx
    rcases hx with hx | hx | hx | hx
    · exact up _ (ih x (by simp [hx]))
    · subst hx
      have ha := ih a (by simp)
      have hb := ih b (by simp)
      unfold LowN at ha hb ⊢
      rw [e, e2] at ha hb ⊢
      dsimp only
      omega
    · exact up _ (ih x (by simp [hx]))
    · exact up _ (ih x (by simp [hx]))
  | fall r hp ih =>
    rename_i pre post a b ds
    intro x hx
    rw [List.length_append]
    show LowN (ds.length + 1) x.2
    have up : ∀ y, LowN ds.length y → LowN (ds.length + 1) y := fun y hy => by
      unfold LowN at hy ⊢
      rw [e2] at hy ⊢
      omega
    simp only [List.mem_append, List.mem_cons] at hx
    rcases hx with hx | hx | hx | hx
    · exact up _ (ih x (by simp [hx]))
    · exact up _ (ih x (by simp [hx]))
    · subst hx
      have ha := ih a (by simp)
      have hb := ih b (by simp)
      unfold LowN at ha hb ⊢
      rw [e, e2] at ha hb ⊢
      dsimp only
      omega
    · exact up _ (ih x (by simp [hx]))
theorem LowN.low {n : Nat} {b : Int × Int} (h : LowN n b) (hn : n ≤ 1000) : Low b := by
  unfold LowN at h
  unfold Low
  have e : (10 : Int) ^ 12 = 1000000000000 := by decide
  have e2 : (10 : Nat) ^ 12 = 1000000000000 := by decide
  have e3 : (10 : Nat) ^ 18 = 1000000000000000000 := by decide
  rw [e, e2] at h
  rw [e3]
  omega
end HH
set_option maxHeartbeats 4000000
namespace HH
open PySem PySem.Spec PyProof.Rows L2 Evl RZ
section
variable {K : PySem.W.Frag} {σ : L2.St} {H H' : Hp} {ta tb te : TE} {x y v : V}
end
end HH
set_option maxHeartbeats 4000000
namespace HH
open PySem PySem.Spec PyProof.Rows L2 Evl RZ
section
variable {X : Cx}
end
def stopAt (l : List Nat) (j : Nat) : V := if j = 0 then .non else .int (ixN l (j - 1) : Int)
structure InsR (w : Cow) (N A B : List Cow) : Prop where
  e : N = A ++ B
  st : Steps (N ++ [w]) (A ++ (w.1, (w.2.1 - tsumC B, w.2.2)) :: B)
  pb : PB w.2.1 B
theorem InsR.start (w : Cow) (N : List Cow) : InsR w N N [] := by
  refine ⟨(List.append_nil N).symm, ?_, True.intro⟩
  have e : (w.1, (w.2.1 - tsumC [], w.2.2)) = w := by
    show (w.1, (w.2.1 - 0, w.2.2)) = w
    rw [Int.sub_zero]
  rw [e]
  exact .refl _
theorem InsR.next {w a : Cow} {N A B : List Cow} (h : InsR w N (A ++ [a]) B) (hp : w.2.1 - tsumC B - a.2.2 > a.2.1) : InsR w N A (a :: B) := by
  refine ⟨by rw [h.e, List.append_assoc]; rfl, h.st.snoc ⟨A, B, a, (w.1, (w.2.1 - tsumC B, w.2.2)), by rw [List.append_assoc]; rfl, hp, ?_⟩, ⟨by omega, h.pb⟩⟩
  have e2 : w.2.1 - tsumC (a :: B) = w.2.1 - tsumC B - a.2.2 := by
    show w.2.1 - (a.2.2 + tsumC B) = _
    omega
  rw [e2]
theorem InsR.stop {w : Cow} {N A B : List Cow} (h : InsR w N A B) (n : NfR N) (t : 0 ≤ w.2.2) (la : ∀ x, A.getLast? = some x → ¬ (w.2.1 - tsumC B - x.2.2 > x.2.1)) : NfR (A ++ (w.1, (w.2.1 - tsumC B, w.2.2)) :: B) := by
  have hn := n
  rw [h.e] at hn
  refine nfr_in hn la fun b r eb => ?_
  have hb := h.pb
  subst eb
  have := hb.1
  show ¬ (b.2.1 - w.2.2 > w.2.1 - (b.2.2 + tsumC r))
  omega
theorem nfr_of {L : List Cow} (h : Nf L) : NfR L := by
  induction L with
  | nil => exact True.intro
  | cons a r ih =>
    cases r with
    | nil => exact True.intro
    | cons b r =>
      refine ⟨fun z => h _ ⟨[], r, a, b, rfl, z, rfl⟩, ih fun M s => ?_⟩
      have := s.under [a] []
      refine h (a :: M) ?_
      simpa using this
end HH
set_option maxHeartbeats 4000000
namespace HH
open PySem PySem.Spec PyProof.Rows L2 Evl RZ
def MixSt (z TI TO i1 i2 a b : Addr) (i : Nat) (h : Heap) : Prop := IsZip h z TI TO .none ∧ IsTupOf2 h TI (.ref i1) (.ref i2) ∧ (∃ x y, IsTupOf2 h TO x y) ∧ h.IsListIter i1 a i ∧ h.IsTupleIter i2 b i
theorem five {c z TI TO i1 i2 : Addr} (h : c ∈ [z, TI, TO, i1, i2]) : c = z ∨ c = TI ∨ c = TO ∨ c = i1 ∨ c = i2 := by simpa using h
theorem MixSt.objs {z TI TO i1 i2 a b : Addr} {i : Nat} {h : Heap} (m : MixSt z TI TO i1 i2 a b i h) : ∀ c ∈ [z, TI, TO, i1, i2], ∃ ob, h.get? c = some ob ∧ ∀ v, ob.data ≠ .cell v := fun c hc => by
  obtain ⟨m1, m2, ⟨_, _, m3⟩, ⟨p1, g1, _, d1⟩, ⟨p2, g2, _, d2⟩⟩ := m
  rcases five hc with rfl | rfl | rfl | rfl | rfl
  · exact ⟨_, m1, fun v q => by cases q⟩
  · exact ⟨_, m2, fun v q => by cases q⟩
  · exact ⟨_, m3, fun v q => by cases q⟩
  · exact ⟨p1, g1, fun v q => by rw [d1] at q; cases q⟩
  · exact ⟨p2, g2, fun v q => by rw [d2] at q; cases q⟩
end HH
set_option maxHeartbeats 4000000
namespace HH
open PySem PySem.Spec PyProof.Rows L2 Evl RZ
def tp (rs : HH.Row) (k : Nat) : Int := tsum (rs.take k)
section
variable {K : PySem.W.Frag} {σ : L2.St} {H H' : Hp} {ta tb te : TE} {x y v : V} {t : TT}
end
section
variable {X : Cx}
end
end HH
set_option maxHeartbeats 4000000
namespace HH
open PySem PySem.Spec PyProof.Rows L2 Evl RZ
structure ListsF (H0 H : Hp) (us : List V) (ll : List (List Nat)) : Prop where
  len : us.length = ll.length
  at' : ∀ (i : Nat) (l : List Nat), ll[i]? = some l → ∃ p, us[i]? = some (.ref p) ∧ H0 p = none ∧ H p = some (.lst (natsV l))
theorem ListsF.nil {H0 H : Hp} : ListsF H0 H [] [] := ⟨rfl, fun i l h => by cases h⟩
theorem ListsF.ex {H0 H H' : Hp} {us : List V} {ll : List (List Nat)} (h : ListsF H0 H us ll) (e : Ex H H') : ListsF H0 H' us ll := ⟨h.len, fun i l hl => by
  obtain ⟨p, h1, h2, h3⟩ := h.at' i l hl
  exact ⟨p, h1, h2, e _ _ h3⟩⟩
theorem ListsF.low {H00 H0 H : Hp} {us : List V} {ll : List (List Nat)} (h : ListsF H0 H us ll) (e : Ex H00 H0) : ListsF H00 H us ll := ⟨h.len, fun i l hl => by
  obtain ⟨p, h1, h2, h3⟩ := h.at' i l hl
  exact ⟨p, h1, fresh_back e h2, h3⟩⟩
theorem ListsF.mut {H0 H : Hp} {us : List V} {ll : List (List Nat)} {D : Addr} {o o' : HO} (h : ListsF H0 H us ll) (hD : H0 D = some o) : ListsF H0 (upd H D o') us ll := ⟨h.len, fun i l hl => by
  obtain ⟨p, h1, h2, h3⟩ := h.at' i l hl
  refine ⟨p, h1, h2, ?_⟩
  rw [upd_ne (Ne.symm (ne_of_none hD h2))]
  exact h3⟩
theorem ListsF.app {H0 H : Hp} {us : List V} {ll : List (List Nat)} {p : Addr} {l : List Nat} (h : ListsF H0 H us ll) (hp : H0 p = none) (hl : H p = some (.lst (natsV l))) : ListsF H0 H (us ++ [.ref p]) (ll ++ [l]) := by
  refine ⟨by rw [List.length_append, List.length_append, h.len]; rfl, fun i m hm => ?_⟩
  by_cases hi : i < ll.length
  · rw [List.getElem?_append_left hi] at hm
    rw [List.getElem?_append_left (by rw [h.len]; exact hi)]
    exact h.at' i m hm
  · rw [List.getElem?_append_right (by omega)] at hm
    rw [List.getElem?_append_right (by rw [h.len]; omega), h.len]
    match e : i - ll.length, hm with
    | 0, hm =>
      cases hm
      exact ⟨p, rfl, hp, hl⟩
    | k + 1, hm => cases hm
def nevT (rs : HH.Row) : List (List Nat) := (List.range rs.length).map fun i => nevL rs i (rs.length - i - 1)
theorem nevT_len (rs : HH.Row) : (nevT rs).length = rs.length := by
  unfold nevT
  rw [List.length_map, List.length_range]
theorem nevT_at {rs : HH.Row} {i : Nat} (h : i < rs.length) : (nevT rs)[i]? = some (nevL rs i (rs.length - i - 1)) := by
  unfold nevT
  rw [List.getElem?_map, List.getElem?_range h]
  rfl
theorem nevT_take {rs : HH.Row} {i : Nat} (h : i < rs.length) : (nevT rs).take (i + 1) = (nevT rs).take i ++ [nevL rs i (rs.length - i - 1)] := by
  rw [List.take_add_one, nevT_at h]
  rfl
def spNever (K : PySem.W.Frag) : Sp := fun vs H Q _ => ∃ (v : V) (rs : HH.Row), vs = [v] ∧ RowAt K H v rs ∧ rs.length ≤ 1000 ∧ ∀ (q : Addr) (us : List V) (H' : Hp), H q = none → Ex H H' → H' q = some (.lst us) → ListsF H H' us (nevT rs) → Q (.ref q) H'
section
variable {X : Cx}
end
section
variable {K : PySem.W.Frag} {σ : L2.St} {H : Hp} {v : V}
end
end HH
set_option maxHeartbeats 4000000
namespace HH
open PySem PySem.Spec PyProof.Rows L2 Evl RZ
def PlainT (o : Obj) : Prop := o.cls = .type "tuple" ∧ o.dict = none
def kTupF (K : PySem.W.Frag) (x : V) (H : Hp) (Q : VK) : Prop := ∃ (l : Addr) (xs : List V), x = .ref l ∧ SqL K H l xs ∧ ∀ (t : Addr) (o : Obj), PlainT o → H t = none → Q (.ref t) (upd H t (.frz o (.tup xs)))
section
variable {X : Cx}
theorem pe_tupleOfF {c : Expr} {tc : TE} {p pos : Pos} (hg : Gl X "tuple") (hm : X.mg "tuple" = none) (hc : PE X c tc) (hs : starEach [c] X.env = (false, eval c X.env) :: starEach [] X.env := by rfl) :
    PE X (.Call (.Name "tuple" p) [c] [] pos) (tThen tc (kTupF X.K)) := by
  refine ⟨fun pins st σ H Q inv h => Call_ (ld_blt inv hg hm boot_tuple (PyProof.Rows.callWith_type1 (one_arg hc inv h (fun v s1 x H1 inv1 rel ask => ?_) hs) hs))⟩
  obtain ⟨l, xs, rfl, sq, q⟩ := ask
  cases rel
  obtain ⟨vals, rv, place, few⟩ := inv1.list sq
  refine call_tuple_list place.isList (fun g keep => ?_) (by rw [List.size_toArray]; have := rv.length; omega)
  have inv2 : Inv X pins σ H1 { s1 with heap := g } := inv1.kept (t' := s1.toks) keep
  have okF : ObjOk X.prog X.w (upd H1 g.objs.size (.frz { cls := .type "tuple", data := .seq vals.toArray } (.tup xs))) (g.push { cls := .type "tuple", data := .seq vals.toArray }) g.objs.size (.frz { cls := .type "tuple", data := .seq vals.toArray } (.tup xs)) :=
    ⟨Heap.get?_push_size _ rfl, few, vals, rv, IsTup.new _ _⟩
  exact ⟨.ref g.objs.size, _, inv2.laid (t' := s1.toks) (fun b o e => Heap.get?_push_of_some _ e) (Nat.le_refl _) okF, rfl, q _ _ ⟨rfl, rfl⟩ (inv2.hok.fresh (Nat.le_refl _))⟩
end
structure LastAtF (K : PySem.W.Frag) (H : Hp) (q : Addr) (L : List Cow) : Prop where
  ex : ∃ (v : V) (ot : Addr) (o : Obj), H q = some (.tup [v, .ref ot]) ∧ RowAt K H v (rowsOf L) ∧ H ot = some (.frz o (.tup (ordL L))) ∧ PlainT o
def spRowOrderF (K : PySem.W.Frag) : Sp := fun vs H Q _ => ∃ (l sa ta : Addr) (N : List Cow) (S T : List Int), vs = [.ref l, .ref sa, .ref ta] ∧ H l = some (.lst (idsV N)) ∧ H sa = some (.lst (S.map V.int)) ∧ H ta = some (.lst (T.map V.int)) ∧ Kept S T N ∧ N.length ≤ 1000 ∧ ∀ q H', Ex H H' → LastAtF K H' q N → Q (.ref q) H'
def spLastF (K : PySem.W.Frag) : Sp := fun vs H Q _ => ∃ (v : V) (rs : HH.Row), vs = [v] ∧ RowAt K H v rs ∧ rs.length ≤ 1000 ∧ (∀ b ∈ rs, 0 ≤ b.2) ∧ ∀ q H' (L : List Cow), Ex H H' → LastAtF K H' q L → Steps (tag 0 rs) L → NfR L → Q (.ref q) H'
end HH
set_option maxHeartbeats 4000000
namespace HH
open PySem PySem.Spec PyProof.Rows L2 Evl RZ
theorem mem_tabN {rs : HH.Row} {L : List Cow} (ht : ∀ b ∈ rs, 0 ≤ b.2) (st : Steps (tag 0 rs) L) (nf : Nf L) {p : Int × Int} : p ∈ tab (L.map (·.1)) rs.length rs.length ↔ ∃ i j : Nat, i < j ∧ j < rs.length ∧ p = ((i : Int), (j : Int)) ∧ barN rs i (j - i - 1) < sS rs j := by
  rw [mem_tab]
  constructor
  · rintro ⟨i, j, h1, h2, h3, h4⟩
    exact ⟨i, j, h1, h2, h3, (never_iff ht st nf h1 h2).mp h4⟩
  · rintro ⟨i, j, h1, h2, h3, h4⟩
    exact ⟨i, j, h1, h2, h3, (never_iff ht st nf h1 h2).mpr h4⟩
def pieceR (rs : HH.Row) (b e : Nat) : HH.Row := (rs.drop b).take (e - b)
theorem pieceR_len {rs : HH.Row} {b e : Nat} (h : e ≤ rs.length) : (pieceR rs b e).length = e - b := by
  unfold pieceR
  rw [List.length_take, List.length_drop]
  omega
theorem pw_eq {α : Type} {r : α → α → Prop} (irr : ∀ a, ¬ r a a) (asy : ∀ a b, r a b → ¬ r b a) {l m : List α} (hl : l.Pairwise r) (hm : m.Pairwise r) (h : ∀ x, x ∈ l ↔ x ∈ m) : l = m := by
  have nl : l.Nodup := hl.imp fun {a b} z (e : a = b) => irr b (by rw [e] at z; exact z)
  have nm : m.Nodup := hm.imp fun {a b} z (e : a = b) => irr b (by rw [e] at z; exact z)
  exact ((List.perm_ext_iff_of_nodup nl nm).mpr h).eq_of_pairwise (fun a b _ _ g1 g2 => absurd g2 (asy a b g1)) hl hm
theorem lex_asy (p q : Int × Int) (h : lexL p q) : ¬ lexL q p := fun g => by
  unfold lexL at h g
  omega
inductive StepsN : Nat → List Cow → List Cow → Prop
  | refl (L : List Cow) : StepsN 0 L L
  | head {k : Nat} {L M N : List Cow} : Step L M → StepsN k M N → StepsN (k + 1) L N
theorem StepsN.trans {a b : Nat} {L M N : List Cow} (h : StepsN a L M) (g : StepsN b M N) : StepsN (a + b) L N := by
  induction h with
  | refl => rw [Nat.zero_add]; exact g
  | head s _ ih =>
    rename_i k L M N _
    rw [show k + 1 + b = k + b + 1 by omega]
    exact .head s (ih g)
theorem StepsN.steps {a : Nat} {L M : List Cow} (h : StepsN a L M) : Steps L M := by
  induction h with
  | refl => exact .refl _
  | head s _ ih => exact .head s ih
theorem StepsN.under {a : Nat} {L M : List Cow} (pre post : List Cow) (h : StepsN a L M) : StepsN a (pre ++ L ++ post) (pre ++ M ++ post) := by
  induction h with
  | refl => exact .refl _
  | head s _ ih => exact .head (s.under pre post) ih
theorem StepsN.map {a : Nat} {L M : List Cow} (f : Nat → Nat) (h : StepsN a L M) : StepsN a (rlL f L) (rlL f M) := by
  induction h with
  | refl => exact .refl _
  | head s _ ih => exact .head (s.map f) ih
theorem StepsN.run {a : Nat} {L0 L M : List Cow} (h : StepsN a L M) : ∀ {ps : List (Int × Int)}, PRun L0 L ps → ∃ qs, PRun L0 M qs ∧ qs.length = ps.length + a := by
  induction h with
  | refl => exact fun r => ⟨_, r, rfl⟩
  | head s _ ih =>
    intro ps r
    obtain ⟨pre, post, x, y, rfl, hp, rfl⟩ := s
    obtain ⟨qs, g1, g2⟩ := ih (r.step hp)
    refine ⟨qs, g1, ?_⟩
    rw [g2, List.length_append]
    show ps.length + 1 + _ = _
    omega
theorem StepsN.tab {a : Nat} {rs : HH.Row} {L : List Cow} (ht : ∀ b ∈ rs, 0 ≤ b.2) (h : StepsN a (tag 0 rs) L) : (tab (L.map (·.1)) rs.length rs.length).length = a := by
  obtain ⟨qs, r, e⟩ := h.run (PRun.nil)
  obtain ⟨td, _, _⟩ := r.told ht
  have ids := h.steps.ids
  rw [tag_ids] at ids
  rw [← (told_tab td fun x hx => List.mem_range.mp (ids.mem_iff.mp hx)).length_eq, e]
  show 0 + a = a
  omega
theorem tag_rl (k b : Nat) : ∀ rs : HH.Row, tag (b + k) rs = rlL (b + ·) (tag k rs) := by
  intro rs
  refine List.ext_getElem? fun i => ?_
  unfold rlL
  rw [List.getElem?_map, tag_at, tag_at]
  cases rs[i]? with
  | none => rfl
  | some x =>
    show some (b + k + i, x) = some (b + (k + i), x)
    rw [Nat.add_assoc]
end HH
set_option maxHeartbeats 4000000
namespace HH
open PySem PySem.Spec PyProof.Rows L2 Evl RZ
section
variable {X : Cx}
end
section
variable {K : PySem.W.Frag} {σ : L2.St} {H H' : Hp} {ta tb tc te : TE} {x y v : V} {Q : VK}
theorem cat_rows {v u : V} {rs ss : HH.Row} (h1 : RowAt K H v rs) (h2 : RowAt K H u ss) (hl : rs.length + ss.length ≤ 100000) (q : ∀ w H2, Ex H H2 → RowAt K H2 w (rs ++ ss) → Q w H2) : rCatA K v u H Q :=
  (er_cat (σ := []) (ta := tC v) (tb := tC u) (er_val ev_c h1) (er_val ev_c h2) hl) H (Ex.refl H) Q q
theorem cut_mid {α : Type} (xs : List V) (b e : Nat) (h : b ≤ e) (he : e ≤ xs.length) : cutV xs (some (b : Int)) (some (e : Int)) = (xs.drop b).take (e - b) := by
  unfold cutV
  rw [HT.sIx_nat, HT.sIx_nat, Nat.min_eq_left he, Nat.min_eq_left (show b ≤ xs.length by omega)]
theorem er_mid {rs : HH.Row} {ti tj : TE} {b e : Nat} (h : EvR K te σ H rs) (hi : Ev ti σ H (.int (b : Int))) (hj : Ev tj σ H (.int (e : Int))) (hbe : b ≤ e) (he : e ≤ rs.length) : EvR K (tSl (rSlA K) te (tPart ti) (tPart tj)) σ H (pieceR rs b e) := fun H1 e1 Q q =>
  h H1 e1 _ fun v H2 e2 hv => hi H2 (e1.trans e2) _ fun H3 e3 => ⟨(b : Int), rfl, hj H3 ((e1.trans e2).trans e3) _ fun H4 e4 => by
    obtain ⟨a, vs, rfl, h1, h2⟩ := hv.ex (e3.trans e4)
    have eZ := (e2.trans e3).trans e4
    have ec := cut_mid (α := Nat) vs b e hbe (by rw [h2.1]; exact he)
    have hp : Beasts K H4 ((vs.drop b).take (e - b)) (pieceR rs b e) := (h2.drop b).take (e - b)
    refine ⟨(e : Int), rfl, a, vs, rfl, h1, fun z => ?_, fun _ p hp' => ?_⟩
    · have e0 := cut_all z
      rw [ec] at e0
      refine q _ H4 eZ ⟨a, vs, rfl, h1, ?_⟩
      rw [e0] at hp
      exact hp
    · refine q _ _ (eZ.trans (Ex.new hp')) ⟨p, _, rfl, st_of upd_same, ?_⟩
      rw [ec]
      exact hp.ex (Ex.new hp')⟩
theorem g_at {i : Nat} {x : V} {k : L2.St → Hp → Prop} (σ' : L2.St) (e : σ.set i (some x) = σ') (h : k σ' H) : gName i x σ H k := by
  show k (σ.set i (some x)) H
  rw [e]
  exact h
end
end HH
set_option maxHeartbeats 4000000
namespace HH
open PySem PySem.Spec PyProof.Rows L2 Evl RZ
abbrev RowsA (K : PySem.W.Frag) (H : Hp) : List V → List HH.Row → Prop := All2 (RowAt K H)
theorem RowsA.ex' {K : PySem.W.Frag} {H H' : Hp} {us : List V} {rr : List HH.Row} (h : RowsA K H us rr) (e : Ex H H') : RowsA K H' us rr := All2.mono (fun _ _ r => r.ex e) h
theorem RowsA.exB' {K : PySem.W.Frag} {H H' : Hp} {us : List V} {rr : List HH.Row} {q : Addr} {ys : List V} (h : RowsA K H us rr) (e : ExB q H H') (hq : H q = some (.lst ys)) : RowsA K H' us rr := All2.mono (fun _ _ r => r.exL e hq) h
section
variable {K : PySem.W.Frag} {σ : L2.St} {H : Hp} {ta tb tc tx : TE} {Q : VK}
end
end HH
set_option maxHeartbeats 4000000
namespace HH
open PySem PySem.Spec PyProof.Rows L2 Evl RZ
section
variable {X : Cx}
end
end HH
set_option maxHeartbeats 4000000
namespace HH
open PySem PySem.Spec PyProof.Rows L2 Evl RZ
end HH
set_option maxHeartbeats 4000000
namespace HH
open PySem PySem.Spec PyProof.Rows L2 Evl RZ
section
variable {K : PySem.W.Frag} {σ : L2.St} {H H' : Hp} {ta tb tc te tl : TE} {x y v : V} {Q : VK} {D : Ends} {tz tu : TS} {g : TG}
end
theorem DeedAt.ex' {K : PySem.W.Frag} {H H' : Hp} {v : V} {d : Deed} (h : DeedAt K H v d) (e : Ex H H') : DeedAt K H' v d := by
  obtain ⟨p, h1, h2⟩ := h
  exact ⟨p, h1, ex_t e h2⟩
section
variable {K : PySem.W.Frag} {σ : L2.St} {H H' : Hp} {ta tb tc te tl : TE} {v : V} {D : Ends}
end
section
variable {K : PySem.W.Frag} {σ : L2.St} {H H' : Hp} {ta tb tc te tl : TE} {v : V} {D : Ends}
end
end HH
set_option maxHeartbeats 4000000
namespace HH
open PySem PySem.Spec PyProof.Rows L2 Evl RZ
end HH
set_option maxHeartbeats 4000000
namespace HH
open PySem PySem.Spec PyProof.Rows L2 Evl RZ
def PairT (H : Hp) (v : V) (b : Int × Int) : Prop := ∃ p, v = .ref p ∧ H p = some (.tup [.int b.1, .int b.2])
abbrev BeastsT (H : Hp) : List V → HH.Row → Prop := All2 (PairT H)
theorem PairT.ex {H H' : Hp} {v : V} {b : Int × Int} (h : PairT H v b) (e : Ex H H') : PairT H' v b := by
  obtain ⟨p, rfl, hp⟩ := h
  exact ⟨p, rfl, e _ _ hp⟩
theorem PairT.exB {H H' : Hp} {v : V} {b : Int × Int} {q : Addr} {ys : List V} (h : PairT H v b) (e : ExB q H H') (hq : H q = some (.lst ys)) : PairT H' v b := by
  obtain ⟨p, rfl, hp⟩ := h
  exact ⟨p, rfl, e _ _ (ne_of hp hq fun z => nomatch z) hp⟩
theorem BeastsT.ex' {H H' : Hp} {us : List V} {ps : HH.Row} (h : BeastsT H us ps) (e : Ex H H') : BeastsT H' us ps := All2.mono (fun _ _ r => r.ex e) h
theorem BeastsT.exB' {H H' : Hp} {us : List V} {ps : HH.Row} {q : Addr} {ys : List V} (h : BeastsT H us ps) (e : ExB q H H') (hq : H q = some (.lst ys)) : BeastsT H' us ps := All2.mono (fun _ _ r => r.exB e hq) h
theorem BeastsT.be {K : PySem.W.Frag} {H : Hp} : ∀ {us : List V} {ps : HH.Row}, BeastsT H us ps → Beasts K H us ps
  | _, _, .nil => Beasts.nil
  | _, _, .cons a b => by
    obtain ⟨p, rfl, hp⟩ := a
    exact Beasts.app (vs := [_]) (rs := [_]) (Beasts.one ⟨p, rfl, st_of hp⟩) (BeastsT.be b)
theorem BeastsT.at' {H : Hp} {us : List V} {ps : HH.Row} (h : BeastsT H us ps) {k : Nat} {x : V} (hx : us[k]? = some x) : ∃ b, ps[k]? = some b ∧ PairT H x b := h.get hx
def keyP (b : Int × Int) : List Key := [.inl b.1, .inl b.2]
theorem keyP_inj {a b : Int × Int} : keyP a = keyP b ↔ a = b := by
  unfold keyP
  constructor
  · intro h
    simp only [List.cons.injEq, Sum.inl.injEq, and_true] at h
    exact Prod.ext h.1 h.2
  · rintro rfl
    rfl
structure PairsD (kvs : List (List Key × V)) (ps : HH.Row) : Prop where
  has : ∀ b : Int × Int, (valV kvs (keyP b)).isSome = decide (b ∈ ps)
  few : kvs.length ≤ ps.length
theorem PairsD.nil : PairsD [] [] := ⟨fun b => by rw [valV_nil]; simp, Nat.le_refl _⟩
theorem PairsD.put {kvs : List (List Key × V)} {ps : HH.Row} (h : PairsD kvs ps) (b : Int × Int) (v : V) : PairsD (putK kvs (keyP b) v) (ps ++ [b]) := by
  refine ⟨fun c => ?_, ?_⟩
  · rw [valV_put]
    by_cases e : keyP c = keyP b
    · rw [if_pos e]
      have := keyP_inj.mp e
      subst this
      simp
    · rw [if_neg e, h.has c]
      have ne : c ≠ b := fun z => e (by rw [z])
      rw [decide_eq_decide, List.mem_append, List.mem_singleton]
      exact ⟨.inl, fun z => z.elim id fun z => absurd z ne⟩
  · have := length_putK kvs (keyP b) v
    rw [List.length_append]
    show _ ≤ ps.length + 1
    have := h.few
    omega
section
variable {K : PySem.W.Frag} {σ : L2.St} {H : Hp} {ta tb te : TE} {Q : VK}
end
def spTurnedT (K : PySem.W.Frag) : Sp := fun vs H Q _ => ∃ (o : Addr) (l : List Nat), vs = [.ref o] ∧ SqT K H o (natsV l) ∧ l.Nodup ∧ (∀ x, x < l.length → x ∈ l) ∧ l.length ≤ 30 ∧
  ∀ (q : Addr) (us : List V) (H' : Hp), H q = none → Ex H H' → H' q = some (.lst us) → BeastsT H' us (tab l l.length l.length) → Q (.ref q) H'
def spPairsT (K : PySem.W.Frag) (M : List Cow → List Cow → Prop) : Sp := fun vs H Q _ => ∃ (v : V) (rs : HH.Row), vs = [v] ∧ RowAt K H v rs ∧ rs.length ≤ 30 ∧ (∀ b ∈ rs, 0 ≤ b.2) ∧
  ∀ (q : Addr) (us : List V) (L : List Cow) (H' : Hp), M (tag 0 rs) L → H q = none → Ex H H' → H' q = some (.lst us) → BeastsT H' us (tab (L.map (·.1)) rs.length rs.length) → Q (.ref q) H'
section
variable {K : PySem.W.Frag} {σ : L2.St} {H : Hp} {ta : TE} {v : V} {E : XK}
end
end HH
set_option maxHeartbeats 4000000
namespace HH
open PySem PySem.Spec PyProof.Rows L2 Evl RZ
def tabPR (p : Nat → Nat → Bool) (i m : Nat) : HH.Row := ((List.range m).filter (p i)).map fun k => ((i : Int), ((i + 1 + k : Nat) : Int))
def tabP (p : Nat → Nat → Bool) (n m : Nat) : HH.Row := (List.range m).flatMap fun i => tabPR p i (n - (i + 1))
theorem tabPR_succ (p : Nat → Nat → Bool) (i m : Nat) : tabPR p i (m + 1) = tabPR p i m ++ (if p i m = true then [((i : Int), ((i + 1 + m : Nat) : Int))] else []) := by
  unfold tabPR
  rw [List.range_succ, List.filter_append, List.map_append]
  by_cases h : p i m = true
  · rw [if_pos h, List.filter_cons_of_pos h]
    rfl
  · rw [if_neg h, List.filter_cons_of_neg h]
    rfl
theorem tabP_succ (p : Nat → Nat → Bool) (n m : Nat) : tabP p n (m + 1) = tabP p n m ++ tabPR p m (n - (m + 1)) := by
  unfold tabP
  rw [List.range_succ, List.flatMap_append]
  simp
theorem tabPR_len (p : Nat → Nat → Bool) (i m : Nat) : (tabPR p i m).length ≤ m := by
  unfold tabPR
  rw [List.length_map]
  have := List.length_filter_le (p i) (List.range m)
  rw [List.length_range] at this
  exact this
theorem tabP_len (p : Nat → Nat → Bool) (n : Nat) : ∀ m, (tabP p n m).length ≤ m * n
  | 0 => by simp [tabP]
  | m + 1 => by
    rw [tabP_succ, List.length_append, Nat.succ_mul]
    have h1 := tabP_len p n m
    have h2 := tabPR_len p m (n - (m + 1))
    omega
theorem tabP_small (p : Nat → Nat → Bool) {n : Nat} (h : n ≤ 30) : (tabP p n n).length ≤ 900 := by
  have h1 := tabP_len p n n
  have h3 := Nat.mul_le_mul h h
  omega
theorem mem_tabP {p : Nat → Nat → Bool} {n : Nat} {x : Int × Int} : x ∈ tabP p n n ↔ ∃ i j : Nat, i < j ∧ j < n ∧ x = ((i : Int), (j : Int)) ∧ p i (j - i - 1) = true := by
  unfold tabP
  rw [List.mem_flatMap]
  constructor
  · rintro ⟨i, hi, h⟩
    obtain ⟨k, hk, rfl⟩ := List.mem_map.mp h
    obtain ⟨h1, h2⟩ := List.mem_filter.mp hk
    have h1 := List.mem_range.mp h1
    refine ⟨i, i + 1 + k, by omega, by omega, rfl, ?_⟩
    rw [show i + 1 + k - i - 1 = k by omega]
    exact h2
  · rintro ⟨i, j, h1, h2, rfl, h3⟩
    refine ⟨i, List.mem_range.mpr (by omega), List.mem_map.mpr ⟨j - i - 1, List.mem_filter.mpr ⟨List.mem_range.mpr (by omega), h3⟩, ?_⟩⟩
    rw [show i + 1 + (j - i - 1) = j by omega]
theorem pw_tabPR (p : Nat → Nat → Bool) (i m : Nat) : (tabPR p i m).Pairwise lexL := by
  unfold tabPR
  refine List.pairwise_map.mpr (List.Pairwise.imp ?_ (List.Pairwise.filter (p i) List.pairwise_lt_range))
  intro a b hab
  exact .inr ⟨rfl, by show ((i + 1 + a : Nat) : Int) < ((i + 1 + b : Nat) : Int); omega⟩
theorem pw_tabP (p : Nat → Nat → Bool) (n : Nat) : ∀ m, (tabP p n m).Pairwise lexL
  | 0 => .nil
  | m + 1 => by
    rw [tabP_succ]
    refine List.pairwise_append.mpr ⟨pw_tabP p n m, pw_tabPR p m _, fun x hx y hy => ?_⟩
    unfold tabP at hx
    obtain ⟨i, hi, h⟩ := List.mem_flatMap.mp hx
    have hi := List.mem_range.mp hi
    obtain ⟨k, _, rfl⟩ := List.mem_map.mp h
    obtain ⟨k2, _, rfl⟩ := List.mem_map.mp hy
    exact .inl (by show (i : Int) < (m : Int); omega)
theorem pw_same {ps qs : HH.Row} (h1 : ps.Pairwise lexL) (h2 : qs.Pairwise lexL) (h : ∀ x, x ∈ ps ↔ x ∈ qs) : ps = qs := pw_eq lex_irr lex_asy h1 h2 h
end HH
set_option maxHeartbeats 4000000
namespace HH
open PySem PySem.Spec PyProof.Rows L2 Evl RZ
abbrev PrT := Hp → V → Int × Int → Prop
structure Stb (R : PrT) : Prop where
  ex : ∀ {H H' : Hp} {x : V} {b : Int × Int}, Ex H H' → R H x b → R H' x b
  ls : ∀ {H : Hp} {D : Addr} {xs ys : List V} {x : V} {b : Int × Int}, H D = some (.lst xs) → R H x b → R (upd H D (.lst ys)) x b
theorem stb_T : Stb PairT := ⟨fun e h => h.ex e, fun hD h => h.exB (ExB.refl _ _).upd hD⟩
theorem Stb.all {R : PrT} (s : Stb R) {H H' : Hp} (e : Ex H H') {us : List V} {ps : HH.Row} (h : All2 (R H) us ps) : All2 (R H') us ps := All2.mono (fun _ _ r => s.ex e r) h
theorem Stb.allL {R : PrT} (s : Stb R) {H : Hp} {D : Addr} {xs ys : List V} (hD : H D = some (.lst xs)) {us : List V} {ps : HH.Row} (h : All2 (R H) us ps) : All2 (R (upd H D (.lst ys))) us ps := All2.mono (fun _ _ r => s.ls hD r) h
theorem beasts_2 {K : PySem.W.Frag} {H : Hp} : ∀ {us : List V} {ps : HH.Row}, Beasts K H us ps → All2 (BeastAt K H) us ps
  | [], [], _ => .nil
  | [], _ :: _, h => by cases h.1
  | _ :: _, [], h => by cases h.1
  | v :: vs, b :: rs, h => .cons h.uncons.1 (beasts_2 h.uncons.2)
theorem all2_b {K : PySem.W.Frag} {H : Hp} : ∀ {us : List V} {ps : HH.Row}, All2 (BeastAt K H) us ps → Beasts K H us ps
  | _, _, .nil => Beasts.nil
  | _, _, .cons a b => Beasts.app (vs := [_]) (rs := [_]) (Beasts.one a) (all2_b b)
section
variable {K : PySem.W.Frag} {σ : L2.St} {H : Hp} {ta tb te : TE} {t : TT} {R : PrT}
def EvPr (R : PrT) (te : TE) (σ : L2.St) (H : Hp) (ps : HH.Row) : Prop := ∀ H1, Ex H H1 → ∀ Q : VK, (∀ (q : Addr) (us : List V) (H2 : Hp), H1 q = none → Ex H1 H2 → H2 q = some (.lst us) → All2 (R H2) us ps → Q (.ref q) H2) → te σ H1 Q
def Src (K : PySem.W.Frag) (R : PrT) (te : TE) (σ : L2.St) (H : Hp) (ps : HH.Row) : Prop := ∀ H1, Ex H H1 → ∀ Q : VK, (∀ (a : Addr) (us : List V) (H2 : Hp), Ex H1 H2 → (∀ H3, Ex H2 H3 → SqL K H3 a us) → All2 (R H2) us ps → Q (.ref a) H2) → te σ H1 Q
theorem src_new {ps : HH.Row} (h : EvPr R te σ H ps) : Src K R te σ H ps := fun H1 e1 Q q => h H1 e1 Q fun a us H2 _ e2 g2 bs => q a us H2 e2 (fun H3 e3 => sq_of (e3 _ _ g2)) bs
theorem src_T {ps : HH.Row} (h : Src K PairT te σ H ps) : Src K (BeastAt K) te σ H ps := fun H1 e1 Q q => h H1 e1 Q fun a us H2 e2 sq bs => q a us H2 e2 sq (beasts_2 (BeastsT.be bs))
end
theorem ep_sorted {K : PySem.W.Frag} {σ : L2.St} {H : Hp} {te : TE} {ps qs : HH.Row} (h : Src K (BeastAt K) te σ H ps) (pm : ps.Perm qs) (pw : qs.Pairwise lexL) : EvPr (BeastAt K) (tCB (rSortedPT K) (tCons te tNil)) σ H qs := fun H1 e1 Q q =>
  h H1 e1 _ fun a us H2 e2 sq bs => ⟨a, us, ps, rfl, sq H2 (Ex.refl H2), all2_b bs, fun ys rs p bys pm2 srt hp => by
    have := sort_one (pm2.trans pm) srt (pw_no pw)
    subst this
    have nT := Ex.new (o := .lst ys) hp
    exact q p ys _ (fresh_back e2 hp) (e2.trans nT) upd_same (beasts_2 (bys.ex nT))⟩
end HH
set_option maxHeartbeats 4000000
namespace HH
open PySem PySem.Spec PyProof.Rows L2 Evl RZ
def passP (rs : HH.Row) (i k : Nat) : Bool := decide (barN rs i k < sS rs (i + 1 + k))
def passT (rs : HH.Row) : HH.Row := tabP (passP rs) rs.length rs.length
theorem mem_passT {rs : HH.Row} {x : Int × Int} : x ∈ passT rs ↔ ∃ i j : Nat, i < j ∧ j < rs.length ∧ x = ((i : Int), (j : Int)) ∧ barN rs i (j - i - 1) < sS rs j := by
  unfold passT
  rw [mem_tabP]
  constructor
  · rintro ⟨i, j, h1, h2, h3, h4⟩
    unfold passP at h4
    rw [show i + 1 + (j - i - 1) = j by omega] at h4
    exact ⟨i, j, h1, h2, h3, of_decide_eq_true h4⟩
  · rintro ⟨i, j, h1, h2, h3, h4⟩
    refine ⟨i, j, h1, h2, h3, ?_⟩
    unfold passP
    rw [show i + 1 + (j - i - 1) = j by omega]
    exact decide_eq_true h4
theorem tab_passT {rs : HH.Row} {L : List Cow} (ht : ∀ b ∈ rs, 0 ≤ b.2) (st : Steps (tag 0 rs) L) (nf : Nf L) : tab (L.map (·.1)) rs.length rs.length = passT rs :=
  pw_same (pw_tab _ _ _) (pw_tabP _ _ _) fun x => (mem_tabN ht st nf).trans mem_passT.symm
theorem passT_small {rs : HH.Row} (h : rs.length ≤ 30) : (passT rs).length ≤ 900 := tabP_small _ h
def putR (rs : HH.Row) (w : Nat) (b : Int × Int) : HH.Row := rs.take w ++ [b] ++ rs.drop (w + 1)
def fedR (rs : HH.Row) (w : Nat) (d : Int) : HH.Row := putR rs w (sS rs w + d, tS rs w)
section
variable {K : PySem.W.Frag} {σ : L2.St} {H : Hp} {ta tb te te2 : TE} {t : TT} {R : PrT} {v : V}
end
end HH
set_option maxHeartbeats 4000000
namespace HH
open PySem PySem.Spec PyProof.Rows L2 Evl RZ
section
variable {K : PySem.W.Frag} {σ : L2.St} {H : Hp} {v : V}
end
end HH
set_option maxHeartbeats 4000000
namespace HH
open PySem PySem.Spec PyProof.Rows L2 Evl RZ
def aheadP (rs : HH.Row) (w j : Nat) : Bool := if j < w then !decide (barN rs j (w - j - 1) < sS rs w) else if w < j then decide (barN rs w (j - w - 1) < sS rs j) else false
def placeN (rs : HH.Row) (w : Nat) : Nat := (List.range rs.length).countP (aheadP rs w)
structure LeastF (rs : HH.Row) (w k : Nat) (F : Int) : Prop where
  nn : 0 ≤ F
  at' : placeN (fedR rs w F) w ≤ k
  no : ∀ f, 0 ≤ f → f < F → k < placeN (fedR rs w f) w
theorem LeastF.one {rs : HH.Row} {w k : Nat} {F G : Int} (a : LeastF rs w k F) (b : LeastF rs w k G) : F = G := by
  rcases Int.lt_trichotomy F G with h | h | h
  · have := b.no F a.nn h
    have := a.at'
    omega
  · exact h
  · have := a.no G b.nn h
    have := b.at'
    omega
end HH
set_option maxHeartbeats 4000000
namespace HH
open PySem PySem.Spec PyProof.Rows L2 Evl RZ
def CowAt (H : Hp) (v : V) (c : Cow) : Prop := ∃ p, v = .ref p ∧ H p = some (.tup [.int (c.1 : Int), .int c.2.1, .int c.2.2])
theorem CowAt.ex {H H' : Hp} {v : V} {c : Cow} (h : CowAt H v c) (e : Ex H H') : CowAt H' v c := by
  obtain ⟨p, rfl, hp⟩ := h
  exact ⟨p, rfl, e _ _ hp⟩
theorem CowAt.ls {H : Hp} {v : V} {c : Cow} {D : Addr} {xs ys : List V} (h : CowAt H v c) (hD : H D = some (.lst xs)) : CowAt (upd H D (.lst ys)) v c := by
  obtain ⟨p, rfl, hp⟩ := h
  refine ⟨p, rfl, ?_⟩
  rw [upd_ne (ne_of hp hD fun z => nomatch z)]
  exact hp
theorem All2.split {α : Type} {R : V → α → Prop} : ∀ {A B : List α} {us : List V}, All2 R us (A ++ B) → ∃ u1 u2, us = u1 ++ u2 ∧ All2 R u1 A ∧ All2 R u2 B
  | [], B, us, h => ⟨[], us, rfl, .nil, h⟩
  | a :: A, B, _, .cons r h => by
    obtain ⟨u1, u2, rfl, h1, h2⟩ := All2.split (A := A) h
    exact ⟨_ :: u1, u2, rfl, .cons r h1, h2⟩
section
variable {K : PySem.W.Frag} {σ : L2.St} {H : Hp} {tl : TE} {D : Ends} {tz tu : TS} {g : TG}
end
section
variable {K : PySem.W.Frag} {σ : L2.St} {H : Hp} {te te2 : TE} {t : TT} {v : V}
end
end HH
set_option maxHeartbeats 4000000
namespace HH
open PySem PySem.Spec PyProof.Rows L2 Evl RZ
theorem EndAt.ne {K : PySem.W.Frag} {H H' : Hp} {p q ot lp : Addr} {v' : V} {pvs : List V} {L : List Cow} {ps : HH.Row} {n : Nat} (E : EndAt K H H' p q v' ot lp pvs L ps n) : lp ≠ p := fun z => by
  have a := E.lst
  have c := E.prs
  obtain ⟨x, y, z', e, _⟩ := E.bx
  rw [z, e] at a
  cases a
  match ps, c with
  | [], c => exact absurd c.1 (by simp)
  | b0 :: _, c =>
    obtain ⟨u, hu, pp, rfl, _⟩ := c.2 0 b0 rfl
    cases hu
end HH
set_option maxHeartbeats 4000000
namespace HH
open PySem PySem.Spec PyProof.Rows L2 Evl RZ
section
variable {K : PySem.W.Frag} {σ : L2.St} {H : Hp} {ta : TE} {E : XK} {v : V}
end
end HH
set_option maxHeartbeats 4000000
namespace HH
open PySem PySem.Spec PyProof.Rows L2 Evl RZ
end HH
set_option maxHeartbeats 4000000
namespace HH
open PySem PySem.Spec PyProof.Rows L2 Evl RZ
def Lk (a e : HH.Row) : Prop := ∃ M, Steps (tag 0 a) M ∧ rowsOf M = e
theorem Lk.rfl' (a : HH.Row) : Lk a a := ⟨tag 0 a, .refl _, tag_snd 0 a⟩
theorem Lk.trans {a b c : HH.Row} (h : Lk a b) (g : Lk b c) : Lk a c := by
  obtain ⟨M, s, rfl⟩ := h
  obtain ⟨N, t, rfl⟩ := g
  have t' := t.map (HH.ixN (M.map (·.1)))
  rw [rl_tag] at t'
  exact ⟨_, s.trans t', rl_rows _ _⟩
theorem rowsOf_app (L M : List Cow) : rowsOf (L ++ M) = rowsOf L ++ rowsOf M := List.map_append
theorem Lk.under {a e : HH.Row} (p q : HH.Row) (h : Lk a e) : Lk (p ++ a ++ q) (p ++ e ++ q) := by
  obtain ⟨M, s, rfl⟩ := h
  have s1 := (s.map (p.length + ·)).under (tag 0 p) (tag (p.length + a.length) q)
  rw [← tag_rl 0 p.length, Nat.add_zero] at s1
  refine ⟨tag 0 p ++ rlL (p.length + ·) M ++ tag (p.length + a.length) q, ?_, ?_⟩
  · rw [tag_app, tag_app, Nat.zero_add, Nat.zero_add, List.length_append]
    exact s1
  · rw [rowsOf_app, rowsOf_app, rl_rows, show rowsOf (tag 0 p) = p from tag_snd 0 p, show rowsOf (tag (p.length + a.length) q) = q from tag_snd _ q]
theorem Lk.app {a e b f : HH.Row} (h : Lk a e) (g : Lk b f) : Lk (a ++ b) (e ++ f) := by
  have h1 := h.under [] b
  have g1 := g.under e []
  rw [List.nil_append, List.nil_append] at h1
  rw [List.append_nil, List.append_nil] at g1
  exact h1.trans g1
theorem Lk.tl {a e : HH.Row} (h : Lk a e) (ht : ∀ b ∈ a, 0 ≤ b.2) : ∀ b ∈ e, 0 ≤ b.2 := by
  obtain ⟨M, s, rfl⟩ := h
  exact tolls_rows (s.tl (good_tag ht).tl)
def EndR (a e : HH.Row) : Prop := ∃ L, Steps (tag 0 a) L ∧ Nf L ∧ rowsOf L = e
theorem EndR.lk {a e : HH.Row} (h : EndR a e) : Lk a e := by
  obtain ⟨L, s, _, r⟩ := h
  exact ⟨L, s, r⟩
theorem EndR.one {a e f : HH.Row} (ht : ∀ b ∈ a, 0 ≤ b.2) (h : EndR a e) (g : EndR a f) : e = f := by
  obtain ⟨L, s, n, rfl⟩ := h
  obtain ⟨M, t, m, rfl⟩ := g
  rw [nf_any (good_tag ht).tl s n t m]
theorem EndR.back {a b e : HH.Row} (h : Lk a b) (g : EndR b e) : EndR a e := by
  obtain ⟨M, s, rfl⟩ := h
  obtain ⟨N, t, n, rfl⟩ := g
  have t' := t.map (HH.ixN (M.map (·.1)))
  rw [rl_tag] at t'
  exact ⟨_, s.trans t', nf_map n, rl_rows _ _⟩
def Jn (a b : HH.Row) : Prop := ∃ e, Lk a e ∧ Lk b e
theorem Jn.same (a : HH.Row) : Jn a a := ⟨a, Lk.rfl' a, Lk.rfl' a⟩
theorem Jn.to {a e : HH.Row} (h : Lk a e) : Jn a e := ⟨e, h, Lk.rfl' e⟩
theorem Jn.of {a e : HH.Row} (h : Lk e a) : Jn a e := ⟨a, Lk.rfl' a, h⟩
theorem Jn.app {a b c d : HH.Row} (h : Jn a b) (g : Jn c d) : Jn (a ++ c) (b ++ d) := by
  obtain ⟨e, h1, h2⟩ := h
  obtain ⟨f, g1, g2⟩ := g
  exact ⟨e ++ f, h1.app g1, h2.app g2⟩
inductive Jns : List HH.Row → List HH.Row → Prop
  | nil : Jns [] []
  | cons {a b : HH.Row} {rr ss : List HH.Row} : Jn a b → Jns rr ss → Jns (a :: rr) (b :: ss)
theorem Jns.len {rr ss : List HH.Row} (h : Jns rr ss) : rr.length = ss.length := by
  induction h with
  | nil => rfl
  | cons _ _ ih => rw [List.length_cons, List.length_cons, ih]
theorem Jns.of : ∀ {rr ss : List HH.Row}, rr.length = ss.length → (∀ (i : Nat) (a b : HH.Row), rr[i]? = some a → ss[i]? = some b → Jn a b) → Jns rr ss
  | [], [], _, _ => .nil
  | a :: rr, b :: ss, hl, h => .cons (h 0 a b rfl rfl) (Jns.of (by simpa using hl) fun i x y hx hy => h (i + 1) x y hx hy)
theorem Jn.flat : ∀ {rr ss : List HH.Row}, Jns rr ss → Jn rr.flatten ss.flatten
  | _, _, .nil => Jn.same []
  | _, _, .cons h t => by
    rw [List.flatten_cons, List.flatten_cons]
    exact h.app (Jn.flat t)
def JnC (L M : List Cow) : Prop := ∃ N, Steps L N ∧ Steps M N
end HH
set_option maxHeartbeats 4000000
namespace HH
open PySem PySem.Spec PyProof.Rows L2 Evl RZ
structure Moved (K : PySem.W.Frag) (H : Hp) (q : Addr) (rs : HH.Row) (L : List Cow) : Prop where
  at_ : LastAt K H q L
  jn : JnC (tag 0 rs) L
  ids : (L.map (·.1)).Perm (List.range rs.length)
  tl : ∀ x ∈ L, 0 ≤ x.2.2
theorem Moved.ex {K : PySem.W.Frag} {H H' : Hp} {q : Addr} {rs : HH.Row} {L : List Cow} (h : Moved K H q rs L) (e : Ex H H') : Moved K H' q rs L := ⟨h.at_.mono e, h.jn, h.ids, h.tl⟩
end HH
set_option maxHeartbeats 4000000
namespace HH
open PySem PySem.Spec PyProof.Rows L2 Evl RZ
end HH
set_option maxHeartbeats 4000000
namespace HH
open PySem PySem.Spec PyProof.Rows L2 Evl RZ
section
variable {K : PySem.W.Frag} {σ : L2.St} {H H' : Hp} {ta tb te : TE} {v : V}
end
structure TabAt (K : PySem.W.Frag) (H : Hp) (t : Addr) (ll : List (List Nat)) : Prop where
  ex : ∃ (us : List V), SqL K H t us ∧ us.length = ll.length ∧ ∀ (i : Nat) (l : List Nat), ll[i]? = some l → ∃ p, us[i]? = some (.ref p) ∧ SqL K H p (natsV l)
theorem TabAt.mono {K : PySem.W.Frag} {H H' : Hp} {t : Addr} {ll : List (List Nat)} (h : TabAt K H t ll) (e : Ex H H') : TabAt K H' t ll := by
  obtain ⟨us, h1, h2, h3⟩ := h.ex
  exact ⟨us, ex_l e h1, h2, fun i l hl => by
    obtain ⟨p, g1, g2⟩ := h3 i l hl
    exact ⟨p, g1, ex_l e g2⟩⟩
theorem TabAt.of {K : PySem.W.Frag} {H0 H : Hp} {t : Addr} {us : List V} {ll : List (List Nat)} (h : SqL K H t us) (f : ListsF H0 H us ll) : TabAt K H t ll := ⟨us, h, f.len, fun i l hl => by
  obtain ⟨p, g1, _, g3⟩ := f.at' i l hl
  exact ⟨p, g1, sq_of g3⟩⟩
section
variable {K : PySem.W.Frag} {σ : L2.St} {H H' : Hp} {ta tb te : TE} {v : V}
theorem TabAt.row {t : Addr} {ll : List (List Nat)} {i : Nat} {l : List Nat} (h : TabAt K H t ll) (hl : ll[i]? = some l) (h1 : Ev ta σ H (.ref t)) (h2 : Ev tb σ H (.int (i : Int))) : ∃ p, Ev (tOp (rIxL K) ta tb) σ H (.ref p) ∧ SqL K H p (natsV l) := by
  obtain ⟨us, g1, g2, g3⟩ := h.ex
  obtain ⟨p, q1, q2⟩ := g3 i l hl
  exact ⟨p, ev_op h1 h2 (rv_ixL (K := K) g1 (atI_nat q1)), q2⟩
end
end HH
set_option maxHeartbeats 4000000
namespace HH
open PySem PySem.Spec PyProof.Rows L2 Evl RZ
structure HasX (P : Program) (w : World) (K : PySem.W.Frag) (mg : Str → Option Value) (base : Heap) (k : Nat) (x : Str) (ps : List Str) (sp : Sp) (f : Addr) (fd : FuncData) : Prop where
  G : FnOk P w K mg base (L2.CX P w) k f fd ps sp
  g : mg x = some (.ref f)
  kp : PySem.W.keepIn K (.ref f) = true
  b : Binds K fd ps []
structure HasE (P : Program) (w : World) (K : PySem.W.Frag) (mg : Str → Option Value) (base : Heap) (bk : Bk) (x f : Str) (C fI : Addr) (fd : FuncData) : Prop where
  T : ExcTy K bk f C fI
  F : FnOk P w K mg base CX0 1 fI fd ["self", f] (spIni C f)
  b : Binds K fd ["self", f] []
  g : mg x = some (.ref C)
theorem Has.imp {P : Program} {w : World} {K : PySem.W.Frag} {mg : Str → Option Value} {base : Heap} {k : Nat} {x : Str} {ps : List Str} {sp sp' : Sp} {f : Addr} {fd : FuncData} (h : Has P w K mg base k x ps sp f fd) (i : ∀ vs H Q E, sp' vs H Q E → sp vs H Q E) : Has P w K mg base k x ps sp' f fd := ⟨h.G.imp i, h.g, h.kp, h.b⟩
section
variable {K : PySem.W.Frag} {σ : L2.St} {H : Hp} {ta : TA} {te : TE} {C a d : Addr} {fs : List (Str × V)}
end
end HH
set_option maxHeartbeats 4000000
namespace HH
open PySem PySem.Spec PyProof.Rows L2 Evl RZ
end HH
set_option maxHeartbeats 4000000
namespace HH
open PySem PySem.Spec PyProof.Rows L2 Evl RZ
end HH
set_option maxHeartbeats 4000000
namespace HH
open PySem PySem.Spec PyProof.Rows L2 Evl RZ
def Shw (n : Nat) (d : PyData) : Prop := d.showable = true ∧ d.shown.length ≤ n
theorem Shw.le {n m : Nat} {d : PyData} (h : Shw n d) (e : n ≤ m) : Shw m d := ⟨h.1, Nat.le_trans h.2 e⟩
end HH
set_option maxHeartbeats 4000000
namespace HH
open PySem PySem.Spec PyProof.Rows L2 Evl
def ZipA (H : Hp) (us : List V) (ps : List (V × V)) : Prop := All2 (fun u p => ∃ T, u = .ref T ∧ H T = some (.tup [p.1, p.2])) us ps
theorem ZipA.ex {H H' : Hp} {us : List V} {ps : List (V × V)} (h : ZipA H us ps) (e : Ex H H') : ZipA H' us ps := All2.mono (fun _ _ ⟨T, a, b⟩ => ⟨T, a, e _ _ b⟩) h
theorem ZipA.put {H : Hp} {q : Addr} {xs ys : List V} {us : List V} {ps : List (V × V)} (h : ZipA H us ps) (hq : H q = some (.lst xs)) : ZipA (upd H q (.lst ys)) us ps := All2.mono (fun _ _ ⟨T, a, b⟩ => ⟨T, a, by
  rw [upd_ne (fun z => by rw [z, hq] at b; cases b)]
  exact b⟩) h
def ZS (h : Heap) (H : Hp) (z TI TO i1 i2 a b : Addr) (i : Nat) : Prop := IsPair h TI (.ref i1) (.ref i2) ∧ h.IsListIter i1 a i ∧ h.IsListIter i2 b i ∧
  ((IsZip h z TI TO .none ∧ ∃ x y, IsPair h TO x y) ∨ ∃ (T : Addr) (f : Bool) (p q : V), IsZipHeld h z TI TO T f ∧ H T = some (.tup [p, q]) ∧ ∃ o, h.get? TO = some o)
section
variable {X : Cx} {pins : List (Addr × Obj)} {σ : L2.St} {H H0 : Hp} {s : Shared} {z TI TO i1 i2 a b q : Addr} {xs ys : List V} {A A1 : Around} {E : Value → Shared → Prop}
abbrev FpL (X : Cx) (pins : List (Addr × Obj)) (H : Hp) (l : List Addr) : Prop := ∀ c ∈ l, FpOk X pins H c
theorem FpL.up {l : List Addr} {T : Addr} {o : HO} (h : FpL X pins H l) (ne : ∀ c ∈ l, c ≠ T) : FpL X pins (upd H T o) l := fun c hc => by
  obtain ⟨f0, f1⟩ := h c hc
  exact ⟨by rw [upd_ne (ne c hc)]; exact f0, f1⟩
theorem ZS.type {i : Nat} (h : ZS s.heap H z TI TO i1 i2 a b i) : s.TypeIs (.ref z) "zip" := by
  obtain ⟨_, _, _, h | h⟩ := h
  · exact ⟨_, h.1, rfl⟩
  · obtain ⟨_, _, _, _, h, _⟩ := h
    exact ⟨_, h, rfl⟩
theorem ZS.keep {h h' : Heap} {H' : Hp} {i : Nat} (st : ZS h H z TI TO i1 i2 a b i) (k : ∀ c ∈ [z, TI, TO, i1, i2], ∀ o, h.get? c = some o → h'.get? c = some o) (kH : ∀ T p q, H T = some (.tup [p, q]) → H' T = some (.tup [p, q])) : ZS h' H' z TI TO i1 i2 a b i := by
  obtain ⟨t, a1, a2, g⟩ := st
  refine ⟨k TI (by simp) _ t, a1.at fun o e => k i1 (by simp) o e, a2.at fun o e => k i2 (by simp) o e, ?_⟩
  rcases g with ⟨g1, x, y, g2⟩ | ⟨T, f, p, q, g1, g2, o, g3⟩
  · exact .inl ⟨k z (by simp) _ g1, x, y, k TO (by simp) _ g2⟩
  · exact .inr ⟨T, f, p, q, k z (by simp) _ g1, kH _ _ _ g2, o, k TO (by simp) _ g3⟩
theorem ZS.put {its its' : List Value} {n i : Nat} {us vs : List V} {f : Array Value → Array Value} (hf : FpL X pins H [z, TI, TO, i1, i2]) (hq : H q = some (.lst us)) (st : ZS s.heap H z TI TO i1 i2 a b i) :
    ZS (s.heap.update q (Obj.mapSeq f)) (upd H q (.lst vs)) z TI TO i1 i2 a b i :=
  st.keep (fun c hc o e => (Heap.get?_update_other s.heap (Obj.mapSeq f) (fun w => by
    have := (hf c hc).1
    rw [← w, hq] at this
    cases this)).trans e) (fun T p r hT => by
      rw [upd_ne (fun w => by rw [w, hq] at hT; cases hT)]
      exact hT)
theorem FpL.put {us vs : List V} (hf : FpL X pins H [z, TI, TO, i1, i2]) (hq : H q = some (.lst us)) : FpL X pins (upd H q (.lst vs)) [z, TI, TO, i1, i2] := hf.up fun c hc w => by
  have := (hf c hc).1
  rw [w, hq] at this
  cases this
end
end HH
set_option maxHeartbeats 4000000
namespace HH
open PySem PySem.Spec PyProof.Rows L2 Evl
structure Went (K : PySem.W.Frag) (H : Hp) (v : V) (o : Addr) (rs : HH.Row) (L : List Cow) : Prop where
  row : RowAt K H v rs
  len : rs.length ≤ 30
  tl : ∀ b ∈ rs, 0 ≤ b.2
  ord : SqT K H o (natsV (L.map (·.1)))
  run : ∃ ds, MRun (tag 0 rs) L ds
theorem Went.ex {K : PySem.W.Frag} {H H' : Hp} {v : V} {o : Addr} {rs : HH.Row} {L : List Cow} (h : Went K H v o rs L) (e : Ex H H') : Went K H' v o rs L := ⟨h.row.ex e, h.len, h.tl, ex_t e h.ord, h.run⟩
theorem run_ids {rs : HH.Row} {L : List Cow} {ds : List Deed} (tl : ∀ b ∈ rs, 0 ≤ b.2) (r : MRun (tag 0 rs) L ds) : (L.map (·.1)).Perm (List.range rs.length) := by
  obtain ⟨E, sE, nE⟩ := nf_is (good_tag tl).tl
  obtain ⟨B, sB, nB⟩ := ff_is (good_tag tl).tl
  exact ((r.both (good_tag tl).tl sE nE sB nB).2.1).ids.symm.trans sE.idsT
theorem Went.ids {K : PySem.W.Frag} {H : Hp} {v : V} {o : Addr} {rs : HH.Row} {L : List Cow} (h : Went K H v o rs L) : (L.map (·.1)).Perm (List.range rs.length) := by
  obtain ⟨ds, r⟩ := h.run
  exact run_ids h.tl r
theorem Went.nd {K : PySem.W.Frag} {H : Hp} {v : V} {o : Addr} {rs : HH.Row} {L : List Cow} (h : Went K H v o rs L) : (L.map (·.1)).Nodup := h.ids.nodup_iff.mpr List.nodup_range
theorem Went.lenL {K : PySem.W.Frag} {H : Hp} {v : V} {o : Addr} {rs : HH.Row} {L : List Cow} (h : Went K H v o rs L) : (L.map (·.1)).length = rs.length := by rw [h.ids.length_eq, List.length_range]
theorem Went.all {K : PySem.W.Frag} {H : Hp} {v : V} {o : Addr} {rs : HH.Row} {L : List Cow} (h : Went K H v o rs L) (x : Nat) (hx : x < (L.map (·.1)).length) : x ∈ L.map (·.1) := h.ids.mem_iff.mpr (List.mem_range.mpr (by rw [← h.lenL]; exact hx))
end HH
set_option maxHeartbeats 4000000
namespace HH
open PySem PySem.Spec PyProof.Rows L2 Evl
section
variable {e : List Nat} {rs ps : HH.Row} {i j n : Nat}
end
end HH
set_option maxHeartbeats 4000000
namespace HH
open PySem PySem.Spec PyProof.Rows L2 Evl
structure Keeps (rs : HH.Row) (o : List Nat) : Prop where
  ids : o.Perm (List.range rs.length)
  kp : ∀ E B, Steps (tag 0 rs) E → Nf E → FSteps (tag 0 rs) B → Ff B → ∀ i j, i < j → j < rs.length → bef (E.map (·.1)) j i = false → bef (B.map (·.1)) j i = false → bef o j i = false
theorem Keeps.nd {rs : HH.Row} {o : List Nat} (k : Keeps rs o) : o.Nodup := k.ids.nodup_iff.mpr List.nodup_range
theorem Keeps.len {rs : HH.Row} {o : List Nat} (k : Keeps rs o) : o.length = rs.length := by rw [k.ids.length_eq, List.length_range]
end HH
set_option maxHeartbeats 4000000
namespace HH
open PySem PySem.Spec PyProof.Rows L2 Evl
structure CellP (H0 H : Hp) (as : List Addr) (t p : Nat → Int) : Prop where
  nd : as.Nodup
  old : ∀ a ∈ as, H0 a = none
  at' : ∀ (i : Nat) (a : Addr), as[i]? = some a → H a = some (.lst [.int (t i), .int (p i)])
theorem CellP.ex {H0 H H' : Hp} {as : List Addr} {t p : Nat → Int} (h : CellP H0 H as t p) (e : Ex H H') : CellP H0 H' as t p := ⟨h.nd, h.old, fun i a ha => e _ _ (h.at' i a ha)⟩
theorem CellP.app {H0 H : Hp} {as : List Addr} {T : Addr} (h : CellP H0 H as (fun _ => 0) (fun _ => 0)) (h0 : H0 T = none) (hT : H T = none) : CellP H0 (upd H T (.lst [.int 0, .int 0])) (as ++ [T]) (fun _ => 0) (fun _ => 0) := by
  have nT : T ∉ as := fun m => by
    obtain ⟨i, hi⟩ := List.getElem?_of_mem m
    rw [h.at' i T hi] at hT
    cases hT
  refine ⟨List.nodup_append.mpr ⟨h.nd, by simp, fun x hx y hy e => nT (by rw [List.mem_singleton] at hy; rw [← hy, ← e]; exact hx)⟩, fun a ha => ?_, fun i a ha => ?_⟩
  · rcases List.mem_append.mp ha with m | m
    · exact h.old a m
    · rw [List.mem_singleton.mp m]
      exact h0
  · by_cases c : i < as.length
    · rw [List.getElem?_append_left c] at ha
      rw [upd_ne (fun z => nT (by rw [← z]; exact List.mem_of_getElem? ha))]
      exact h.at' i a ha
    · have hlt : i < (as ++ [T]).length := (List.getElem?_eq_some_iff.mp ha).1
      rw [List.length_append] at hlt
      have hlt : i < as.length + 1 := hlt
      have e : i = as.length := by omega
      rw [e, List.getElem?_append_right (Nat.le_refl _), Nat.sub_self] at ha
      cases ha
      exact upd_same
theorem CellP.ne {H0 H : Hp} {as : List Addr} {t p : Nat → Int} (h : CellP H0 H as t p) {i k : Nat} {a c : Addr} (ha : as[i]? = some a) (hc : as[k]? = some c) (n : k ≠ i) : c ≠ a := fun z => by
  subst z
  have h1 := (List.getElem?_eq_some_iff.mp ha).1
  exact n ((List.getElem?_inj h1 h.nd).mp (ha.trans hc.symm)).symm
section
variable {K : PySem.W.Frag} {σ : L2.St} {H : Hp} {te : TE} {v : V} {Q : VK} {j : Nat} {vs : List Nat}
end
section
variable {K : PySem.W.Frag} {σ : L2.St} {H H0 : Hp} {tf tx tv : TE} {D : Ends} {fa a : Addr} {as : List Addr} {t p : Nat → Int} {i : Nat} {d : Int}
end
end HH
set_option maxHeartbeats 4000000
namespace HH
open PySem PySem.Spec PyProof.Rows L2 Evl
section
variable {e : List Nat} {rs ps : HH.Row} {i j n : Nat}
end
section
variable {K : PySem.W.Frag} {σ : L2.St} {H : Hp} {te t1 t2 : TE} {o : Addr} {l : List Nat} {j : Nat} {vs : List Nat}
theorem ep_ordT (f g : Nat → Int) (ho : Ev te σ H (.ref o)) (hs : SqT K H o (natsV l)) (hl : l.length ≤ 1000) (hw : ∀ x, wipe ((wipe σ vs).set j (some x)) vs = wipe σ vs)
    (h1 : ∀ x ∈ l, ∀ H1, Ex H H1 → Ev t1 ((wipe σ vs).set j (some (.int (x : Int)))) H1 (.int (f x))) (h2 : ∀ x ∈ l, ∀ H1, Ex H H1 → Ev t2 ((wipe σ vs).set j (some (.int (x : Int)))) H1 (.int (g x))) {H0 : Hp} (e : Ex H H0) (Q : VK)
    (q : ∀ (d : Addr) (us : List V) (H2 : Hp), H0 d = none → Ex H0 H2 → H2 d = some (.lst us) → BeastsT H2 us (l.map fun x => (f x, g x)) → Q (.ref d) H2) : tLc (iTup K te) (gName j) tYes (tTup (tCons t1 (tCons t2 tNil))) vs σ H0 Q :=
  ho H0 e _ fun H1 e1 => ⟨o, rfl, ⟨_, ex_t (e.trans e1) hs⟩, fun Dl hD => by
    refine lc_it (walk_tup (xs := natsV l)) (fun k H2 => Ex H1 H2 ∧ ∃ us, H2 Dl = some (.lst us) ∧ BeastsT H2 us ((l.take k).map fun x => (f x, g x))) ⟨Ex.new hD, [], upd_same, .nil⟩ (fun k H2 _ p => ex_t ((e.trans e1).trans p.1) hs) (fun k x H2 H3 hk p y => ?_) (fun H2 p => ?_)
    · obtain ⟨rfl, hx⟩ := y
      obtain ⟨p1, us, p2, p3⟩ := p
      have hk' : k < l.length := by
        rw [natsV_len] at hk
        exact hk
      have hx' : x = .int (l[k] : Int) := by
        unfold natsV at hx
        rw [List.getElem?_map, List.getElem?_eq_getElem hk'] at hx
        exact (Option.some.inj hx).symm
      subst hx'
      have mem : l[k] ∈ l := List.getElem_mem hk'
      refine ⟨hw _, t_yes ?_⟩
      have e2 := (e.trans e1).trans p1
      refine (h1 _ mem H3 e2) H3 (Ex.refl H3) _ fun H4 e4 => (h2 _ mem H3 e2) H4 e4 _ fun H5 e5 => ⟨by show 2 ≤ sizeLine; decide, fun TT hT => ?_⟩
      have g1 : (upd H5 TT (.tup [.int (f l[k]), .int (g l[k])])) Dl = some (.lst us) := Ex.new hT _ _ (e5 _ _ (e4 _ _ p2))
      have ln : us.length = k := by
        rw [All2.len p3, List.length_map, List.length_take]
        omega
      refine ⟨us, g1, by rw [ln]; exact sz_lt (by omega), Ex.mut (p1.trans ((e4.trans e5).trans (Ex.new hT))) hD, us ++ [.ref TT], upd_same, ?_⟩
      have tk : (l.take (k + 1)).map (fun x => (f x, g x)) = (l.take k).map (fun x => (f x, g x)) ++ [(f l[k], g l[k])] := by
        rw [List.take_add_one, List.getElem?_eq_getElem hk', List.map_append]
        rfl
      rw [tk]
      exact BeastsT.exB' (All2.app (BeastsT.ex' (BeastsT.ex' p3 (e4.trans e5)) (Ex.new hT)) (.cons ⟨TT, rfl, upd_same⟩ .nil)) (ExB.refl _ _).upd g1
    · obtain ⟨p1, us, p2, p3⟩ := p
      rw [natsV_len, List.take_length] at p3
      exact q Dl us H2 (fresh_back e1 hD) (e1.trans p1) p2 p3⟩
theorem er_ordT (f g : Nat → Int) (ho : Ev te σ H (.ref o)) (hs : SqT K H o (natsV l)) (hl : l.length ≤ 1000) (hw : ∀ x, wipe ((wipe σ vs).set j (some x)) vs = wipe σ vs)
    (h1 : ∀ x ∈ l, ∀ H1, Ex H H1 → Ev t1 ((wipe σ vs).set j (some (.int (x : Int)))) H1 (.int (f x))) (h2 : ∀ x ∈ l, ∀ H1, Ex H H1 → Ev t2 ((wipe σ vs).set j (some (.int (x : Int)))) H1 (.int (g x))) : EvR K (tThen (tLc (iTup K te) (gName j) tYes (tTup (tCons t1 (tCons t2 tNil))) vs) (kTup K)) σ H (l.map fun x => (f x, g x)) := fun H0 e Q q =>
  ep_ordT f g ho hs hl hw h1 h2 e _ fun d us H2 hd e2 g2 b2 => .inl ⟨d, us, rfl, sq_of g2, fun rt hrt => q _ _ (e2.trans (Ex.new hrt)) ⟨rt, us, rfl, st_of upd_same, (BeastsT.be b2).ex (Ex.new hrt)⟩⟩
end
end HH
set_option maxHeartbeats 4000000
namespace HH
open PySem PySem.Spec PyProof.Rows L2
section
variable {w : World} {P : Program} {s : Shared} {A : Around} {E : Value → Shared → Prop}
end
section
variable {X : Cx}
end
end HH
set_option maxHeartbeats 4000000
namespace HH
open PySem PySem.Spec PyProof.Rows L2 Evl RZ
end HH
set_option maxHeartbeats 4000000
namespace HH
open PySem PySem.Spec PyProof.Rows L2 Evl RZ
structure Cells (H0 H : Hp) (as : List Addr) (ll : Nat → List Nat) : Prop where
  nd : as.Nodup
  old : ∀ a ∈ as, H0 a = none
  at' : ∀ (i : Nat) (a : Addr), as[i]? = some a → H a = some (.lst (natsV (ll i)))
theorem Cells.ex {H0 H H' : Hp} {as : List Addr} {ll : Nat → List Nat} (h : Cells H0 H as ll) (e : Ex H H') : Cells H0 H' as ll := ⟨h.nd, h.old, fun i a ha => e _ _ (h.at' i a ha)⟩
theorem Cells.congr {H0 H : Hp} {as : List Addr} {ll lm : Nat → List Nat} (h : Cells H0 H as ll) (e : ∀ i, i < as.length → lm i = ll i) : Cells H0 H as lm := ⟨h.nd, h.old, fun i a ha => by
  rw [e i (List.getElem?_eq_some_iff.mp ha).1]
  exact h.at' i a ha⟩
theorem Cells.put {H0 H : Hp} {as : List Addr} {ll lm : Nat → List Nat} {i : Nat} {a : Addr} {l : List Nat} (h : Cells H0 H as ll) (ha : as[i]? = some a) (h1 : lm i = l) (h2 : ∀ k, k ≠ i → lm k = ll k) : Cells H0 (upd H a (.lst (natsV l))) as lm := ⟨h.nd, h.old, fun k c hc => by
  by_cases z : k = i
  · subst z
    rw [ha] at hc
    cases hc
    rw [h1]
    exact upd_same
  · have ne : c ≠ a := fun e => by
      subst e
      obtain ⟨g1, g2⟩ := List.getElem?_eq_some_iff.mp hc
      exact z ((List.getElem?_inj g1 h.nd).mp (hc.trans ha.symm))
    rw [upd_ne ne, h2 k z]
    exact h.at' k c hc⟩
theorem Cells.app {H0 H : Hp} {as : List Addr} {p : Addr} (h : Cells H0 H as fun _ => []) (h0 : H0 p = none) (hp : H p = none) : Cells H0 (upd H p (.lst [])) (as ++ [p]) fun _ => [] := by
  have np : p ∉ as := fun z => by
    obtain ⟨i, hi⟩ := List.mem_iff_getElem?.mp z
    have := h.at' i p hi
    rw [hp] at this
    cases this
  refine ⟨?_, fun a ha => ?_, fun i a ha => ?_⟩
  · rw [List.nodup_append]
    exact ⟨h.nd, List.pairwise_singleton _ p, fun a ha b hb e => np (by rw [List.mem_singleton.mp hb] at e; rw [← e]; exact ha)⟩
  · rcases List.mem_append.mp ha with ha | ha
    · exact h.old a ha
    · rw [List.mem_singleton.mp ha]
      exact h0
  · by_cases hi : i < as.length
    · rw [List.getElem?_append_left hi] at ha
      have ne : a ≠ p := fun e => np (by rw [← e]; exact List.mem_of_getElem? ha)
      rw [upd_ne ne]
      exact h.at' i a ha
    · rw [List.getElem?_append_right (by omega)] at ha
      match e : i - as.length, ha with
      | 0, ha =>
        cases ha
        exact upd_same
      | k + 1, ha => cases ha
section
variable {K : PySem.W.Frag} {σ : L2.St} {H : Hp} {D : Ends} {tz tu : TS}
end
end HH
set_option maxHeartbeats 4000000
namespace HH
open PySem PySem.Spec PyProof.Rows L2 Evl RZ
structure WantsD (rs : HH.Row) (who m : Nat) (kvs : List (Key × V)) : Prop where
  val : ∀ j : Nat, who ≤ j + m → j < who → valV kvs (.inl (j : Int)) = some (.int (barN rs j (who - j - 1) + 1))
  key : ∀ kv ∈ kvs, ∃ j : Nat, kv.1 = .inl (j : Int) ∧ j < who ∧ who ≤ j + m
  len : kvs.length ≤ m
theorem WantsD.nil (rs : HH.Row) (who : Nat) : WantsD rs who 0 [] := ⟨fun j h1 h2 => by omega, (fun kv h => nomatch h), Nat.le_refl _⟩
theorem WantsD.put {rs : HH.Row} {who m : Nat} {kvs : List (Key × V)} (w : WantsD rs who m kvs) (hm : m < who) : WantsD rs who (m + 1) (putK kvs (.inl ((who - 1 - m : Nat) : Int)) (.int (barN rs (who - 1 - m) m + 1))) := by
  have no : valV kvs (.inl ((who - 1 - m : Nat) : Int)) = none := by
    cases c : valV kvs (.inl ((who - 1 - m : Nat) : Int)) with
    | none => rfl
    | some x =>
      exfalso
      have z := valV_any (Sum.inl ((who - 1 - m : Nat) : Int)) kvs
      rw [c] at z
      obtain ⟨kv, hkv, e⟩ := List.any_eq_true.mp z
      obtain ⟨j, e2, h1, h2⟩ := w.key kv hkv
      have e3 : kv.1 = .inl ((who - 1 - m : Nat) : Int) := of_decide_eq_true e
      rw [e2] at e3
      injection e3 with e3
      omega
  refine ⟨fun j h1 h2 => ?_, fun kv hkv => ?_, ?_⟩
  · rw [valV_put]
    by_cases c : j = who - 1 - m
    · rw [if_pos (by rw [c]), c, show who - (who - 1 - m) - 1 = m by omega]
    · rw [if_neg (fun z => c (by injection z with z; omega))]
      exact w.val j (by omega) h2
  · rw [putK_new _ no] at hkv
    rcases List.mem_append.mp hkv with h | h
    · obtain ⟨j, a, b, c⟩ := w.key kv h
      exact ⟨j, a, b, by omega⟩
    · rw [List.mem_singleton.mp h]
      exact ⟨who - 1 - m, rfl, by omega, by omega⟩
  · rw [putK_new _ no, List.length_append]
    have := w.len
    show kvs.length + 1 ≤ _
    omega
end HH
set_option maxHeartbeats 4000000
namespace HH
open PySem PySem.Spec PyProof.Rows L2 Evl RZ
section
variable {K : PySem.W.Frag} {σ : L2.St} {H H' : Hp} {ta tb te : TE} {v : V} {Q : VK}
end
end HH
set_option maxHeartbeats 4000000
namespace HH
open PySem PySem.Spec PyProof.Rows L2 Evl RZ
section
variable {K : PySem.W.Frag} {σ : L2.St} {H : Hp} {te ta tb : TE} {t : TT}
end
end HH
namespace HH
open PySem PySem.Spec PyProof.Rows L2 Evl RZ
section
variable {K : PySem.W.Frag} {σ : L2.St} {H : Hp} {te : TE}
theorem eu_tupL {xs : List V} (h : EvL te σ H xs) : EvU (tThen te (kTup K)) σ H xs := fun H1 e Q q => h H1 e _ fun l H2 hl e2 g2 => .inl ⟨l, xs, rfl, sq_of g2, fun p hp => q p _ (fresh_back e2 hp) (e2.trans (Ex.new hp)) upd_same⟩
end
end HH
namespace HH
open PySem PySem.Spec PyProof.Rows L2 Evl RZ
end HH
namespace HH
open PySem PySem.Spec PyProof.Rows L2 Evl RZ
end HH
set_option maxHeartbeats 4000000
namespace HH
open PySem PySem.Spec PyProof.Rows L2 Evl
end HH
set_option maxHeartbeats 4000000
namespace HH
open PySem PySem.Spec PyProof.Rows Srt SrtO
def IsDeed (h : Heap) (v : Value) (b : Bool) (y : Int) : Prop := ∃ a o t u n, v = .ref a ∧ h.get? a = some o ∧ o.cls = .type "tuple" ∧ o.data = .seq #[.str (wordOf b) t, .int y u] n
theorem IsDeed.keeps {h h' : Heap} {v : Value} {b : Bool} {y : Int} (p : IsDeed h v b y) (k : ∀ b o, h.get? b = some o → o.cls = .type "tuple" → h'.get? b = some o) : IsDeed h' v b y := by
  obtain ⟨a, o, t, u, n, e, ho, hc, hd⟩ := p
  exact ⟨a, o, t, u, n, e, k _ _ ho hc, hc, hd⟩
section
variable {prog : Program} {w : World} {A : Around} {E : Value → Shared → Prop} {s : Shared}
end
open L2 Evl
open Classical in
section
variable {X : Cx}
end
end HH
set_option maxHeartbeats 4000000
namespace HH
open PySem PySem.Spec PyProof.Rows L2 Evl
end HH
set_option maxHeartbeats 4000000
namespace HH
open PySem PySem.Spec PyProof.Rows L2 Evl
def FrzT (H : Hp) (a : Addr) (xs : List V) : Prop := ∃ o, PlainT o ∧ H a = some (.frz o (.tup xs))
theorem FrzT.ex {H H' : Hp} {a : Addr} {xs : List V} (h : FrzT H a xs) (e : Ex H H') : FrzT H' a xs := by
  obtain ⟨o, h1, h2⟩ := h
  exact ⟨o, h1, e _ _ h2⟩
theorem FrzT.exB {H H' : Hp} {p a : Addr} {xs : List V} {n : Nat} (h : FrzT H a xs) (e : ExB p H H') (hb : Bx H p n) : FrzT H' a xs := by
  obtain ⟨o, h1, h2⟩ := h
  obtain ⟨l, hl⟩ := hb.lst
  refine ⟨o, h1, e _ _ (fun z => ?_) h2⟩
  rw [z, hl] at h2
  cases h2
theorem FrzT.sq {K : PySem.W.Frag} {H : Hp} {a : Addr} {xs : List V} (h : FrzT H a xs) : SqT K H a xs := by
  obtain ⟨o, _, h2⟩ := h
  exact .inl (.inr ⟨o, h2⟩)
section
variable {K : PySem.W.Frag} {σ : L2.St} {H : Hp} {te t1 t2 : TE} {tt : TT} {o : Addr} {l : List Nat} {j : Nat} {vs : List Nat}
end
section
variable {K : PySem.W.Frag} {σ : L2.St} {H : Hp} {te t1 : TE} {o : Addr} {l : List Nat} {j : Nat} {vs : List Nat}
end
end HH
set_option maxHeartbeats 4000000
namespace HH
open PySem PySem.Spec PyProof.Rows L2 Evl
def SqA (K : PySem.W.Frag) (H : Hp) (a : Addr) (xs : List V) : Prop := SqL K H a xs ∨ SqT K H a xs
theorem SqA.ex {K : PySem.W.Frag} {H H' : Hp} {a : Addr} {xs : List V} (h : SqA K H a xs) (e : Ex H H') : SqA K H' a xs := h.imp (ex_l e) (ex_t e)
end HH
namespace L2
open PySem PySem.Spec PyProof.Rows
structure HeldX (P : Program) (w : World) (K : PySem.W.Frag) (mg : Str → Option Value) (base : Heap) (k : Nat) (f : Addr) (sp : Sp) : Prop where
  ex : ∃ (fd : FuncData) (ps : List Str), FnOk P w K mg base (L2.CX P w) k f fd ps sp ∧ PySem.W.keepIn K (.ref f) = true ∧ Binds K fd ps []
section
variable {X : Cx} {k i : Nat} {E : L2.St → XK} {x : Str} {p pos : Pos} {e : Expr} {es : List Expr} {t : TA}
end
end L2
namespace HH
open PySem PySem.Spec PyProof.Rows L2 Evl
abbrev ZD := Bool × Int
def DeedZ (K : PySem.W.Frag) (H : Hp) (v : V) (d : ZD) : Prop := ∃ p, v = .ref p ∧ SqT K H p [.str (wordOf d.1), .int d.2]
theorem DeedZ.ex {K : PySem.W.Frag} {H H' : Hp} {v : V} {d : ZD} (h : DeedZ K H v d) (e : Ex H H') : DeedZ K H' v d := by
  obtain ⟨p, h1, h2⟩ := h
  exact ⟨p, h1, ex_t e h2⟩
abbrev DeedsZ (K : PySem.W.Frag) (H : Hp) : List V → List ZD → Prop := All2 (DeedZ K H)
theorem DeedsZ.ex' {K : PySem.W.Frag} {H H' : Hp} {us : List V} {ds : List ZD} (h : DeedsZ K H us ds) (e : Ex H H') : DeedsZ K H' us ds := All2.mono (fun _ _ r => r.ex e) h
theorem DeedsZ.exB' {K : PySem.W.Frag} {H H' : Hp} {us : List V} {ds : List ZD} {q : Addr} {ys : List V} (e : ExB q H H') (hq : H q = some (.lst ys)) (h : DeedsZ K H us ds) : DeedsZ K H' us ds := All2.mono (fun v d g => by
  obtain ⟨p, h1, h2⟩ := g
  exact ⟨p, h1, e.t hq h2⟩) h
abbrev StZ := HH.Row × List Nat
def Picked (K : PySem.W.Frag) (H : Hp) (pick : Bool) (v : V) (s : StZ) : Prop := if pick then RowAt K H v s.1 else ∃ t, v = .ref t ∧ SqT K H t (natsV s.2)
theorem Picked.ex {K : PySem.W.Frag} {H H' : Hp} {pick : Bool} {v : V} {s : StZ} (h : Picked K H pick v s) (e : Ex H H') : Picked K H' pick v s := by
  unfold Picked at h ⊢
  cases pick with
  | true => exact RowAt.ex h e
  | false =>
    obtain ⟨t, h1, h2⟩ := h
    exact ⟨t, h1, ex_t e h2⟩
end HH
namespace HH
open PySem PySem.Spec PyProof.Rows L2 Evl
section
variable {K : PySem.W.Frag} {σ : L2.St} {H : Hp} {te ta tb tc : TE} {D : Ends}
end
end HH
namespace HH
open PySem PySem.Spec PyProof.Rows L2 Evl
end HH
namespace HH
open PySem PySem.Spec PyProof.Rows L2 Evl
section
variable {K : PySem.W.Frag} {σ : L2.St} {H : Hp} {te to ta tb tc : TE} {D : Ends}
end
end HH
set_option maxHeartbeats 4000000
namespace HH
open PySem PySem.Spec PyProof.Rows L2 Evl RZ
section
variable {K : PySem.W.Frag} {σ : L2.St} {H : Hp} {te ta tb tc td : TE} {D : Ends}
end
end HH
set_option maxHeartbeats 4000000
namespace HH
open PySem PySem.Spec PyProof.Rows L2 Evl RZ
def DueV (K : PySem.W.Frag) (H : Hp) (y : V) : Nat ⊕ StZ → Prop
  | .inr s => ∃ (q : Addr) (v' : V) (t : Addr), y = .ref q ∧ H q = some (.tup [v', .ref t]) ∧ RowAt K H v' s.1 ∧ SqT K H t (natsV s.2)
  | .inl k => y = .int (k : Int)
def ToldV (K : PySem.W.Frag) (H : Hp) (pick : Bool) (y : V) : Nat ⊕ StZ → Prop
  | .inr s => Picked K H pick y s
  | .inl k => y = .int (k : Int)
theorem ToldV.ex {K : PySem.W.Frag} {H H' : Hp} {pick : Bool} {y : V} {r : Nat ⊕ StZ} (h : ToldV K H pick y r) (e : Ex H H') : ToldV K H' pick y r := by
  cases r with
  | inl k => exact h
  | inr s => exact Picked.ex h e
theorem DueV.ex {K : PySem.W.Frag} {H H' : Hp} {y : V} {r : Nat ⊕ StZ} (h : DueV K H y r) (e : Ex H H') : DueV K H' y r := by
  cases r with
  | inl k => exact h
  | inr s =>
    obtain ⟨q, v', t, h1, h2, h3, h4⟩ := h
    exact ⟨q, v', t, h1, e _ _ h2, h3.ex e, ex_t e h4⟩
section
variable {K : PySem.W.Frag} {σ : L2.St} {H : Hp} {te ta tb tc td : TE} {D : Ends}
end
end HH
namespace HH
open PySem PySem.Spec PyProof.Rows L2 Evl RZ
section
variable {K : PySem.W.Frag} {σ : L2.St} {H : Hp} {te ta tb tc td : TE} {D : Ends}
end
end HH
namespace HH
open PySem PySem.Spec PyProof.Rows L2 Evl RZ
end HH
namespace HH
open PySem PySem.Spec PyProof.Rows L2 Evl RZ
end HH
set_option maxHeartbeats 4000000
namespace HH
open PySem PySem.Spec PyProof.Rows L2 Evl RZ
def StrFit (s : Str) : Prop := PyData.strOk s = true ∧ (reprText s).length ≤ 40
def atomOk (c : Nat) : V → PyData → Prop
  | .non, .none => True
  | .bl b, .bool b' => b = b'
  | .int i, .int i' => i = i' ∧ i.natAbs ≤ 10 ^ 30 + c
  | .str s, .str s' => s = s' ∧ StrFit s
  | _, _ => False
def DaS (R : V → PyData → Prop) (xs : List V) (ds : List PyData) : Prop := xs.length = ds.length ∧ ∀ (i : Nat) (x : V) (e : PyData), xs[i]? = some x → ds[i]? = some e → R x e
def Da (P : Addr → Prop) (K : PySem.W.Frag) (c : Nat) (H : Hp) : Nat → V → PyData → Prop
  | 0, v, d => atomOk c v d
  | k + 1, v, d => atomOk c v d ∨ ∃ (a : Addr) (xs : List V) (ds : List PyData), v = .ref a ∧ ((¬ P a ∧ H a = some (.lst xs) ∧ d = .list ds) ∨ (SqT K H a xs ∧ d = .tuple ds)) ∧ DaS (Da P K c H k) xs ds
section
variable {P : Addr → Prop} {K : PySem.W.Frag} {c : Nat} {H H' : Hp}
theorem Da.ex (e : Ex H H') : ∀ {k : Nat} {v : V} {d : PyData}, Da P K c H k v d → Da P K c H' k v d
  | 0, _, _, h => h
  | k + 1, _, _, .inl h => .inl h
  | k + 1, _, _, .inr ⟨a, xs, ds, h1, h2, h3, h4⟩ => .inr ⟨a, xs, ds, h1, h2.imp (fun ⟨q1, q2, q3⟩ => ⟨q1, e _ _ q2, q3⟩) (fun ⟨q1, q2⟩ => ⟨ex_t e q1, q2⟩), h3, fun i x y hx hy => Da.ex e (h4 i x y hx hy)⟩
theorem Da.exB {p : Addr} {ys : List V} (hP : P p) (e : ExB p H H') (hp : H p = some (.lst ys)) : ∀ {k : Nat} {v : V} {d : PyData}, Da P K c H k v d → Da P K c H' k v d
  | 0, _, _, h => h
  | k + 1, _, _, .inl h => .inl h
  | k + 1, _, _, .inr ⟨a, xs, ds, h1, h2, h3, h4⟩ => .inr ⟨a, xs, ds, h1, h2.imp (fun ⟨q1, q2, q3⟩ => ⟨q1, e _ _ (fun z => q1 (by rw [z]; exact hP)) q2, q3⟩) (fun ⟨q1, q2⟩ => ⟨e.t hp q1, q2⟩), h3, fun i x y hx hy => Da.exB hP e hp (h4 i x y hx hy)⟩
theorem Da.up : ∀ {k : Nat} {v : V} {d : PyData}, Da P K c H k v d → Da P K c H (k + 1) v d
  | 0, _, _, h => .inl h
  | k + 1, _, _, .inl h => .inl h
  | k + 1, _, _, .inr ⟨a, xs, ds, h1, h2, h3, h4⟩ => .inr ⟨a, xs, ds, h1, h2, h3, fun i x y hx hy => Da.up (h4 i x y hx hy)⟩
theorem Da.ups {k : Nat} {v : V} {d : PyData} (h : Da P K c H k v d) : ∀ j, Da P K c H (k + j) v d
  | 0 => h
  | j + 1 => (Da.ups h j).up
theorem Da.to {k k' : Nat} {v : V} {d : PyData} (h : Da P K c H k v d) (e : k ≤ k') : Da P K c H k' v d := by
  have := h.ups (k' - k)
  rw [show k + (k' - k) = k' by omega] at this
  exact this
theorem atomOk.cc {c' : Nat} (e : c ≤ c') {v : V} {d : PyData} (h : atomOk c v d) : atomOk c' v d := by
  unfold atomOk at h
  split at h
  · exact True.intro
  · exact h
  · exact ⟨h.1, by have := h.2; omega⟩
  · exact h
  · exact h.elim
theorem Da.cc {c' : Nat} (e : c ≤ c') : ∀ {k : Nat} {v : V} {d : PyData}, Da P K c H k v d → Da P K c' H k v d
  | 0, _, _, h => atomOk.cc e h
  | k + 1, _, _, .inl h => .inl (atomOk.cc e h)
  | k + 1, _, _, .inr ⟨a, xs, ds, h1, h2, h3, h4⟩ => .inr ⟨a, xs, ds, h1, h2, h3, fun i x y hx hy => Da.cc e (h4 i x y hx hy)⟩
end
mutual
def wtD : PyData → Nat
  | .none => 50
  | .bool _ => 50
  | .int _ => 50
  | .str _ => 50
  | .list xs => 10 + wtDs xs
  | .tuple xs => 10 + wtDs xs
  | .dict _ => 50
def wtDs : List PyData → Nat
  | [] => 0
  | x :: xs => wtD x + 2 + wtDs xs
end
def tyD : PyData → String
  | .none => "NoneType"
  | .bool _ => "bool"
  | .int _ => "int"
  | .str _ => "str"
  | .list _ => "list"
  | .tuple _ => "tuple"
  | .dict _ => "dict"
section
variable {P : Addr → Prop} {K : PySem.W.Frag} {c : Nat} {H H' : Hp}
theorem atomOk.ty {v : V} {d : PyData} (h : atomOk c v d) : TyN K H v (tyD d) := by
  unfold atomOk at h
  split at h
  · exact .non
  · exact .bl _
  · exact .int _
  · exact .str _
  · exact h.elim
theorem Da.ty {k : Nat} {v : V} {d : PyData} (h : Da P K c H k v d) : TyN K H v (tyD d) := by
  cases k with
  | zero => exact atomOk.ty h
  | succ k =>
    rcases h with h | ⟨a, xs, ds, rfl, h2, _⟩
    · exact atomOk.ty h
    · rcases h2 with ⟨_, h2, rfl⟩ | ⟨h2, rfl⟩
      · exact .lst (K := K) (sq_of h2)
      · exact .tup h2
theorem daS_all {R : V → PyData → Prop} (hR : ∀ v d, R v d → Dp K H v d) : ∀ {xs : List V} {ds : List PyData}, DaS R xs ds → DpAll K H xs ds
  | [], [], _ => .nil
  | [], _ :: _, h => by cases h.1
  | _ :: _, [], h => by cases h.1
  | x :: xs, d :: ds, h => .cons (hR _ _ (h.2 0 x d rfl rfl)) (daS_all hR ⟨Nat.succ.inj h.1, fun i y e hy he => h.2 (i + 1) y e hy he⟩)
theorem atomOk.dp {v : V} {d : PyData} (h : atomOk c v d) : Dp K H v d ∧ Nice 0 d := by
  unfold atomOk at h
  split at h
  · exact ⟨.non, by simp [PyData.canLay0], by simp [PyData.depth]⟩
  · subst h
    exact ⟨.bl _, by simp [PyData.canLay0], by simp [PyData.depth]⟩
  · obtain ⟨rfl, _⟩ := h
    exact ⟨.int _, by simp [PyData.canLay0], by simp [PyData.depth]⟩
  · obtain ⟨rfl, h⟩ := h
    exact ⟨.str _, by simp only [PyData.canLay0]; exact h.1, by simp [PyData.depth]⟩
  · exact h.elim
theorem Da.dp : ∀ {k : Nat} {v : V} {d : PyData}, Da P K c H k v d → Dp K H v d
  | 0, _, _, h => (atomOk.dp h).1
  | k + 1, _, _, .inl h => (atomOk.dp h).1
  | k + 1, _, _, .inr ⟨a, xs, ds, h1, h2, h3⟩ => by
    subst h1
    have := daS_all (K := K) (H := H) (fun v d h => Da.dp h) h3
    rcases h2 with ⟨_, h2, rfl⟩ | ⟨h2, rfl⟩
    · exact .lst (sq_of h2) this
    · exact .tup h2 this
end
end HH
set_option maxHeartbeats 4000000
namespace HH
open PySem PySem.Spec PyProof.Rows L2 Evl RZ
def isListB : PyData → Bool
  | .list _ => true
  | _ => false
def isTupB : PyData → Bool
  | .tuple _ => true
  | _ => false
section
variable {P : Addr → Prop} {K : PySem.W.Frag} {c k : Nat} {H H' : Hp} {σ : L2.St} {te ta tb : TE} {D : Ends} {v : V} {d : PyData}
theorem Da.cont (hd : Da P K c H (k + 1) v d) (h : (isListB d || isTupB d) = true) : ∃ (a : Addr) (xs : List V) (ds : List PyData), v = .ref a ∧ ((¬ P a ∧ H a = some (.lst xs) ∧ d = .list ds) ∨ (SqT K H a xs ∧ d = .tuple ds)) ∧ DaS (Da P K c H k) xs ds := by
  rcases hd with hd | hd
  · unfold atomOk at hd
    split at hd
    · cases h
    · cases h
    · cases h
    · cases h
    · exact hd.elim
  · exact hd
end
section
variable {P : Addr → Prop} {K : PySem.W.Frag} {c k : Nat} {H H' : Hp} {σ : L2.St} {te ta tb : TE} {D : Ends} {v : V} {d : PyData}
theorem DaS.ex {xs : List V} {ds : List PyData} (h : DaS (Da P K c H k) xs ds) (e : Ex H H') : DaS (Da P K c H' k) xs ds := ⟨h.1, fun i x y hx hy => (h.2 i x y hx hy).ex e⟩
theorem DaS.exB {p : Addr} {xs ys : List V} {ds : List PyData} (h : DaS (Da P K c H k) xs ds) (hP : P p) (e : ExB p H H') (hp : H p = some (.lst ys)) : DaS (Da P K c H' k) xs ds := ⟨h.1, fun i x y hx hy => (h.2 i x y hx hy).exB hP e hp⟩
theorem DaS.to {c' k' : Nat} {xs : List V} {ds : List PyData} (h : DaS (Da P K c H k) xs ds) (e : k ≤ k') (e2 : c ≤ c') : DaS (Da P K c' H k') xs ds := ⟨h.1, fun i x y hx hy => ((h.2 i x y hx hy).to e).cc e2⟩
theorem DaS.nil {R : V → PyData → Prop} : DaS R [] [] := ⟨rfl, fun i x e h => by simp at h⟩
theorem DaS.cons {R : V → PyData → Prop} {x : V} {d : PyData} {xs : List V} {ds : List PyData} (h : R x d) (g : DaS R xs ds) : DaS R (x :: xs) (d :: ds) := ⟨by rw [List.length_cons, List.length_cons, g.1], fun i y e hy he => by
  cases i with
  | zero =>
    cases hy
    cases he
    exact h
  | succ i => exact g.2 i y e hy he⟩
theorem DaS.app {R : V → PyData → Prop} {xs ys : List V} {ds es : List PyData} (h : DaS R xs ds) (g : DaS R ys es) : DaS R (xs ++ ys) (ds ++ es) := ⟨by rw [List.length_append, List.length_append, h.1, g.1], fun i y e hy he => by
  by_cases hi : i < xs.length
  · rw [List.getElem?_append_left hi] at hy
    rw [List.getElem?_append_left (by rw [← h.1]; exact hi)] at he
    exact h.2 i y e hy he
  · rw [List.getElem?_append_right (by omega)] at hy
    rw [List.getElem?_append_right (by rw [← h.1]; omega)] at he
    rw [← h.1] at he
    exact g.2 _ y e hy he⟩
theorem DaS.set {R : V → PyData → Prop} {xs : List V} {ds : List PyData} {i : Nat} {x : V} {d : PyData} (h : DaS R xs ds) (g : R x d) : DaS R (xs.set i x) (ds.set i d) := ⟨by rw [List.length_set, List.length_set, h.1], fun j y e hy he => by
  rw [List.getElem?_set] at hy he
  by_cases c : i = j
  · rw [if_pos c] at hy he
    by_cases c2 : j < xs.length
    · rw [if_pos (by omega)] at hy
      rw [if_pos (by rw [← h.1]; omega)] at he
      cases hy
      cases he
      exact g
    · rw [if_neg (by omega)] at hy
      cases hy
  · rw [if_neg c] at hy he
    exact h.2 j y e hy he⟩
theorem DaS.take {R : V → PyData → Prop} {xs : List V} {ds : List PyData} (n : Nat) (h : DaS R xs ds) : DaS R (xs.take n) (ds.take n) := ⟨by rw [List.length_take, List.length_take, h.1], fun j y e hy he => by
  rw [List.getElem?_take] at hy he
  by_cases c : j < n
  · rw [if_pos c] at hy he
    exact h.2 j y e hy he
  · rw [if_neg c] at hy
    cases hy⟩
theorem DaS.drop {R : V → PyData → Prop} {xs : List V} {ds : List PyData} (n : Nat) (h : DaS R xs ds) : DaS R (xs.drop n) (ds.drop n) := ⟨by rw [List.length_drop, List.length_drop, h.1], fun j y e hy he => by
  rw [List.getElem?_drop] at hy he
  exact h.2 _ y e hy he⟩
theorem DaS.at' {R : V → PyData → Prop} {xs : List V} {ds : List PyData} {i : Nat} (h : DaS R xs ds) (hi : i < xs.length) : ∃ x d, xs[i]? = some x ∧ ds[i]? = some d ∧ R x d := by
  have h2 : i < ds.length := by rw [← h.1]; exact hi
  exact ⟨_, _, List.getElem?_eq_getElem hi, List.getElem?_eq_getElem h2, h.2 i _ _ (List.getElem?_eq_getElem hi) (List.getElem?_eq_getElem h2)⟩
end
end HH
namespace HH
open PySem PySem.Spec PyProof.Rows L2 Evl RZ
section
variable {P : Addr → Prop} {K : PySem.W.Frag} {c k : Nat} {H H' : Hp} {σ : L2.St} {te te2 ta tb : TE} {D : Ends} {v : V} {d : PyData}
end
end HH
namespace HH
open PySem PySem.Spec PyProof.Rows L2 Evl RZ
end HH
namespace HH
open PySem PySem.Spec PyProof.Rows L2 Evl RZ
end HH
namespace HH
open PySem PySem.Spec PyProof.Rows L2 Evl RZ
section
variable {K : PySem.W.Frag} {σ : L2.St} {H : Hp} {t u : TT} {tu tw tz : TS} {D : Ends} {QB : Bool → Hp → Prop}
end
end HH
namespace HH
open PySem PySem.Spec PyProof.Rows L2 Evl RZ
end HH
set_option maxHeartbeats 4000000
namespace HH
open PySem PySem.Spec PyProof.Rows L2 Evl RZ
def ItA (P : Addr → Prop) (K : PySem.W.Frag) (H : Hp) (v : V) : Prop := ∃ d, Da P K 2 H 6 v d ∧ wtD d ≤ 20000
section
variable {P : Addr → Prop} {K : PySem.W.Frag} {c k n : Nat} {H H' : Hp} {σ : L2.St} {te ta tb : TE} {D : Ends} {v : V} {d : PyData} {rs : HH.Row}
theorem ItA.ex (e : Ex H H') (h : ItA P K H v) : ItA P K H' v := by
  obtain ⟨d, h, w⟩ := h
  exact ⟨d, h.ex e, w⟩
theorem ItA.exB {p : Addr} {ys : List V} (hP : P p) (e : ExB p H H') (hp : H p = some (.lst ys)) (h : ItA P K H v) : ItA P K H' v := by
  obtain ⟨d, h, w⟩ := h
  exact ⟨d, h.exB hP e hp, w⟩
end
end HH
namespace HH
end HH
set_option maxHeartbeats 4000000
namespace HH
open PySem PySem.Spec PyProof.Rows L2 Evl
end HH
set_option maxHeartbeats 4000000
namespace HH
open PySem PySem.Spec PyProof.Rows L2 Evl
structure OrdAt (K : PySem.W.Frag) (H : Hp) (v : V) (o : Addr) (rs : HH.Row) (l : List Nat) : Prop where
  row : RowAt K H v rs
  len : rs.length ≤ 30
  tl : ∀ b ∈ rs, 0 ≤ b.2
  ord : SqT K H o (natsV l)
  ids : l.Perm (List.range rs.length)
section
variable {K : PySem.W.Frag} {H H' : Hp} {v : V} {o : Addr} {rs : HH.Row} {l : List Nat}
theorem OrdAt.ex (h : OrdAt K H v o rs l) (e : Ex H H') : OrdAt K H' v o rs l := ⟨h.row.ex e, h.len, h.tl, ex_t e h.ord, h.ids⟩
theorem OrdAt.nd (h : OrdAt K H v o rs l) : l.Nodup := h.ids.nodup_iff.mpr List.nodup_range
theorem OrdAt.lenL (h : OrdAt K H v o rs l) : l.length = rs.length := by rw [h.ids.length_eq, List.length_range]
theorem OrdAt.all (h : OrdAt K H v o rs l) (x : Nat) (hx : x < l.length) : x ∈ l := h.ids.mem_iff.mpr (List.mem_range.mpr (by rw [← h.lenL]; exact hx))
end
end HH
set_option maxHeartbeats 4000000
namespace HH
open PySem PySem.Spec PyProof.Rows L2 Evl
section
variable {K : PySem.W.Frag} {σ : L2.St} {H : Hp} {te t1 t2 : TE} {tt : TT} {l : List Nat} {j : Nat} {vs : List Nat}
end
end HH
set_option maxHeartbeats 4000000
namespace HH
open PySem PySem.Spec PyProof.Rows L2 Evl
section
variable {K : PySem.W.Frag} {σ : L2.St} {H H0 : Hp} {tf tx tv : TE} {D : Ends} {fa a : Addr} {as : List Addr} {t p : Nat → Int} {i : Nat} {d : Int}
end
end HH
set_option maxHeartbeats 4000000
namespace HH
open PySem PySem.Spec PyProof.Rows L2 Evl
section
variable {K : PySem.W.Frag} {σ : L2.St} {H : Hp} {te te2 : TE} {i j : Nat} {vs : List Nat} {a : Addr} {us : List V} {ps : HH.Row}
end
end HH
set_option maxHeartbeats 4000000
namespace HH
open PySem PySem.Spec PyProof.Rows L2 Evl
structure WanF (K : PySem.W.Frag) (H H' : Hp) (p : Addr) (q : Addr) (v' : V) (ot lp : Addr) (us : List V) (L : List Cow) (ds : List Deed) (n m : Nat) : Prop where
  ex : ExB p H H'
  bx : Bx H' p (n + m)
  q : H' q = some (.tup [v', .ref ot, .ref lp])
  row : RowAt K H' v' (rowsOf L)
  ord : FrzT H' ot (natsV (L.map (·.1)))
  lst : H' lp = some (.lst us)
  prs : All2 (DeedAt K H') us ds
def spFirstF (K : PySem.W.Frag) : Sp := fun vs H Q _ => ∃ (v : V) (rs : HH.Row), vs = [v] ∧ RowAt K H v rs ∧ rs.length ≤ 1000 ∧ (∀ b ∈ rs, 0 ≤ b.2) ∧ ∀ q H' (L : List Cow), Ex H H' → LastAtF K H' q L → FSteps (tag 0 rs) L → FfR L → Q (.ref q) H'
end HH
set_option maxHeartbeats 4000000
namespace HH
open PySem PySem.Spec PyProof.Rows L2 Evl RZ
def Sm0 : PyData → Prop
  | .none => True
  | .bool _ => True
  | .int i => i.natAbs ≤ 10 ^ 30
  | _ => False
theorem Sm0.at' {d : PyData} (h : Sm0 d) : ∃ v, atomOk 0 v d := by
  unfold Sm0 at h
  split at h
  · exact ⟨.non, True.intro⟩
  · exact ⟨.bl _, rfl⟩
  · exact ⟨.int _, rfl, h⟩
  · exact h.elim
def NLst (K : PySem.W.Frag) (H : Hp) (v : V) : Prop := Flat v ∨ ∃ a xs, v = .ref a ∧ SqT K H a xs
def lenD : PyData → Nat
  | .list ds => ds.length
  | _ => 0
def AskIt (K : PySem.W.Frag) (H1 H2 : Hp) (v : V) (d : PyData) : Prop := Dp K H2 v d ∧ ((∃ a xs, v = .ref a ∧ H1 a = none ∧ H2 a = some (.lst xs) ∧ xs.length = lenD d) ∨ NLst K H2 v)
section
variable {K : PySem.W.Frag} {H H' H0 H1 H2 : Hp} {σ : L2.St} {te ta tb : TE} {D : Ends} {v : V} {d : PyData} {rs : HH.Row}
theorem NLst.ex (e : Ex H H') (h : NLst K H v) : NLst K H' v := h.imp id fun ⟨a, xs, h1, h2⟩ => ⟨a, xs, h1, ex_t e h2⟩
theorem AskIt.ex (e : Ex H2 H') (h : AskIt K H1 H2 v d) : AskIt K H1 H' v d := ⟨dp_ex e h.1, h.2.imp (fun ⟨a, xs, h1, h2, h3, h4⟩ => ⟨a, xs, h1, h2, e _ _ h3, h4⟩) (NLst.ex e)⟩
theorem AskIt.back (e : Ex H0 H1) (h : AskIt K H1 H2 v d) : AskIt K H0 H2 v d := ⟨h.1, h.2.imp (fun ⟨a, xs, h1, h2, h3, h4⟩ => ⟨a, xs, h1, fresh_back e h2, h3, h4⟩) id⟩
theorem sqF {a : Addr} {o : Obj} {xs : List V} (h : H a = some (.frz o (.tup xs))) : SqT K H a xs := Or.inl (Or.inr ⟨o, h⟩)
theorem lastF_dp {p : Addr} {L : List Cow} (h : LastAtF K H p L) : Dp K H (.ref p) (lastD L) := by
  obtain ⟨v, ot, o, h1, h2, h3, _⟩ := h.ex
  obtain ⟨a, rfl, hd⟩ := h2.dp
  have e : ordL L = (L.map fun x => (x.1 : Int)).map V.int := by
    unfold ordL
    rw [List.map_map]
    rfl
  rw [e] at h3
  exact .tup (st_of h1) (.cons hd (.cons (.tup (sqF h3) (dp_ints _)) .nil))
theorem dp_beasts : ∀ {us : List V} {ps : HH.Row}, Beasts K H us ps → DpAll K H us (ps.map beastD)
  | [], [], _ => .nil
  | [], _ :: _, h => by cases h.1
  | _ :: _, [], h => by cases h.1
  | u :: us, b :: ps, h => by
    obtain ⟨⟨p, rfl, hs⟩, h2⟩ := h.uncons
    exact .cons (.tup hs (.cons (.int _) (.cons (.int _) .nil))) (dp_beasts h2)
def natsL (l : List Nat) : PyData := .list ((l.map fun (x : Nat) => (x : Int)).map PyData.int)
theorem natsV_I (l : List Nat) : natsV l = (l.map fun (x : Nat) => (x : Int)).map V.int := by
  unfold natsV
  rw [List.map_map]
  rfl
theorem dp_lists {us : List V} {ll : List (List Nat)} (f : ListsF H0 H us ll) : DpAll K H us (ll.map natsL) := daS_all (R := fun v d => Dp K H v d) (fun _ _ h => h) ⟨by rw [f.len, List.length_map], fun i x y hx hy => by
  rw [List.getElem?_map] at hy
  cases hl : ll[i]? with
  | none =>
    rw [hl] at hy
    cases hy
  | some l =>
    rw [hl] at hy
    cases hy
    obtain ⟨p, p1, _, p3⟩ := f.at' i _ hl
    rw [hx] at p1
    cases p1
    rw [natsV_I] at p3
    exact .lst (sq_of p3) (dp_ints _)⟩
def flatD : V → PyData
  | .int i => .int i
  | .bl b => .bool b
  | _ => .none
end
def AskP (K : PySem.W.Frag) (H1 H3 : Hp) (q : Addr) (v : V) (d : PyData) : Prop := Dp K H3 v d ∧ ((∃ a xs, v = .ref a ∧ a ≠ q ∧ H1 a = none ∧ H3 a = some (.lst xs) ∧ xs.length = lenD d) ∨ NLst K H3 v)
def AskQ (K : PySem.W.Frag) (H1 : Hp) (q : Addr) (H2 : Hp) (v : V) (d : PyData) : Prop := ∀ H3, ExB q H2 H3 → AskP K H1 H3 q v d
section
variable {K : PySem.W.Frag} {H H' H0 H1 H2 : Hp} {σ : L2.St} {te ta tb : TE} {D : Ends} {v : V} {d : PyData} {rs : HH.Row} {q : Addr}
theorem AskIt.put {o : HO} (h : AskIt K H1 H2 v d) (hq : H2 q = none) : AskQ K H1 q (upd H2 q o) v d := fun H3 x => by
  have e : Ex H2 H3 := fun a u ha => x a u (ne_of_none ha hq) (by rw [upd_ne (ne_of_none ha hq)]; exact ha)
  refine ⟨dp_ex e h.1, h.2.imp (fun ⟨a, xs, h1, h2, h3, h4⟩ => ⟨a, xs, h1, ne_of_none h3 hq, h2, e _ _ h3, h4⟩) (NLst.ex e)⟩
theorem AskQ.x (h : AskQ K H1 q H2 v d) (x : ExB q H2 H') : AskQ K H1 q H' v d := fun H3 y => h H3 (x.trans y)
theorem AskQ.it (h : AskQ K H1 q H2 v d) : AskIt K H1 H2 v d := by
  obtain ⟨h1, h2⟩ := h H2 (ExB.refl _ _)
  exact ⟨h1, h2.imp (fun ⟨a, xs, g1, _, g2, g3, g4⟩ => ⟨a, xs, g1, g2, g3, g4⟩) id⟩
end
def tabD (L : List Cow) (n : Nat) : PyData := .list ((tab (L.map (·.1)) n n).map beastD)
structure Knows (rs : HH.Row) (L F : List Cow) (z : V) (i : Nat) : Prop where
  len : rs.length ≤ 30
  lt : i < rs.length
  tl : ∀ b ∈ rs, 0 ≤ b.2
  low : ∀ b ∈ rs, Low b
  last : ∀ M, Steps (tag 0 rs) M → NfR M → M = L
  first : ∀ M, FSteps (tag 0 rs) M → FfR M → M = F
  stop : ∀ (M : List Cow) (j : Nat), Steps (tag 0 (rs.take (i + 1))) M → Nf M → (M.map (·.1))[j]? = some i → stopAt (M.map (·.1)) j = z
  flat : Flat z
  dp : ∀ (K : PySem.W.Frag) H', Dp K H' z (flatD z)
section
variable {K : PySem.W.Frag} {H : Hp} {σ : L2.St} {te ta tb tc : TE} {v : V} {rs : HH.Row}
end
end HH
set_option maxHeartbeats 4000000
namespace HH
open PySem PySem.Spec PyProof.Rows L2 Evl RZ
section
variable {P : Addr → Prop} {K : PySem.W.Frag} {c k : Nat} {H : Hp}
end
end HH
namespace HH
open PySem PySem.Spec PyProof.Rows L2 Evl RZ
end HH
namespace HH
open PySem PySem.Spec PyProof.Rows L2 Evl RZ
end HH
set_option maxHeartbeats 4000000
namespace HH
open PySem PySem.Spec PyProof.Rows L2 Evl RZ
theorem tag_mem : ∀ {k : Nat} {rs : HH.Row} {x : Cow}, x ∈ tag k rs → x.2 ∈ rs
  | k, b :: r, x, h => by
    rcases List.mem_cons.mp h with rfl | h
    · exact List.mem_cons_self ..
    · exact List.mem_cons_of_mem _ (tag_mem h)
end HH
namespace HH
open PySem PySem.Spec PyProof.Rows L2 Evl RZ
end HH
set_option maxHeartbeats 4000000
namespace HH
open PySem PySem.Spec PyProof.Rows L2 Evl RZ
section
variable {K : PySem.W.Frag} {H H' H0 H1 H2 : Hp} {σ : L2.St} {te ta tb : TE} {D : Ends} {v : V} {d : PyData} {rs : HH.Row} {tz : TS}
def Spt (K : PySem.W.Frag) (H0 : Hp) (q : Addr) (n : Nat) (H : Hp) (v : V) : Prop := (∃ a xs, v = .ref a ∧ a ≠ q ∧ H0 a = none ∧ H a = some (.lst xs) ∧ xs.length ≤ n) ∨ NLst K H v
theorem NLst.mut {b : Addr} {xs ys : List V} (h : NLst K H v) (hb : H b = some (.lst xs)) : NLst K (upd H b (.lst ys)) v := h.imp id fun ⟨a, zs, h1, h2⟩ => ⟨a, zs, h1, ((ExB.refl b H).upd (o := .lst ys)).t hb h2⟩
theorem Spt.mut {b q : Addr} {n : Nat} {xs ys : List V} (h : Spt K H0 q n H v) (hb : H b = some (.lst xs)) (hy : ys.length ≤ n + 1) : Spt K H0 q (n + 1) (upd H b (.lst ys)) v := by
  rcases h with ⟨a, zs, rfl, h1, h2, h3, h4⟩ | h
  · by_cases e : a = b
    · subst e
      exact .inl ⟨a, ys, rfl, h1, h2, upd_same, hy⟩
    · exact .inl ⟨a, zs, rfl, h1, h2, by rw [upd_ne e]; exact h3, by omega⟩
  · exact .inr (h.mut hb)
theorem Spt.up {q : Addr} {n : Nat} (h : Spt K H0 q n H v) (e : Ex H H') : Spt K H0 q (n + 1) H' v := by
  rcases h with ⟨a, zs, rfl, h1, h2, h3, h4⟩ | h
  · exact .inl ⟨a, zs, rfl, h1, h2, e _ _ h3, by omega⟩
  · exact .inr (h.ex e)
theorem NLst.ty (h : NLst K H v) : ∃ T, TyN K H v T ∧ kitB T "list" = some false := by
  rcases h with h | ⟨a, xs, rfl, h⟩
  · unfold Flat at h
    split at h
    · exact ⟨"int", .int _, rfl⟩
    · exact ⟨"bool", .bl _, rfl⟩
    · exact ⟨"str", .str _, rfl⟩
    · exact ⟨"NoneType", .non, rfl⟩
    · exact h.elim
  · exact ⟨"tuple", .tup h, rfl⟩
end
end HH
set_option maxHeartbeats 4000000
namespace HH
open PySem PySem.Spec PyProof.Rows L2 Evl RZ
end HH
set_option maxHeartbeats 4000000
namespace HH
open PySem PySem.Spec PyProof.Rows L2 Evl RZ
theorem ListsF.exB {H0 H H' : Hp} {us : List V} {ll : List (List Nat)} {p : Addr} {o : HO} (h : ListsF H0 H us ll) (e : ExB p H H') (hp : H0 p = some o) : ListsF H0 H' us ll := ⟨h.len, fun i l hl => by
  obtain ⟨c, h1, h2, h3⟩ := h.at' i l hl
  exact ⟨c, h1, h2, e _ _ (Ne.symm (ne_of_none hp h2)) h3⟩⟩
end HH
set_option maxHeartbeats 4000000
namespace HH
open PySem PySem.Spec PyProof.Rows L2 Evl RZ
section
variable {K : PySem.W.Frag} {σ : L2.St} {H H' : Hp} {ta tb te te2 : TE} {t : TT} {v : V}
end
end HH
set_option maxHeartbeats 4000000
namespace HH
open PySem PySem.Spec PyProof.Rows L2 Evl RZ
def At0 : PyData → Prop
  | .none => True
  | .bool _ => True
  | .int _ => True
  | .str _ => True
  | _ => False
def okV : Nat → PyData → Prop
  | 0, d => At0 d
  | k + 1, d => At0 d ∨ ∃ ds, (d = .list ds ∨ d = .tuple ds) ∧ ds.length ≤ 40000 ∧ ∀ e ∈ ds, okV k e
theorem at0_up {d : PyData} (h : At0 d) : ∀ k, okV k d
  | 0 => h
  | k + 1 => .inl h
theorem okV_up : ∀ {k : Nat} {d : PyData}, okV k d → okV (k + 1) d
  | 0, d, h => .inl h
  | k + 1, d, .inl h => .inl h
  | k + 1, d, .inr ⟨ds, h1, h2, h3⟩ => .inr ⟨ds, h1, h2, fun e he => okV_up (h3 e he)⟩
theorem dps_at {K : PySem.W.Frag} {H : Hp} : ∀ {xs : List V} {ds : List PyData} {i : Nat} {u : V}, DpAll K H xs ds → xs[i]? = some u → ∃ d, ds[i]? = some d ∧ Dp K H u d
  | _, _, i, u, .nil, h => by simp at h
  | _, _, 0, u, .cons h g, e => by
    cases Option.some.inj e
    exact ⟨_, rfl, h⟩
  | _, _, i + 1, u, .cons h g, e => dps_at (i := i) g e
theorem alike_dp {K : PySem.W.Frag} {H : Hp} : ∀ {k : Nat} {d : PyData} {u v : V}, okV k d → Dp K H u d → Dp K H v d → Alike K H (k + 1) u v := by
  have atom : ∀ {k : Nat} {d : PyData} {u v : V}, At0 d → Dp K H u d → Dp K H v d → Alike K H (k + 1) u v := fun {k d u v} o h g => by
    cases h <;> cases g
    · exact .inl ⟨rfl, True.intro⟩
    · exact .inl ⟨rfl, True.intro⟩
    · exact .inl ⟨rfl, True.intro⟩
    · exact .inl ⟨rfl, True.intro⟩
    · exact o.elim
    · exact o.elim
  intro k
  induction k with
  | zero => exact fun {d u v} o h g => atom o h g
  | succ k ih =>
    intro d u v o h g
    rcases o with o | ⟨ds, o1, o2, o3⟩
    · exact atom o h g
    · rcases o1 with rfl | rfl
      · cases h with
        | lst s1 a1 => cases g with
          | lst s2 a2 =>
            refine .inr ⟨_, _, _, _, rfl, rfl, .inl ⟨s1, s2⟩, by rw [dps_len a1, dps_len a2], by rw [dps_len a1]; exact o2, fun i x y hx hy => ?_⟩
            obtain ⟨d1, e1, g1⟩ := dps_at a1 hx
            obtain ⟨d2, e2, g2⟩ := dps_at a2 hy
            rw [e1] at e2
            cases e2
            exact ih (o3 _ (List.mem_of_getElem? e1)) g1 g2
      · cases h with
        | tup s1 a1 => cases g with
          | tup s2 a2 =>
            refine .inr ⟨_, _, _, _, rfl, rfl, .inr ⟨s1, s2⟩, by rw [dps_len a1, dps_len a2], by rw [dps_len a1]; exact o2, fun i x y hx hy => ?_⟩
            obtain ⟨d1, e1, g1⟩ := dps_at a1 hx
            obtain ⟨d2, e2, g2⟩ := dps_at a2 hy
            rw [e1] at e2
            cases e2
            exact ih (o3 _ (List.mem_of_getElem? e1)) g1 g2
def EvX (K : PySem.W.Frag) (te : TE) (σ : L2.St) (H : Hp) (d : PyData) : Prop := ∀ H1, Ex H H1 → ∀ Q : VK, (∀ v H2, Ex H1 H2 → Dp K H2 v d → Q v H2) → te σ H1 Q
def EvXs (K : PySem.W.Frag) (ta : TA) (σ : L2.St) (H : Hp) (ds : List PyData) : Prop := ∀ H1, Ex H H1 → ∀ Q : List V → Hp → Prop, (∀ us H2, Ex H1 H2 → DpAll K H2 us ds → Q us H2) → ta σ H1 Q
section
variable {K : PySem.W.Frag} {H H' H0 H1 H2 : Hp} {σ : L2.St} {te ta tb tc : TE} {D : Ends} {v : V} {d : PyData} {rs : HH.Row} {tz : TS}
theorem xs_nil : EvXs K tNil σ H [] := fun H1 e1 Q q => q [] H1 (Ex.refl H1) .nil
theorem xs_cons {tr : TA} {ds : List PyData} (h : EvX K ta σ H d) (hr : EvXs K tr σ H ds) : EvXs K (tCons ta tr) σ H (d :: ds) := fun H1 e1 Q q => h H1 e1 _ fun v H2 e2 hv => hr H2 (e1.trans e2) _ fun us H3 e3 b => q (v :: us) H3 (e2.trans e3) (.cons (dp_ex e3 hv) b)
theorem ex_of {x : V} (h : Ev te σ H x) (hd : Dp K H x d) : EvX K te σ H d := fun H1 e1 Q q => h H1 e1 _ fun H2 e2 => q x H2 e2 (dp_ex (e1.trans e2) hd)
theorem ex_lst {ta' : TA} {ds : List PyData} (h : EvXs K ta' σ H ds) (hl : ds.length ≤ 100000) : EvX K (tLst ta') σ H (.list ds) := fun H1 e1 Q q => h H1 e1 _ fun us H2 e2 b => ⟨sz_of (by rw [dps_len b]; exact hl), fun p hp => q (.ref p) _ (e2.trans (Ex.new hp)) (.lst (sq_of upd_same) (dps_ex (Ex.new hp) b))⟩
theorem ex_tup {ta' : TA} {ds : List PyData} (h : EvXs K ta' σ H ds) (hl : ds.length ≤ 100000) : EvX K (tTup ta') σ H (.tuple ds) := fun H1 e1 Q q => h H1 e1 _ fun us H2 e2 b => ⟨sz_of (by rw [dps_len b]; exact hl), fun p hp => q (.ref p) _ (e2.trans (Ex.new hp)) (.tup (st_of upd_same) (dps_ex (Ex.new hp) b))⟩
theorem ex_row (h : EvR K te σ H rs) : EvX K te σ H (rowD rs) := fun H1 e1 Q q => h H1 e1 _ fun v H2 e2 hv => by
  obtain ⟨a, rfl, hd⟩ := hv.dp
  exact q _ H2 e2 hd
theorem ev_sameX {k : Nat} {E : XK} (h1 : EvX K ta σ H d) (h2 : EvX K tb σ H d) (ok : okV k d) : Ev (tCall (spSame K (k + 1)) [] E (tCons ta (tCons tb tNil))) σ H (.bl true) := fun H1 e Q q =>
  h1 H1 e _ fun u H2 e2 d1 => h2 H2 (e.trans e2) _ fun w H3 e3 d2 => ⟨u, w, rfl, alike_dp ok (dp_ex e3 d1) d2, fun H4 e4 => q H4 ((e2.trans e3).trans e4)⟩
theorem okV_ints {k : Nat} {ns : List Int} (h : ns.length ≤ 40000) : okV (k + 1) (.list (ns.map PyData.int)) ∧ okV (k + 1) (.tuple (ns.map PyData.int)) := by
  have a : ∀ e ∈ ns.map PyData.int, okV k e := fun e he => by
    obtain ⟨n, _, rfl⟩ := List.mem_map.mp he
    exact at0_up (d := .int n) True.intro k
  exact ⟨.inr ⟨_, .inl rfl, by rw [List.length_map]; exact h, a⟩, .inr ⟨_, .inr rfl, by rw [List.length_map]; exact h, a⟩⟩
theorem okV_beast {k : Nat} (b : Int × Int) : okV (k + 1) (beastD b) := .inr ⟨_, .inr rfl, by show 2 ≤ 40000; decide, fun e he => by
  rcases List.mem_cons.mp he with rfl | he
  · exact at0_up (d := .int b.1) True.intro k
  · cases List.mem_singleton.mp he
    exact at0_up (d := .int b.2) True.intro k⟩
theorem okV_beasts {k : Nat} {ps : HH.Row} : ∀ e ∈ ps.map beastD, okV (k + 1) e := fun e he => by
  obtain ⟨b, _, rfl⟩ := List.mem_map.mp he
  exact okV_beast b
theorem okV_row {k : Nat} {ps : HH.Row} (h : ps.length ≤ 40000) : okV (k + 2) (rowD ps) ∧ okV (k + 2) (.list (ps.map beastD)) := ⟨.inr ⟨_, .inr rfl, by rw [List.length_map]; exact h, okV_beasts⟩, .inr ⟨_, .inl rfl, by rw [List.length_map]; exact h, okV_beasts⟩⟩
theorem okV_lst {k : Nat} {ds : List PyData} (h : ds.length ≤ 40000) (g : ∀ e ∈ ds, okV k e) : okV (k + 1) (.list ds) := .inr ⟨_, .inl rfl, h, g⟩
theorem okV_tup {k : Nat} {ds : List PyData} (h : ds.length ≤ 40000) (g : ∀ e ∈ ds, okV k e) : okV (k + 1) (.tuple ds) := .inr ⟨_, .inr rfl, h, g⟩
theorem ept_rowF (f : Nat → Bool) {t : TT} {ta : TA} {j ko i n : Nat} {vs : List Nat} (h : EvA ta σ H [.int ((i : Int) + 1), .int (n : Int)]) (hn : i < n ∧ n ≤ 1000) (hw : ∀ x, wipe ((wipe σ vs).set j (some x)) vs = wipe σ vs) (hj : ∀ x : V, ((wipe σ vs).set j (some x))[j]? = some (some x)) (hk : ∀ x : V, ((wipe σ vs).set j (some x))[ko]? = some (some (.int (i : Int))))
    (ht : ∀ m, i + 1 + m < n → ∀ H1, Ex H H1 → EvT t ((wipe σ vs).set j (some (.int ((i + 1 + m : Nat) : Int)))) H1 (f m)) :
    EvPr PairT (tLc (iRng2 ta) (gName j) t (tTup (tCons (tVar ko) (tCons (tVar j) tNil))) vs) σ H (tabPR (fun _ m => f m) i (n - (i + 1))) := fun H0 e0 Q q => by
  refine h H0 e0 _ fun H1 e1 => ⟨(i : Int) + 1, (n : Int), rfl, ⟨by omega, by omega, by omega, by omega⟩, fun D hD => ?_⟩
  rw [show ((n : Int) - ((i : Int) + 1)).toNat = n - (i + 1) by omega]
  refine in_it walk_range (fun m H2 => Ex H1 H2 ∧ ∃ us, H2 D = some (.lst us) ∧ All2 (PairT H2) us (tabPR (fun _ m => f m) i m)) ⟨Ex.new hD, [], upd_same, .nil⟩ (fun _ _ _ _ => True.intro) (fun m x H2 H3 hm p y => ?_) (fun H2 p => ?_)
  · obtain ⟨rfl, hx⟩ := y
    have ej : (i : Int) + 1 + (m : Int) = ((i + 1 + m : Nat) : Int) := by omega
    have hx : x = V.int ((i : Int) + 1 + (m : Int)) := hx
    rw [ej] at hx
    subst hx
    obtain ⟨p1, us, p2, p3⟩ := p
    refine ⟨hw _, ht m (by omega) H3 ((e0.trans e1).trans p1) H3 (Ex.refl H3) _ fun H4 e4 => ?_⟩
    have es := tabPR_succ (fun _ m => f m) i m
    have g4 := e4 _ _ p2
    have p4 := stb_T.all e4 p3
    cases hf : f m with
    | false =>
      rw [hf, if_neg (by decide)] at es
      show (if false = true then _ else _)
      rw [if_neg (by decide)]
      exact ⟨p1.trans e4, us, g4, by rw [es, List.append_nil]; exact p4⟩
    | true =>
      rw [hf, if_pos rfl] at es
      show (if true = true then _ else _)
      rw [if_pos rfl]
      refine ⟨_, hk _, _, hj _, by show 2 ≤ sizeLine; decide, fun T hT => ?_⟩
      have nT := Ex.new (o := .tup [V.int (i : Int), .int ((i + 1 + m : Nat) : Int)]) hT
      refine ⟨us, nT _ _ g4, sz_lt ?_, Ex.mut ((p1.trans e4).trans nT) hD, us ++ [.ref T], upd_same, ?_⟩
      · have := tabPR_len (fun _ m => f m) i m
        rw [All2.len p3]
        omega
      · rw [es]
        exact stb_T.allL (nT _ _ g4) (All2.app (stb_T.all nT p4) (.cons ⟨T, rfl, upd_same⟩ .nil))
  · obtain ⟨p1, us, p2, p3⟩ := p
    exact q D us H2 (fresh_back e1 hD) (e1.trans p1) p2 p3
end
end HH
set_option maxHeartbeats 4000000
namespace HH
open PySem PySem.Spec PyProof.Rows L2 Evl
end HH
set_option maxHeartbeats 4000000
namespace HH
open PySem PySem.Spec PyProof.Rows L2 Evl
section
variable {K : PySem.W.Frag} {σ : L2.St} {H H' : Hp} {ta tb te to ts : TE} {v : V}
section
variable {rs : HH.Row} {L E Y M : List Cow} {d1 d2 : List Deed} {px : Nat → Nat} {tT tB tO tN t8 t9 : TE} {vT : V} {bk oT : Addr}
end
end
end HH
set_option maxHeartbeats 4000000
namespace HH
open PySem PySem.Spec PyProof.Rows L2 Evl RZ
theorem FrzT.exL {H H' : Hp} {p a : Addr} {xs ys : List V} (h : FrzT H a xs) (e : ExB p H H') (hp : H p = some (.lst ys)) : FrzT H' a xs := by
  obtain ⟨o, po, h⟩ := h
  refine ⟨o, po, e _ _ (fun z => ?_) h⟩
  rw [z, hp] at h
  cases h
section
variable {X : Cx} {es : List Expr} {t : TA} {pos : Pos}
end
end HH
namespace HH
open PySem PySem.Spec PyProof.Rows L2 Evl RZ
end HH
set_option maxHeartbeats 4000000
namespace HH
open PySem PySem.Spec PyProof.Rows L2 Evl RZ
structure KnownEnd (r e : HH.Row) (o : List Nat) (tb : List (List Nat)) : Prop where
  len : r.length ≤ 10
  tl : ∀ b ∈ r, 0 ≤ b.2
  end_ : ∃ L, Steps (tag 0 r) L ∧ NfR L ∧ rowsOf L = e ∧ L.map (·.1) = o
  nev : nevT r = tb
  prs : tabP (fun i k => !decide ((i + 1 + k) ∈ tb.getD i [])) r.length r.length = tab o r.length r.length
section
variable {K : PySem.W.Frag} {H H' H0 H1 H2 : Hp} {σ : L2.St} {te ta tb tc : TE} {D : Ends} {v : V} {d : PyData} {rs : HH.Row} {tz : TS}
theorem ep_mapT {i j : Nat} {vs : List Nat} (f : Int × Int → Int × Int) (h : Ev te σ H v) (hv : RowAt K H v rs) (hl : rs.length ≤ 2000) (hw : ∀ x y, wipe (((wipe σ vs).set i (some x)).set j (some y)) vs = wipe σ vs)
    (h1 : ∀ (b : Int × Int) H1, Ex H H1 → b ∈ rs → Ev ta (((wipe σ vs).set i (some (.int b.1))).set j (some (.int b.2))) H1 (.int (f b).1)) (h2 : ∀ (b : Int × Int) H1, Ex H H1 → b ∈ rs → Ev tb (((wipe σ vs).set i (some (.int b.1))).set j (some (.int b.2))) H1 (.int (f b).2)) :
    EvPr PairT (tLc (iTup K te) (gTup K 2 (gCons (gName i) (gCons (gName j) gNil))) tYes (tTup (tCons ta (tCons tb tNil))) vs) σ H (rs.map f) := fun H0 e0 Q q => by
  obtain ⟨a, us, rfl, hs, bs⟩ := hv
  refine h H0 e0 _ fun H1 e1 => ⟨a, rfl, ⟨us, ex_t (e0.trans e1) hs⟩, fun D hD => ?_⟩
  have e01 := e0.trans e1
  have bs := beasts_2 (bs.ex e01)
  have hs := ex_t e01 hs
  have ul : us.length = rs.length := bs.len
  refine in_it (walk_tup (xs := us)) (fun k H2 => Ex H1 H2 ∧ ∃ ws, H2 D = some (.lst ws) ∧ All2 (PairT H2) ws ((rs.take k).map f)) ⟨Ex.new hD, [], upd_same, .nil⟩ (fun k H2 _ z => ex_t z.1 hs) (fun k x H2 H3 hk z y => ?_) (fun H2 z => ?_)
  · obtain ⟨rfl, hx⟩ := y
    obtain ⟨z1, ws, z2, z3⟩ := z
    obtain ⟨b, hb, pp, rfl, hpp⟩ := bs.get hx
    have hm := List.mem_of_getElem? hb
    refine ⟨pp, _, rfl, ex_t z1 hpp, rfl, _, _, rfl, _, _, rfl, rfl, hw _ _, ?_⟩
    refine t_yes ?_
    refine (h1 b _ (e01.trans z1) hm) _ (Ex.refl _) _ fun H4 e4 => ?_
    refine (h2 b H4 ((e01.trans z1).trans e4) hm) H4 (Ex.refl _) _ fun H5 e5 => ⟨by show 2 ≤ sizeLine; decide, fun T hT => ?_⟩
    have nT := Ex.new (o := .tup [V.int (f b).1, .int (f b).2]) hT
    have e25 := e4.trans e5
    refine ⟨ws, nT _ _ (e25 _ _ z2), sz_lt (by rw [All2.len z3, List.length_map, List.length_take]; omega), Ex.mut ((z1.trans e25).trans nT) hD, ws ++ [.ref T], upd_same, ?_⟩
    rw [List.take_add_one, hb, List.map_append]
    exact stb_T.allL (nT _ _ (e25 _ _ z2)) (All2.app (stb_T.all (e25.trans nT) z3) (.cons ⟨T, rfl, upd_same⟩ .nil))
  · obtain ⟨z1, ws, z2, z3⟩ := z
    rw [ul, List.take_length] at z3
    exact q D ws H2 (fresh_back e1 hD) (e1.trans z1) z2 z3
theorem er_tupB {ps : HH.Row} (h : EvPr PairT te σ H ps) : EvR K (tThen te (kTup K)) σ H ps := fun H1 e Q q => h H1 e _ fun a us H2 ha e2 g bs => .inl ⟨a, us, rfl, sq_of g, fun rt hrt => q (.ref rt) _ (e2.trans (Ex.new hrt)) ⟨rt, us, rfl, st_of upd_same, (BeastsT.be bs).ex (Ex.new hrt)⟩⟩
theorem ex_last {L : List Cow} {X : XK} (h : Ev te σ H v) (hv : RowAt K H v rs) (hl : rs.length ≤ 1000) (ht : ∀ b ∈ rs, 0 ≤ b.2) (sL : Steps (tag 0 rs) L) (nL : NfR L) : EvX K (tCall (spLastF K) [] X (tCons te tNil)) σ H (lastD L) := fun H1 e1 Q q => h H1 e1 _ fun H2 e2 => ⟨v, rs, rfl, hv.ex (e1.trans e2), hl, ht, fun p H3 M e3 la st nf => by
  rw [one_nf _ (good_tag ht) (Nat.le_refl _) st (nfr_nf nf) sL (nfr_nf nL)] at la
  exact q _ H3 (e2.trans e3) (lastF_dp la)⟩
theorem ex_first {L : List Cow} {X : XK} (h : Ev te σ H v) (hv : RowAt K H v rs) (hl : rs.length ≤ 1000) (ht : ∀ b ∈ rs, 0 ≤ b.2) (sL : FSteps (tag 0 rs) L) (nL : FfR L) : EvX K (tCall (spFirstF K) [] X (tCons te tNil)) σ H (lastD L) := fun H1 e1 Q q => h H1 e1 _ fun H2 e2 => ⟨v, rs, rfl, hv.ex (e1.trans e2), hl, ht, fun p H3 M e3 la st nf => by
  rw [one_ff _ (fgood_tag ht) (Nat.le_refl _) st (ffr_ff nf) sL (ffr_ff nL)] at la
  exact q _ H3 (e2.trans e3) (lastF_dp la)⟩
theorem ex_pairs {M : List Cow → List Cow → Prop} {L : List Cow} {X : XK} (h : Ev te σ H v) (hv : RowAt K H v rs) (hl : rs.length ≤ 30) (ht : ∀ b ∈ rs, 0 ≤ b.2) (one : ∀ N, M (tag 0 rs) N → N = L) : EvX K (tCall (spPairsT K M) [] X (tCons te tNil)) σ H (tabD L rs.length) := fun H1 e1 Q q => h H1 e1 _ fun H2 e2 => ⟨v, rs, rfl, hv.ex (e1.trans e2), hl, ht, fun p us N H3 hN hp e3 g3 bs => by
  rw [one N hN] at bs
  exact q _ H3 (e2.trans e3) (.lst (sq_of g3) (dp_beasts bs.be))⟩
theorem ex_never {X : XK} (h : Ev te σ H v) (hv : RowAt K H v rs) (hl : rs.length ≤ 1000) : EvX K (tCall (spNever K) [] X (tCons te tNil)) σ H (.list ((nevT rs).map natsL)) := fun H1 e1 Q q => h H1 e1 _ fun H2 e2 => ⟨v, rs, rfl, hv.ex (e1.trans e2), hl, fun p us H3 hp e3 g3 f => q _ H3 (e2.trans e3) (.lst (sq_of g3) (dp_lists f))⟩
def ListsA (K : PySem.W.Frag) (H : Hp) : List V → List (List Nat) → Prop := fun us ll => us.length = ll.length ∧ ∀ (i : Nat) (l : List Nat), ll[i]? = some l → ∃ p, us[i]? = some (.ref p) ∧ SqL K H p (natsV l)
theorem ListsA.ex {us : List V} {ll : List (List Nat)} (h : ListsA K H us ll) (e : Ex H H') : ListsA K H' us ll := ⟨h.1, fun i l hl => by
  obtain ⟨p, p1, p2⟩ := h.2 i l hl
  exact ⟨p, p1, ex_l e p2⟩⟩
theorem ListsA.cons {us : List V} {ll : List (List Nat)} {a : Addr} {l : List Nat} (h : ListsA K H us ll) (g : SqL K H a (natsV l)) : ListsA K H (.ref a :: us) (l :: ll) := ⟨by rw [List.length_cons, List.length_cons, h.1], fun i m hm => by
  cases i with
  | zero =>
    cases Option.some.inj hm
    exact ⟨a, rfl, g⟩
  | succ i => exact h.2 i m hm⟩
end
def dear : HH.Row := [(0, 10), (5, 1), (20, 2)]
abbrev Item := Int × HH.Row × List Nat × List (List Nat)
section
variable {K : PySem.W.Frag} {H H' H0 H1 H2 : Hp} {σ : L2.St} {te ta tb tc td : TE} {D : Ends} {v : V} {d : PyData} {rs : HH.Row} {tz : TS}
def ItemAt (K : PySem.W.Frag) (H : Hp) (x : V) (it : Item) : Prop := ∃ a ve oa ta, x = .ref a ∧ SqT K H a [.int it.1, ve, .ref oa, .ref ta] ∧ RowAt K H ve it.2.1 ∧ FrzT H oa (natsV it.2.2.1) ∧ TabAt K H ta it.2.2.2
theorem ItemAt.ex {x : V} {it : Item} (h : ItemAt K H x it) (e : Ex H H') : ItemAt K H' x it := by
  obtain ⟨a, ve, oa, ta, rfl, h1, h2, ⟨o, h3, h4⟩, h5⟩ := h
  exact ⟨a, ve, oa, ta, rfl, ex_t e h1, h2.ex e, ⟨o, h3, e _ _ h4⟩, h5.mono e⟩
end
end HH
set_option maxHeartbeats 4000000
namespace HH
open PySem PySem.Spec PyProof.Rows L2 Evl RZ
theorem Steps.app2 {L M : List Cow} (X : List Cow) (h : Steps L M) : Steps (L ++ X) (M ++ X) := by
  have := h.under [] X
  simpa using this
theorem Steps.cons2 {L M : List Cow} (x : Cow) (h : Steps L M) : Steps (x :: L) (x :: M) := by
  have := h.under [x] []
  simpa using this
def FreeT (L : List Cow) : Prop := ∀ x ∈ L, x.2.2 = 0
def InvP (L : List Cow) : Prop := L.Pairwise fun a b => a.1 > b.1 → a.2.1 > b.2.1
def InvF (L : List Cow) : Prop := L.Pairwise fun a b => a.1 > b.1 → a.2.1 < b.2.1
theorem pw_swap {R : Cow → Cow → Prop} {pre post : List Cow} {a b : Cow} (h : (pre ++ a :: b :: post).Pairwise R) (r : R b a) : (pre ++ b :: a :: post).Pairwise R := by
  rw [List.pairwise_append, List.pairwise_cons, List.pairwise_cons] at h ⊢
  obtain ⟨h1, ⟨h2, h3, h4⟩, h5⟩ := h
  refine ⟨h1, ⟨fun x hx => ?_, fun x hx => h2 x (List.mem_cons_of_mem _ hx), h4⟩, fun x hx y hy => h5 x hx y ?_⟩
  · rcases List.mem_cons.mp hx with rfl | hx
    · exact r
    · exact h3 x hx
  · rcases List.mem_cons.mp hy with rfl | hy
    · simp
    · rcases List.mem_cons.mp hy with rfl | hy
      · simp
      · simp [hy]
theorem free_steps {L M : List Cow} (s : Steps L M) : FreeT L → InvP L → M.Perm L ∧ InvP M := by
  induction s with
  | refl => exact fun _ i => ⟨.refl _, i⟩
  | head s _ ih =>
    intro f i
    obtain ⟨pre, post, a, b, rfl, hp, rfl⟩ := s
    have fa : a.2.2 = 0 := f a (by simp)
    have eb : (b.1, (b.2.1 - a.2.2, b.2.2)) = b := by rw [fa, Int.sub_zero]
    rw [eb] at ih
    rw [fa, Int.sub_zero] at hp
    have pm : (pre ++ b :: a :: post).Perm (pre ++ a :: b :: post) := (List.Perm.swap a b post).append_left pre
    obtain ⟨h1, h2⟩ := ih (fun x hx => f x (pm.mem_iff.mp hx)) (pw_swap i fun _ => hp)
    exact ⟨h1.trans pm, h2⟩
theorem free_fsteps {L M : List Cow} (s : FSteps L M) : FreeT L → InvF L → M.Perm L ∧ InvF M := by
  induction s with
  | refl => exact fun _ i => ⟨.refl _, i⟩
  | head s _ ih =>
    intro f i
    obtain ⟨pre, post, a, b, rfl, hp, rfl⟩ := s
    have fb : b.2.2 = 0 := f b (by simp)
    have ea : (a.1, (a.2.1 + b.2.2, a.2.2)) = a := by rw [fb, Int.add_zero]
    rw [ea] at ih
    have pm : (pre ++ b :: a :: post).Perm (pre ++ a :: b :: post) := (List.Perm.swap a b post).append_left pre
    obtain ⟨h1, h2⟩ := ih (fun x hx => f x (pm.mem_iff.mp hx)) (pw_swap i fun _ => hp)
    exact ⟨h1.trans pm, h2⟩
theorem tag_rises (rs : HH.Row) : (tag 0 rs).Pairwise fun a b => a.1 < b.1 := by
  have : ((tag 0 rs).map (·.1)).Pairwise (· < ·) := by
    rw [tag_ids]
    exact List.pairwise_lt_range
  exact List.pairwise_map.mp this
theorem free_nfr : ∀ {L : List Cow}, FreeT L → NfR L → L.Pairwise fun a b => b.2.1 ≤ a.2.1
  | [], _, _ => .nil
  | [a], _, _ => List.pairwise_singleton ..
  | a :: b :: r, f, h => by
    have ih := free_nfr (L := b :: r) (fun x hx => f x (List.mem_cons_of_mem _ hx)) h.2
    have fa : a.2.2 = 0 := f a (by simp)
    have h1 := h.1
    rw [fa, Int.sub_zero] at h1
    refine List.pairwise_cons.mpr ⟨fun x hx => ?_, ih⟩
    rcases List.mem_cons.mp hx with rfl | hx
    · omega
    · have := (List.pairwise_cons.mp ih).1 x hx
      omega
theorem free_ffr : ∀ {L : List Cow}, FfR L → L.Pairwise fun a b => a.2.1 ≤ b.2.1
  | [], _ => .nil
  | [a], _ => List.pairwise_singleton ..
  | a :: b :: r, h => by
    have ih := free_ffr (L := b :: r) h.2
    have h1 := h.1
    refine List.pairwise_cons.mpr ⟨fun x hx => ?_, ih⟩
    rcases List.mem_cons.mp hx with rfl | hx
    · omega
    · have := (List.pairwise_cons.mp ih).1 x hx
      omega
theorem pw3 {R S T U : Cow → Cow → Prop} {L : List Cow} (h1 : L.Pairwise R) (h2 : L.Pairwise S) (h3 : L.Pairwise T) (h : ∀ a b, R a b → S a b → T a b → U a b) : L.Pairwise U := (h1.and (h2.and h3)).imp fun {a b} ⟨x, y, z⟩ => h a b x y z
theorem perm_ids {L M : List Cow} (p : M.Perm L) (nd : (L.map (·.1)).Nodup) : M.Pairwise fun a b => a.1 ≠ b.1 := by
  have q : (M.map fun c : Cow => c.1).Nodup := (p.map _).nodup_iff.mpr nd
  exact List.pairwise_map.mp q
theorem sorted_end {rs : HH.Row} (f : ∀ b ∈ rs, b.2 = 0) : ∃ L, Steps (tag 0 rs) L ∧ NfR L ∧ L.Perm (tag 0 rs) ∧ (L.map fun c => ((0 - c.2.1, (c.1 : Int)) : Int × Int)).Pairwise lexL := by
  have tl : ∀ b ∈ rs, 0 ≤ b.2 := fun b hb => by rw [f b hb]; exact Int.le_refl _
  obtain ⟨L, s, n⟩ := some_nf _ (good_tag tl) (Nat.le_refl _)
  have fr : FreeT (tag 0 rs) := fun x hx => f _ (tag_mem hx)
  have nd : ((tag 0 rs).map (·.1)).Nodup := by rw [tag_ids]; exact List.nodup_range
  obtain ⟨pm, iv⟩ := free_steps s fr ((tag_rises rs).imp fun {a b} h g => absurd h (by omega))
  refine ⟨L, s, nfr_of n, pm, List.pairwise_map.mpr (pw3 (free_nfr (fun x hx => fr x (pm.mem_iff.mp hx)) (nfr_of n)) iv (perm_ids pm nd) fun a b h1 h2 h3 => ?_)⟩
  show 0 - a.2.1 < 0 - b.2.1 ∨ (0 - a.2.1 = 0 - b.2.1 ∧ (a.1 : Int) < (b.1 : Int))
  by_cases e : a.1 > b.1
  · have := h2 e
    omega
  · omega
theorem sorted_start {rs : HH.Row} (f : ∀ b ∈ rs, b.2 = 0) : ∃ L, FSteps (tag 0 rs) L ∧ FfR L ∧ L.Perm (tag 0 rs) ∧ (L.map fun c => ((c.2.1, (c.1 : Int)) : Int × Int)).Pairwise lexL := by
  have tl : ∀ b ∈ rs, 0 ≤ b.2 := fun b hb => by rw [f b hb]; exact Int.le_refl _
  obtain ⟨L, s, n⟩ := some_ff _ (fgood_tag tl) (Nat.le_refl _)
  have fr : FreeT (tag 0 rs) := fun x hx => f _ (tag_mem hx)
  have nd : ((tag 0 rs).map (·.1)).Nodup := by rw [tag_ids]; exact List.nodup_range
  obtain ⟨pm, iv⟩ := free_fsteps s fr ((tag_rises rs).imp fun {a b} h g => absurd h (by omega))
  refine ⟨L, s, ff_ffr n, pm, List.pairwise_map.mpr (pw3 (free_ffr (ff_ffr n)) iv (perm_ids pm nd) fun a b h1 h2 h3 => ?_)⟩
  show a.2.1 < b.2.1 ∨ (a.2.1 = b.2.1 ∧ (a.1 : Int) < (b.1 : Int))
  by_cases e : a.1 > b.1
  · have := h2 e
    omega
  · omega
theorem free_bar {rs : HH.Row} (f : ∀ b ∈ rs, b.2 = 0) (i : Nat) : ∀ m, barN rs i m = sS rs i := by
  have t0 : ∀ k, tS rs k = 0 := fun k => by
    unfold tS
    cases e : rs[k]? with
    | none => rfl
    | some b => exact f b (List.mem_of_getElem? e)
  intro m
  induction m with
  | zero => show sS rs i + tS rs i = _; rw [t0, Int.add_zero]
  | succ m ih =>
    show (if _ then _ else _) = _
    split
    · rw [t0, ih, Int.add_zero]
    · exact ih
theorem free_passT {rs : HH.Row} (f : ∀ b ∈ rs, b.2 = 0) : passT rs = tabP (fun i m => decide (sS rs (i + 1 + m) > sS rs i)) rs.length rs.length := by
  refine pw_same (pw_tabP _ _ _) (pw_tabP _ _ _) fun x => ?_
  rw [mem_passT, mem_tabP]
  constructor
  · rintro ⟨i, j, h1, h2, h3, h4⟩
    rw [free_bar f] at h4
    exact ⟨i, j, h1, h2, h3, decide_eq_true (by rw [show i + 1 + (j - i - 1) = j by omega]; exact h4)⟩
  · rintro ⟨i, j, h1, h2, h3, h4⟩
    have h4 := of_decide_eq_true h4
    rw [show i + 1 + (j - i - 1) = j by omega] at h4
    exact ⟨i, j, h1, h2, h3, by rw [free_bar f]; exact h4⟩
theorem perm_at {rs : HH.Row} {L : List Cow} (p : L.Perm (tag 0 rs)) : ∀ c ∈ L, rs[c.1]? = some c.2 := fun c hc => by
  have h := p.mem_iff.mp hc
  obtain ⟨i, hi⟩ := List.mem_iff_getElem?.mp h
  rw [tag_at] at hi
  cases e : rs[i]? with
  | none => rw [e] at hi; cases hi
  | some b =>
    rw [e] at hi
    have hi := Option.some.inj hi
    rw [← hi]
    show rs[0 + i]? = some b
    rw [Nat.zero_add, e]
theorem perm_keys {rs : HH.Row} {L : List Cow} (p : L.Perm (tag 0 rs)) (f : Int → Int) : ((List.range rs.length).map fun i => ((f (sS rs i), (i : Int)) : Int × Int)).Perm (L.map fun c => (f c.2.1, (c.1 : Int))) := by
  have e : ((List.range rs.length).map fun i => ((f (sS rs i), (i : Int)) : Int × Int)) = (tag 0 rs).map fun c => (f c.2.1, (c.1 : Int)) := by
    refine List.ext_getElem? fun i => ?_
    rw [List.getElem?_map, List.getElem?_map, tag_at]
    by_cases h : i < rs.length
    · rw [List.getElem?_range h, List.getElem?_eq_getElem h]
      show some (f (sS rs i), (i : Int)) = some (f rs[i].1, ((0 + i : Nat) : Int))
      unfold sS
      rw [List.getElem?_eq_getElem h, Nat.zero_add]
      rfl
    · rw [List.getElem?_eq_none (by rw [List.length_range]; omega), List.getElem?_eq_none (by omega)]
      rfl
  rw [e]
  exact (p.map _).symm
theorem nfr_tag : ∀ (k : Nat) (rs : HH.Row), (∀ i, i + 1 < rs.length → sS rs (i + 1) - tS rs i ≤ sS rs i) → NfR (tag k rs)
  | _, [], _ => True.intro
  | _, [_], _ => True.intro
  | k, a :: b :: r, h => by
    refine ⟨fun z => ?_, nfr_tag (k + 1) (b :: r) fun i hi => ?_⟩
    · have h0 : b.1 - a.2 ≤ a.1 := h 0 (by simp)
      have z : b.1 - a.2 > a.1 := z
      omega
    · exact h (i + 1) (by simp only [List.length_cons] at hi ⊢; omega)
theorem ffr_tag : ∀ (k : Nat) (rs : HH.Row), (∀ i, i + 1 < rs.length → sS rs i ≤ sS rs (i + 1)) → FfR (tag k rs)
  | _, [], _ => True.intro
  | _, [_], _ => True.intro
  | k, a :: b :: r, h => by
    refine ⟨fun z => ?_, ffr_tag (k + 1) (b :: r) fun i hi => ?_⟩
    · have h0 : a.1 ≤ b.1 := h 0 (by simp)
      have z : a.1 > b.1 := z
      omega
    · exact h (i + 1) (by simp only [List.length_cons] at hi ⊢; omega)
theorem passL_none {rs : HH.Row} (h : ∀ i, i + 1 < rs.length → sS rs (i + 1) - tS rs i ≤ sS rs i) : HH.passL rs = [] := by
  have e : (HH.passL rs).isEmpty = true := by
    rw [last_any, Bool.not_eq_true', List.any_eq_false]
    intro b hb z
    obtain ⟨k, hk, rfl⟩ := List.mem_map.mp hb
    have hk := List.mem_range.mp hk
    unfold letsN at z
    dsimp only [id] at z
    rw [Bool.and_eq_true, decide_eq_true_iff, decide_eq_true_iff] at z
    have := h (k - 1) (by omega)
    rw [show k - 1 + 1 = k by omega] at this
    omega
  exact List.isEmpty_iff.mp e
def rowN (n : Nat) (f g : Nat → Int) : HH.Row := (List.range n).map fun i => (f i, g i)
theorem rowN_len (n : Nat) (f g : Nat → Int) : (rowN n f g).length = n := by unfold rowN; rw [List.length_map, List.length_range]
theorem rowN_at {n i : Nat} {f g : Nat → Int} (h : i < n) : sS (rowN n f g) i = f i ∧ tS (rowN n f g) i = g i := by
  unfold sS tS rowN
  rw [List.getElem?_map, List.getElem?_range h]
  exact ⟨rfl, rfl⟩
theorem rowN_succ (n : Nat) (f g : Nat → Int) : rowN (n + 1) f g = rowN n f g ++ [(f n, g n)] := by
  unfold rowN
  rw [List.range_succ, List.map_append]
  rfl
def stairL (r t B : Int) : Nat → List Cow
  | 0 => []
  | k + 1 => (k, (B + (r - t) * (k : Int), t)) :: stairL r t B k
theorem stair_pass {r t B : Int} (w : Nat) : ∀ (j : Nat) (s : Int), (∀ i : Nat, i < j → s - t * (i : Int) - t > B + (r - t) * (i : Int)) → Steps (stairL r t B j ++ [(w, (s, t))]) ((w, (s - t * (j : Int), t)) :: stairL r t B j)
  | 0, s, _ => by
    show Steps [(w, (s, t))] [(w, (s - t * ((0 : Nat) : Int), t))]
    have : s - t * ((0 : Nat) : Int) = s := by simp
    rw [this]
    exact .refl _
  | j + 1, s, h => by
    have ih := (stair_pass w j s fun i hi => h i (by omega)).cons2 (j, (B + (r - t) * (j : Int), t))
    refine ih.trans (.one ⟨[], stairL r t B j, (j, (B + (r - t) * (j : Int), t)), (w, (s - t * (j : Int), t)), rfl, h j (by omega), ?_⟩)
    show _ = [] ++ (w, (s - t * (j : Int) - t, t)) :: _ :: _
    have e : s - t * (((j + 1 : Nat)) : Int) = s - t * (j : Int) - t := by
      rw [Int.natCast_add, Int.mul_add]
      simp
      omega
    rw [e]
    rfl
theorem stair_steps {r t B : Int} (h : t < r) (r0 : 0 ≤ r) : ∀ n, Steps (tag 0 (rowN n (fun i => B + r * (i : Int)) fun _ => t)) (stairL r t B n)
  | 0 => .refl _
  | n + 1 => by
    rw [rowN_succ, tag_snoc, rowN_len, Nat.zero_add]
    refine ((stair_steps h r0 n).app2 _).trans ?_
    have := stair_pass (r := r) (t := t) (B := B) n n (B + r * (n : Int)) fun i hi => by
      have e : r * (n : Int) = r * (i : Int) + r * ((n : Int) - (i : Int)) := by
        rw [← Int.mul_add]
        congr 1
        omega
      have e2 : (r - t) * (i : Int) = r * (i : Int) - t * (i : Int) := Int.sub_mul ..
      have : r * 1 ≤ r * ((n : Int) - (i : Int)) := Int.mul_le_mul_of_nonneg_left (by omega) r0
      omega
    have e : B + r * (n : Int) - t * (n : Int) = B + (r - t) * (n : Int) := by
      rw [Int.sub_mul]
      omega
    rw [e] at this
    exact this
theorem stair_nfr {r t B : Int} (h : t < r) (t0 : 0 ≤ t) : ∀ n, NfR (stairL r t B n)
  | 0 => True.intro
  | 1 => True.intro
  | n + 2 => by
    refine ⟨fun z => ?_, stair_nfr h t0 (n + 1)⟩
    have z : B + (r - t) * (n : Int) - t > B + (r - t) * ((n + 1 : Nat) : Int) := z
    have e : (r - t) * ((n + 1 : Nat) : Int) = (r - t) * (n : Int) + (r - t) := by
      rw [Int.natCast_add, Int.mul_add]
      simp
    rw [e] at z
    omega
end HH
set_option maxHeartbeats 4000000
namespace HH
open PySem PySem.Spec PyProof.Rows L2 Evl RZ
theorem bar_up {rs : HH.Row} (tl : ∀ b ∈ rs, 0 ≤ b.2) (i : Nat) : ∀ m, sS rs i + tS rs i ≤ barN rs i m := by
  have t0 : ∀ k, 0 ≤ tS rs k := fun k => by
    unfold tS
    cases e : rs[k]? with
    | none => exact Int.le_refl _
    | some b => exact tl b (List.mem_of_getElem? e)
  intro m
  induction m with
  | zero => exact Int.le_refl _
  | succ m ih =>
    show _ ≤ (if _ then _ else _)
    split
    · exact Int.le_trans ih (Int.le_add_of_nonneg_right (t0 _))
    · exact ih
theorem never_all {rs : HH.Row} (h : ∀ i j, i < j → j < rs.length → ∀ m, sS rs j ≤ barN rs i m) : nevT rs = (List.range rs.length).map (fun i => (List.range (rs.length - (i + 1))).map (i + 1 + ·)) ∧ passT rs = [] := by
  constructor
  · unfold nevT
    refine List.map_congr_left fun i hi => ?_
    have hi := List.mem_range.mp hi
    unfold nevL
    rw [show rs.length - i - 1 = rs.length - (i + 1) by omega]
    congr 1
    refine List.filter_eq_self.mpr fun m hm => ?_
    have hm := List.mem_range.mp hm
    exact decide_eq_true (h i (i + 1 + m) (by omega) (by omega) m)
  · refine pw_same (pw_tabP _ _ _) .nil fun x => ⟨fun hx => ?_, fun hx => nomatch hx⟩
    obtain ⟨i, j, h1, h2, _, h4⟩ := mem_passT.mp hx
    have := h i j h1 h2 (j - i - 1)
    omega
theorem never_none {rs : HH.Row} (h : ∀ i j, i < j → j < rs.length → sS rs j > sS rs i + tS rs i) : nevT rs = List.replicate rs.length [] := by
  have bar : ∀ i m, i + m < rs.length → barN rs i m = sS rs i + tS rs i := fun i m => by
    induction m with
    | zero => exact fun _ => rfl
    | succ m ih =>
      intro hm
      have ih := ih (by omega)
      have := h i (i + 1 + m) (by omega) (by omega)
      rw [barN_no (by rw [ih]; omega), ih]
  unfold nevT
  refine List.eq_replicate_iff.mpr ⟨by rw [List.length_map, List.length_range], fun l hl => ?_⟩
  obtain ⟨i, hi, rfl⟩ := List.mem_map.mp hl
  have hi := List.mem_range.mp hi
  unfold nevL
  have : (List.range (rs.length - i - 1)).filter (nevP rs i) = [] := by
    rw [List.filter_eq_nil_iff]
    intro m hm z
    have hm := List.mem_range.mp hm
    have z := of_decide_eq_true z
    rw [bar i m (by omega)] at z
    have := h i (i + 1 + m) (by omega) (by omega)
    omega
  rw [this]
  rfl
def lessC (T : Int) (c : Cow) : Cow := (c.1, (c.2.1 - T, c.2.2))
theorem dear_steps {S T : Int} (R : List Cow) : ∀ A : List Cow, (∀ a ∈ A, a.2.1 - T > S) → Steps ((0, (S, T)) :: A ++ R) (A.map (lessC T) ++ (0, (S, T)) :: R)
  | [], _ => .refl _
  | a :: A, h => by
    have ih := (dear_steps R A fun x hx => h x (List.mem_cons_of_mem _ hx)).cons2 (lessC T a)
    exact .head ⟨[], A ++ R, (0, (S, T)), a, rfl, h a (List.mem_cons_self ..), rfl⟩ ih
theorem nfr_two {A B : List Cow} (h1 : NfR A) (h2 : NfR B) (h : ∀ x y, A.getLast? = some x → B.head? = some y → ¬ (y.2.1 - x.2.2 > x.2.1)) : NfR (A ++ B) := by
  induction A with
  | nil => exact h2
  | cons a A ih =>
    cases A with
    | nil =>
      cases B with
      | nil => exact True.intro
      | cons b B => exact ⟨h a b rfl rfl, h2⟩
    | cons b A =>
      refine ⟨h1.1, ih h1.2 fun x y hx hy => h x y (by rw [List.getLast?_cons_cons]; exact hx) hy⟩
theorem nfr_fall : ∀ {A : List Cow}, (∀ x ∈ A, 0 ≤ x.2.2) → (A.Pairwise fun a b => b.2.1 ≤ a.2.1) → NfR A
  | [], _, _ => True.intro
  | [_], _, _ => True.intro
  | a :: b :: r, h, p => by
    have p := List.pairwise_cons.mp p
    refine ⟨fun z => ?_, nfr_fall (fun x hx => h x (List.mem_cons_of_mem _ hx)) p.2⟩
    have := p.1 b (by simp)
    have := h a (by simp)
    omega
theorem dear_end {S T : Int} {qs : HH.Row} {f : Nat} (T0 : 0 ≤ T) (tl : ∀ b ∈ qs, 0 ≤ b.2) (srt : qs.Pairwise fun a b => b.1 ≤ a.1) (h1 : ∀ b ∈ qs.take f, b.1 > S + T) (h2 : ∀ b ∈ qs.drop f, b.1 ≤ S + T) :
    ∃ L, Steps (tag 0 ((S, T) :: qs)) L ∧ NfR L ∧ rowsOf L = (qs.take f).map (fun b => (b.1 - T, b.2)) ++ (S, T) :: qs.drop f ∧ L = (tag 1 (qs.take f)).map (lessC T) ++ (0, (S, T)) :: tag (1 + (qs.take f).length) (qs.drop f) := by
  refine ⟨_, ?_, ?_, ?_, rfl⟩
  · have e : tag 0 ((S, T) :: qs) = (0, (S, T)) :: tag 1 (qs.take f) ++ tag (1 + (qs.take f).length) (qs.drop f) := by
      show (0, (S, T)) :: tag 1 qs = _
      rw [List.cons_append, ← tag_app, List.take_append_drop]
    rw [e]
    exact dear_steps _ _ fun a ha => by
      have := h1 _ (tag_mem ha)
      omega
  · have t1 : ∀ x ∈ (tag 1 (qs.take f)).map (lessC T), 0 ≤ x.2.2 := fun x hx => by
      obtain ⟨c, hc, rfl⟩ := List.mem_map.mp hx
      exact tl c.2 (List.mem_of_mem_take (tag_mem hc))
    have pwt : ∀ (k : Nat) (rs : HH.Row), (rs.Pairwise fun a b => b.1 ≤ a.1) → (tag k rs).Pairwise fun a b => b.2.1 ≤ a.2.1 := fun k rs p => by
      have : ((tag k rs).map (·.2)).Pairwise fun a b => b.1 ≤ a.1 := by rw [tag_snd]; exact p
      exact List.pairwise_map.mp this
    refine nfr_two (nfr_fall t1 (List.pairwise_map.mpr ((pwt 1 _ (srt.sublist (List.take_sublist ..))).imp fun {a b} h => by show b.2.1 - T ≤ a.2.1 - T; omega))) ?_ fun x y hx hy => ?_
    · show NfR ([(0, (S, T))] ++ tag _ (qs.drop f))
      refine nfr_two True.intro (nfr_fall (fun x hx => tl _ (List.mem_of_mem_drop (tag_mem hx))) (pwt _ _ (srt.sublist (List.drop_sublist ..)))) fun x y hx hy => ?_
      cases hx
      have := h2 _ (tag_mem (List.mem_of_mem_head? hy))
      show ¬ (y.2.1 - T > S)
      omega
    · cases hy
      have hm := List.mem_of_mem_getLast? hx
      obtain ⟨c, hc, rfl⟩ := List.mem_map.mp hm
      have := h1 _ (tag_mem hc)
      have t2 := tl _ (List.mem_of_mem_take (tag_mem hc))
      show ¬ (S - c.2.2 > c.2.1 - T)
      omega
  · unfold rowsOf
    rw [List.map_append, List.map_map, List.map_cons, tag_snd]
    have : (tag 1 (qs.take f)).map ((·.2) ∘ lessC T) = (qs.take f).map fun b => (b.1 - T, b.2) := by
      have e : ((·.2) ∘ lessC T : Cow → Int × Int) = (fun b : Int × Int => (b.1 - T, b.2)) ∘ (·.2) := rfl
      rw [e, ← List.map_map, tag_snd]
    rw [this]
theorem dear_ids {S T : Int} {qs : HH.Row} {f : Nat} (hf : f ≤ qs.length) : ((tag 1 (qs.take f)).map (lessC T) ++ (0, (S, T)) :: tag (1 + (qs.take f).length) (qs.drop f)).map (·.1) = (List.range f).map (1 + ·) ++ 0 :: (List.range (qs.length - f)).map (1 + f + ·) := by
  have e1 : (qs.take f).length = f := by rw [List.length_take]; omega
  rw [List.map_append, List.map_cons, List.map_map, tag_fst, e1, List.length_drop]
  have : (tag 1 (qs.take f)).map ((·.1) ∘ lessC T) = (tag 1 (qs.take f)).map (·.1) := rfl
  rw [this, tag_fst, e1]
theorem dear_pairs {S T : Int} {qs : HH.Row} {f : Nat} (T0 : 0 ≤ T) (hf : f ≤ qs.length) (tl : ∀ b ∈ qs, 0 ≤ b.2) (srt : qs.Pairwise fun a b => b.1 ≤ a.1) (h1 : ∀ b ∈ qs.take f, b.1 > S + T) (h2 : ∀ b ∈ qs.drop f, b.1 ≤ S + T) : passT ((S, T) :: qs) = (List.range f).map fun k => ((0 : Int), ((1 + k : Nat) : Int)) := by
  have tls : ∀ b ∈ (S, T) :: qs, 0 ≤ b.2 := fun b hb => by
    rcases List.mem_cons.mp hb with rfl | hb
    · exact T0
    · exact tl b hb
  have at1 : ∀ j, j < qs.length → ∃ b, qs[j]? = some b ∧ sS ((S, T) :: qs) (j + 1) = b.1 := fun j hj => ⟨qs[j], List.getElem?_eq_getElem hj, by
    unfold sS
    rw [List.getElem?_cons_succ, List.getElem?_eq_getElem hj]
    rfl⟩
  have bar0 : ∀ m, m ≤ f → barN ((S, T) :: qs) 0 m = S + T := fun m => by
    induction m with
    | zero => exact fun _ => rfl
    | succ m ih =>
      intro hm
      have ih := ih (by omega)
      obtain ⟨b, hb, e⟩ := at1 m (by omega)
      have g := h1 b (List.mem_of_getElem? (show (qs.take f)[m]? = some b by rw [List.getElem?_take_of_lt (by omega)]; exact hb))
      rw [barN_no (by rw [ih, show 0 + 1 + m = m + 1 by omega, e]; omega), ih]
  refine pw_same (pw_tabP _ _ _) ?_ fun x => ?_
  · rw [List.pairwise_map]
    exact List.pairwise_lt_range.imp fun {a b} h => .inr ⟨rfl, by show ((1 + a : Nat) : Int) < ((1 + b : Nat) : Int); omega⟩
  rw [mem_passT]
  constructor
  · rintro ⟨i, j, g1, g2, rfl, g4⟩
    rw [List.length_cons] at g2
    obtain ⟨k, rfl⟩ : ∃ k, j = k + 1 := ⟨j - 1, by omega⟩
    obtain ⟨b, hb, e⟩ := at1 k (by omega)
    rw [e] at g4
    have up := bar_up tls i (k + 1 - i - 1)
    cases i with
    | zero =>
      have up : S + T ≤ barN ((S, T) :: qs) 0 (k + 1 - 0 - 1) := up
      refine List.mem_map.mpr ⟨k, List.mem_range.mpr (Nat.lt_of_not_le fun z => ?_), by rw [Nat.add_comm 1 k]; rfl⟩
      have := h2 b (List.mem_of_getElem? (show (qs.drop f)[k - f]? = some b by rw [List.getElem?_drop, show f + (k - f) = k by omega]; exact hb))
      omega
    | succ i =>
      exfalso
      obtain ⟨a, ha, ea⟩ := at1 i (by omega)
      have ta : 0 ≤ tS ((S, T) :: qs) (i + 1) := by
        unfold tS
        rw [List.getElem?_cons_succ, ha]
        exact tl a (List.mem_of_getElem? ha)
      rw [ea] at up
      have srt2 : b.1 ≤ a.1 := by
        obtain ⟨l1, e1⟩ := List.getElem?_eq_some_iff.mp ha
        obtain ⟨l2, e2⟩ := List.getElem?_eq_some_iff.mp hb
        rw [← e1, ← e2]
        exact List.pairwise_iff_getElem.mp srt i k l1 l2 (by omega)
      omega
  · intro hx
    obtain ⟨k, hk, rfl⟩ := List.mem_map.mp hx
    have hk := List.mem_range.mp hk
    obtain ⟨b, hb, e⟩ := at1 k (by omega)
    refine ⟨0, k + 1, by omega, by rw [List.length_cons]; omega, by rw [Nat.add_comm 1 k]; rfl, ?_⟩
    rw [show k + 1 - 0 - 1 = k by omega, bar0 k (by omega), e]
    exact h1 b (List.mem_of_getElem? (show (qs.take f)[k]? = some b by rw [List.getElem?_take_of_lt hk]; exact hb))
structure Strong (E : List Cow) (st : Int) (k : Nat) (left : Int) : Prop where
  s : Steps (E ++ [(E.length, (st, 2))]) (E.take (E.length - k) ++ (E.length, (left, 2)) :: E.drop (E.length - k))
  b : ∀ b r, E.drop (E.length - k) = b :: r → b.2.1 < left
theorem strong_0 (E : List Cow) (st : Int) : Strong E st 0 st := ⟨by
  rw [Nat.sub_zero, List.take_length, List.drop_length]
  exact .refl _, fun b r h => by rw [Nat.sub_zero, List.drop_length] at h; cases h⟩
theorem strong_1 {E : List Cow} {st left : Int} {k : Nat} {c : Cow} (h : Strong E st k left) (hk : k < E.length) (hc : E[E.length - 1 - k]? = some c) (g : left - c.2.2 > c.2.1) : Strong E st (k + 1) (left - c.2.2) := by
  obtain ⟨l, e⟩ := List.getElem?_eq_some_iff.mp hc
  have e1 : E.take (E.length - k) = E.take (E.length - (k + 1)) ++ [c] := by
    rw [show E.length - k = E.length - (k + 1) + 1 by omega, List.take_add_one, show E.length - (k + 1) = E.length - 1 - k by omega, hc]
    rfl
  have e2 : E.drop (E.length - (k + 1)) = c :: E.drop (E.length - k) := by
    rw [List.drop_eq_getElem_cons (by omega : E.length - (k + 1) < E.length), show E.length - (k + 1) + 1 = E.length - k by omega]
    congr 1
    rw [← e]
    congr 1
    omega
  refine ⟨?_, fun b r hb => ?_⟩
  · have s := h.s
    rw [e1, List.append_assoc] at s
    rw [e2]
    exact s.trans (.one ⟨E.take (E.length - (k + 1)), E.drop (E.length - k), c, (E.length, (left, 2)), rfl, g, rfl⟩)
  · rw [e2] at hb
    cases hb
    omega
theorem strong_nfr {E : List Cow} {st left : Int} {k : Nat} (h : Strong E st k left) (n : NfR E) (g : ∀ c, k < E.length → E[E.length - 1 - k]? = some c → ¬ (left - c.2.2 > c.2.1)) : NfR (E.take (E.length - k) ++ (E.length, (left, 2)) :: E.drop (E.length - k)) := by
  refine nfr_in (by rw [List.take_append_drop]; exact n) (fun x hx => ?_) fun b r hb => ?_
  · rw [List.getLast?_eq_getElem?, List.length_take] at hx
    by_cases hk : k < E.length
    · rw [List.getElem?_take_of_lt (by omega), show min (E.length - k) E.length - 1 = E.length - 1 - k by omega] at hx
      exact g x hk hx
    · rw [show E.length - k = 0 by omega, List.take_zero] at hx
      cases hx
  · have := h.b b r hb
    show ¬ (b.2.1 - 2 > left)
    omega
end HH
set_option maxHeartbeats 4000000
namespace HH
open PySem PySem.Spec PyProof.Rows L2 Evl RZ
def rgC (i c : Int) (n : Nat) : List V := (List.range n).map fun k => V.int (i + (k : Nat) * c)
section
variable {X : Cx} {σ : L2.St} {H : Hp}
def tTupRg3 (ta : TA) : TE := fun σ H Q => ta σ H fun vs H1 => ∃ (i j c : Int) (n : Nat), vs = [.int i, .int j, .int c] ∧ RgC i j c n ∧ n ≤ 2 ^ 24 ∧ ∀ q, H1 q = none → Q (.ref q) (upd H1 q (.tup (rgC i c n)))
theorem pe_tupRg3 {a b c : Expr} {ta : TA} {p p2 pos pos2 : Pos} (hc : X.calm = true) (hg : Gl X "tuple") (hm : X.mg "tuple" = none) (hg2 : Gl X "range") (hm2 : X.mg "range" = none) (ha : PA X [a, b, c] ta)
    (hs : starEach [a, b, c] X.env = (false, eval a X.env) :: starEach [b, c] X.env := by rfl) (hpl : (backTo pos (starEach [b, c] X.env)).any (·.1) = false := by rfl)
    (na : starEach [.Call (.Name "range" p) [a, b, c] [] pos] X.env = (false, eval (.Call (.Name "range" p) [a, b, c] [] pos) X.env) :: starEach [] X.env := by rfl) : PE X (.Call (.Name "tuple" p2) [.Call (.Name "range" p) [a, b, c] [] pos] [] pos2) (tTupRg3 ta) := by
  refine ⟨fun pins s σ H Q I h => ?_⟩
  refine Call_ (ld_blt I hg hm boot_tuple (PyProof.Rows.callWith_type1 (args_cons (Call_ (ld_blt I hg2 hm2 boot_range (PyProof.Rows.callWith_type1 (thn (ha.run pos pins s σ H _ I h) fun us s1 ⟨vs, H1, I1, r1, q1⟩ => ?_) hs hpl))) na) na))
  obtain ⟨i, j, k, n, e, ⟨c0, c1, c2, c3⟩, nl, q⟩ := q1
  subst e
  cases r1 with
  | cons r rr =>
    cases rr with
    | cons r' rr =>
      cases rr with
      | cons r'' rr =>
        cases rr
        obtain ⟨t, rfl⟩ := r
        obtain ⟨t', rfl⟩ := r'
        obtain ⟨t'', rfl⟩ := r''
        refine call_range_3 c0 ?_ (.inl (PyProof.noPylong_small c1))
        have I2 : L2.Inv X pins σ H1 { s1 with heap := s1.heap.push { cls := .type "range", data := .fields #[.int i t, .int j t', .int k t''] } } := I1.kept (t' := s1.toks) fun b o e => Heap.get?_push_of_some _ e
        refine args_nil ?_
        refine call_tuple_range (n := n) (I2.ok.hd hc) (IsRange.new ..) c2 (by rw [c3]) nl fun h' tk acc hk hi => ?_
        have I3 : L2.Inv X pins σ H1 { s1 with heap := h', toks := tk } := I2.kept hk
        refine ⟨.ref h'.objs.size, upd H1 h'.objs.size (.tup (rgC i k n)), I3.laid (t' := tk) (fun c o e => Heap.get?_push_of_some _ e) (Nat.le_refl _) (show ObjOk X.prog X.w _ _ _ (.tup (rgC i k n)) from ⟨?_, acc.toList, ?_, ?_⟩), rfl, q _ (I3.hok.fresh (Nat.le_refl _))⟩
        · unfold rgC
          rw [List.length_map, List.length_range, sizeLine_eq]; omega
        · have e : acc.toList.length = n := by rw [Array.length_toList]; exact hi.1
          unfold rgC
          rw [← e]
          refine vals_of_get acc.toList _ fun j u hj => ?_
          obtain ⟨t, rfl⟩ := hi.2 j u (by rw [← hj, Array.getElem?_toList])
          exact ⟨t, rfl⟩
        · rw [Array.toArray_toList]; exact IsTup.new _ _
end
end HH
set_option maxHeartbeats 4000000
namespace HH
open PySem PySem.Spec PyProof.Rows L2 Evl RZ
abbrev Lot := Int × Int × Int
def LotAt (K : PySem.W.Frag) (H : Hp) (v : V) (l : Lot) : Prop := ∃ p, v = .ref p ∧ SqT K H p [.int l.1, .int l.2.1, .int l.2.2]
abbrev LotsA (K : PySem.W.Frag) (H : Hp) : List V → List Lot → Prop := All2 (LotAt K H)
def HerdAt (K : PySem.W.Frag) (H : Hp) (v : V) (ls : List Lot) : Prop := ∃ a us, v = .ref a ∧ SqT K H a us ∧ LotsA K H us ls
section
variable {K : PySem.W.Frag} {H H' : Hp} {v : V} {l : Lot} {ls : List Lot} {us : List V}
theorem LotAt.ex (h : LotAt K H v l) (e : Ex H H') : LotAt K H' v l := by
  obtain ⟨p, h1, h2⟩ := h
  exact ⟨p, h1, ex_t e h2⟩
theorem LotAt.exB {q : Addr} {ys : List V} (h : LotAt K H v l) (e : ExB q H H') (hq : H q = some (.lst ys)) : LotAt K H' v l := by
  obtain ⟨p, h1, h2⟩ := h
  exact ⟨p, h1, e.t hq h2⟩
theorem LotsA.ex' (h : LotsA K H us ls) (e : Ex H H') : LotsA K H' us ls := All2.mono (fun _ _ r => r.ex e) h
theorem LotsA.exB' {q : Addr} {ys : List V} (h : LotsA K H us ls) (e : ExB q H H') (hq : H q = some (.lst ys)) : LotsA K H' us ls := All2.mono (fun _ _ r => r.exB e hq) h
theorem HerdAt.ex (h : HerdAt K H v ls) (e : Ex H H') : HerdAt K H' v ls := by
  obtain ⟨a, us, h1, h2, h3⟩ := h
  exact ⟨a, us, h1, ex_t e h2, LotsA.ex' h3 e⟩
theorem HerdAt.exB {q : Addr} {n : Nat} (h : HerdAt K H v ls) (e : ExB q H H') (hq : Bx H q n) : HerdAt K H' v ls := by
  obtain ⟨a, us, h1, h2, h3⟩ := h
  obtain ⟨xs, hx⟩ := hq.lst
  exact ⟨a, us, h1, e.t hx h2, LotsA.exB' h3 e hx⟩
end
def alikeB (acc : List Lot) (s t : Int) : Bool := match acc.getLast? with
  | some l => decide (l.1 = s ∧ l.2.1 = t)
  | none => false
def popL (acc : List Lot) (s t : Int) : List Lot := if alikeB acc s t = true then acc.dropLast else acc
def befL (acc : List Lot) (s t : Int) : Int := if alikeB acc s t = true then (acc.getLast?.getD (0, 0, 0)).2.2 else 0
def packStep (acc : List Lot) (l : Lot) : List Lot := popL acc l.1 l.2.1 ++ [(l.1, l.2.1, befL acc l.1 l.2.1 + l.2.2)]
def packL (ls : List Lot) : List Lot := ls.foldl packStep []
def ones (rs : HH.Row) : List Lot := rs.map fun b => (b.1, b.2, 1)
def sprR (ls : List Lot) : HH.Row := ls.flatMap fun l => List.replicate l.2.2.toNat (l.1, l.2.1)
theorem alike_snoc (acc : List Lot) (l : Lot) (s t : Int) : alikeB (acc ++ [l]) s t = decide (l.1 = s ∧ l.2.1 = t) := by
  unfold alikeB
  rw [List.getLast?_concat]
theorem spr_app (a b : List Lot) : sprR (a ++ b) = sprR a ++ sprR b := List.flatMap_append ..
theorem alike_ex {acc : List Lot} {s t : Int} (h : alikeB acc s t = true) : ∃ pre m, acc = pre ++ [(s, t, m)] := by
  unfold alikeB at h
  cases c : acc.getLast? with
  | none => rw [c] at h; cases h
  | some l =>
    rw [c] at h
    have h := of_decide_eq_true h
    have hne : acc ≠ [] := fun z => by rw [z] at c; cases c
    refine ⟨acc.dropLast, l.2.2, ?_⟩
    have e := List.dropLast_concat_getLast hne
    rw [List.getLast?_eq_some_getLast hne] at c
    have c := Option.some.inj c
    rw [c] at e
    rw [← h.1, ← h.2]
    exact e.symm
theorem step_alike (pre : List Lot) (s t m k : Int) : packStep (pre ++ [(s, t, m)]) (s, t, k) = pre ++ [(s, t, m + k)] := by
  unfold packStep popL befL
  have e : alikeB (pre ++ [(s, t, m)]) s t = true := by rw [alike_snoc]; exact decide_eq_true ⟨rfl, rfl⟩
  show (if alikeB (pre ++ [(s, t, m)]) s t = true then _ else _) ++ [(s, t, (if alikeB (pre ++ [(s, t, m)]) s t = true then _ else _) + k)] = _
  rw [if_pos e, if_pos e, List.dropLast_concat, List.getLast?_concat]
  rfl
theorem step_other {acc : List Lot} {s t k : Int} (h : alikeB acc s t = false) : packStep acc (s, t, k) = acc ++ [(s, t, k)] := by
  unfold packStep popL befL
  show (if alikeB acc s t = true then _ else _) ++ [(s, t, (if alikeB acc s t = true then _ else _) + k)] = _
  rw [if_neg (by rw [h]; exact Bool.false_ne_true), if_neg (by rw [h]; exact Bool.false_ne_true), Int.zero_add]
def PosL (ls : List Lot) : Prop := ∀ l ∈ ls, 1 ≤ l.2.2
theorem step_pos {acc : List Lot} {l : Lot} (h : PosL acc) (hl : 1 ≤ l.2.2) : PosL (packStep acc l) := by
  obtain ⟨s, t, k⟩ := l
  cases c : alikeB acc s t with
  | true =>
    obtain ⟨pre, m, rfl⟩ := alike_ex c
    rw [step_alike]
    intro x hx
    rcases List.mem_append.mp hx with g | g
    · exact h x (List.mem_append_left _ g)
    · rw [List.mem_singleton.mp g]
      have := h (s, t, m) (by simp)
      show 1 ≤ m + k
      have hl : 1 ≤ k := hl
      have this : 1 ≤ m := this
      omega
  | false =>
    rw [step_other c]
    intro x hx
    rcases List.mem_append.mp hx with g | g
    · exact h x g
    · rw [List.mem_singleton.mp g]
      exact hl
theorem fold_pos : ∀ (ls acc : List Lot), PosL acc → PosL ls → PosL (ls.foldl packStep acc)
  | [], acc, h, _ => h
  | l :: ls, acc, h, g => fold_pos ls (packStep acc l) (step_pos h (g l (List.mem_cons_self ..))) fun x hx => g x (List.mem_cons_of_mem _ hx)
theorem packL_pos {ls : List Lot} (h : PosL ls) : PosL (packL ls) := fold_pos ls [] (fun x hx => nomatch hx) h
theorem step_spr {acc : List Lot} {l : Lot} (h : PosL acc) (hl : 1 ≤ l.2.2) : sprR (packStep acc l) = sprR acc ++ List.replicate l.2.2.toNat (l.1, l.2.1) := by
  obtain ⟨s, t, k⟩ := l
  have one : ∀ m : Int, sprR [(s, t, m)] = List.replicate m.toNat (s, t) := fun m => by
    unfold sprR
    simp
  cases c : alikeB acc s t with
  | true =>
    obtain ⟨pre, m, rfl⟩ := alike_ex c
    have hm : 1 ≤ m := h (s, t, m) (by simp)
    have hk : 1 ≤ k := hl
    rw [step_alike, spr_app, spr_app, one, one, List.append_assoc, List.replicate_append_replicate, show m.toNat + k.toNat = (m + k).toNat by omega]
  | false =>
    rw [step_other c, spr_app, one]
theorem fold_spr : ∀ (ls acc : List Lot), PosL acc → PosL ls → sprR (ls.foldl packStep acc) = sprR acc ++ sprR ls
  | [], acc, _, _ => by
    show sprR acc = sprR acc ++ []
    rw [List.append_nil]
  | l :: ls, acc, h, g => by
    have hl := g l (List.mem_cons_self ..)
    rw [List.foldl_cons, fold_spr ls _ (step_pos h hl) (fun x hx => g x (List.mem_cons_of_mem _ hx)), step_spr h hl, List.append_assoc]
    congr 1
theorem packL_spr {ls : List Lot} (h : PosL ls) : sprR (packL ls) = sprR ls := by
  have := fold_spr ls [] (fun x hx => nomatch hx) h
  exact this
theorem ones_pos (rs : HH.Row) : PosL (ones rs) := fun l hl => by
  obtain ⟨b, _, rfl⟩ := List.mem_map.mp hl
  exact Int.le_refl 1
theorem ones_spr : ∀ rs : HH.Row, sprR (ones rs) = rs
  | [] => rfl
  | b :: rs => by
    have := ones_spr rs
    unfold ones sprR at this ⊢
    rw [List.map_cons, List.flatMap_cons, this]
    rfl
section
variable {K : PySem.W.Frag} {σ : L2.St} {H H' : Hp} {te : TE} {v : V} {Q : VK}
end
section
variable {X : Cx}
end
end HH
set_option maxHeartbeats 4000000
namespace HH
open PySem PySem.Spec PyProof.Rows L2 Evl RZ
def manyP (spare toll many : Int) : Int := if spare ≤ 0 then 0 else if toll = 0 then many else if (spare - 1) / toll < many then (spare - 1) / toll else many
def lS (ls : List Lot) (i : Nat) : Int := (ls[i]?.getD (0, 0, 0)).1
def lT (ls : List Lot) (i : Nat) : Int := (ls[i]?.getD (0, 0, 0)).2.1
def lM (ls : List Lot) (i : Nat) : Int := (ls[i]?.getD (0, 0, 0)).2.2
def goL (st : List Int) (ls : List Lot) (w : Nat) : HH.Row → HH.Row → Int → Int → HH.Row × Int × Int
  | [], B, s, t => (((w : Int), lM ls w) :: B, s, t)
  | x :: r, B, s, t =>
    if manyP (s - st.getD x.1.toNat 0) (lT ls x.1.toNat) x.2 < x.2 then
      (if manyP (s - st.getD x.1.toNat 0) (lT ls x.1.toNat) x.2 > 0 then r.reverse ++ (x.1, x.2 - manyP (s - st.getD x.1.toNat 0) (lT ls x.1.toNat) x.2) :: ((w : Int), lM ls w) :: (x.1, manyP (s - st.getD x.1.toNat 0) (lT ls x.1.toNat) x.2) :: B else r.reverse ++ x :: ((w : Int), lM ls w) :: B,
        s - manyP (s - st.getD x.1.toNat 0) (lT ls x.1.toNat) x.2 * lT ls x.1.toNat, t + manyP (s - st.getD x.1.toNat 0) (lT ls x.1.toNat) x.2)
    else goL st ls w r (x :: B) (s - manyP (s - st.getD x.1.toNat 0) (lT ls x.1.toNat) x.2 * lT ls x.1.toNat) (t + manyP (s - st.getD x.1.toNat 0) (lT ls x.1.toNat) x.2)
def endG (ls : List Lot) : Nat → HH.Row × List Int × List Int
  | 0 => ([], ls.map (·.1), [])
  | w + 1 => let e := endG ls w; let R := goL e.2.1 ls w e.1.reverse [] (e.2.1.getD w 0) 0; (R.1, e.2.1.set w R.2.1, e.2.2 ++ [R.2.2])
def Fit (ls : List Lot) : Prop := ls.length ≤ 100 ∧ ∀ l ∈ ls, 0 ≤ l.2.1 ∧ l.2.1 < 1152921504606846976 ∧ 0 ≤ l.2.2 ∧ l.2.2 < 1152921504606846976
theorem lot_get {ls : List Lot} {i : Nat} (h : i < ls.length) : ls[i]? = some (lS ls i, lT ls i, lM ls i) := by
  unfold lS lT lM
  rw [List.getElem?_eq_getElem h]
  rfl
theorem Fit.at' {ls : List Lot} (h : Fit ls) {i : Nat} (hi : i < ls.length) : 0 ≤ lT ls i ∧ lT ls i < 1152921504606846976 ∧ 0 ≤ lM ls i ∧ lM ls i < 1152921504606846976 := h.2 _ (List.mem_of_getElem? (lot_get hi))
def Bel (w : Nat) (line : HH.Row) : Prop := ∀ x ∈ line, ∃ j : Nat, x.1 = (j : Int) ∧ j < w
theorem Bel.app {w : Nat} {a b : HH.Row} (h : Bel w a) (g : Bel w b) : Bel w (a ++ b) := fun x hx => (List.mem_append.mp hx).elim (h x) (g x)
theorem Bel.up {w : Nat} {a : HH.Row} (h : Bel w a) : Bel (w + 1) a := fun x hx => by
  obtain ⟨j, e, hj⟩ := h x hx
  exact ⟨j, e, by omega⟩
def goF (st : List Int) (ls : List Lot) (w : Nat) : List Nat → List Nat → Int → List Nat × Int
  | pre, [], s => (pre ++ [w], s)
  | pre, x :: r, s => if s > st.getD x 0 then goF st ls w (pre ++ [x]) r (s + lM ls x * lT ls x) else (pre ++ w :: x :: r, s)
def begG (ls : List Lot) (n : Nat) : Nat → List Nat × List Int
  | 0 => ([], ls.map (·.1))
  | k + 1 => let e := begG ls n k; let R := goF e.2 ls (n - (k + 1)) [] e.1 (e.2.getD (n - (k + 1)) 0); (R.1, e.2.set (n - (k + 1)) R.2)
def lastLots (ls : List Lot) : List Lot := (endG ls ls.length).1.map fun x => ((endG ls ls.length).2.1.getD x.1.toNat 0, lT ls x.1.toNat, x.2)
def firstLots (ls : List Lot) : List Lot := (begG ls ls.length ls.length).1.map fun x => ((begG ls ls.length ls.length).2.getD x 0, lT ls x, lM ls x)
end HH
set_option maxHeartbeats 4000000
namespace HH
open PySem PySem.Spec PyProof.Rows L2 Evl RZ
section
variable {K : PySem.W.Frag} {H H' H0 H1 H2 : Hp} {σ : L2.St} {te ta tb tc ti : TE} {D : Ends} {v : V} {ls : List Lot} {tz : TS}
theorem HerdAt.exL {q : Addr} {ys : List V} (h : HerdAt K H v ls) (e : ExB q H H') (hq : H q = some (.lst ys)) : HerdAt K H' v ls := by
  obtain ⟨a, us, h1, h2, h3⟩ := h
  exact ⟨a, us, h1, e.t hq h2, LotsA.exB' h3 e hq⟩
theorem ExB2.of {a b : Addr} (e : Ex H H') : ExB2 a b H H' := fun c o _ _ h => e c o h
theorem ExB2.trans {a b : Addr} (x : ExB2 a b H H1) (y : ExB2 a b H1 H2) : ExB2 a b H H2 := fun c o n1 n2 h => y c o n1 n2 (x c o n1 n2 h)
theorem ExB2.fst {a b : Addr} {o : HO} (x : ExB2 a b H H') : ExB2 a b H (upd H' a o) := fun c u n1 n2 h => by
  rw [upd_ne n1]
  exact x c u n1 n2 h
theorem ExB2.snd {a b : Addr} {o : HO} (x : ExB2 a b H H') : ExB2 a b H (upd H' b o) := fun c u n1 n2 h => by
  rw [upd_ne n2]
  exact x c u n1 n2 h
theorem ept_rng {t1 t2 : TE} {tr : TA} {j n : Nat} {vs : List Nat} (f g : Nat → Int) (h : EvA tr σ H [.int (n : Int)]) (hn : n ≤ 1000) (hw : ∀ x, wipe ((wipe σ vs).set j (some x)) vs = wipe σ vs)
    (h1 : ∀ i H1, Ex H H1 → i < n → Ev t1 ((wipe σ vs).set j (some (.int (i : Int)))) H1 (.int (f i))) (h2 : ∀ i H1, Ex H H1 → i < n → Ev t2 ((wipe σ vs).set j (some (.int (i : Int)))) H1 (.int (g i))) :
    EvPr PairT (tLc (iRng1 tr) (gName j) tYes (tTup (tCons t1 (tCons t2 tNil))) vs) σ H ((List.range n).map fun i => (f i, g i)) := fun H0 e0 Q q => by
  refine h H0 e0 _ fun H1 e1 => ⟨(n : Int), rfl, by omega, by omega, fun D hD => ?_⟩
  have e01 := e0.trans e1
  refine in_it walk_range (fun m H2 => Ex H1 H2 ∧ ∃ us, H2 D = some (.lst us) ∧ All2 (PairT H2) us ((List.range m).map fun i => (f i, g i))) ⟨Ex.new hD, [], upd_same, .nil⟩ (fun _ _ _ _ => True.intro) (fun m x H2 H3 hm p y => ?_) (fun H2 p => ?_)
  · obtain ⟨rfl, hx⟩ := y
    have hx : x = V.int (0 + (m : Int)) := hx
    rw [Int.zero_add] at hx
    subst hx
    obtain ⟨p1, us, p2, p3⟩ := p
    have hm' : m < n := by
      have : ((n : Int) - 0).toNat = n := by omega
      omega
    refine ⟨hw _, t_yes ?_⟩
    refine (h1 m _ (e01.trans p1) hm') _ (Ex.refl _) _ fun H4 e4 => ?_
    refine (h2 m H4 ((e01.trans p1).trans e4) hm') H4 (Ex.refl _) _ fun H5 e5 => ⟨by show 2 ≤ sizeLine; decide, fun T hT => ?_⟩
    have nT := Ex.new (o := .tup [V.int (f m), .int (g m)]) hT
    have e25 := e4.trans e5
    refine ⟨us, nT _ _ (e25 _ _ p2), sz_lt (by rw [All2.len p3, List.length_map, List.length_range]; omega), Ex.mut ((p1.trans e25).trans nT) hD, us ++ [.ref T], upd_same, ?_⟩
    rw [List.range_succ, List.map_append]
    exact stb_T.allL (nT _ _ (e25 _ _ p2)) (All2.app (stb_T.all (e25.trans nT) p3) (.cons ⟨T, rfl, upd_same⟩ .nil))
  · obtain ⟨p1, us, p2, p3⟩ := p
    rw [Int.toNat_natCast] at p3
    exact q D us H2 (fresh_back e1 hD) (e1.trans p1) p2 p3
end
end HH
set_option maxHeartbeats 4000000
namespace HH
open PySem PySem.Spec PyProof.Rows L2 Evl RZ
section
variable {K : PySem.W.Frag} {σ : L2.St} {H : Hp} {te ta tb t2 : TE} {D : Ends} {tz : TS}
end
section
variable {K : PySem.W.Frag} {σ : L2.St} {H : Hp} {te ta tb t2 : TE} {D : Ends} {tz : TS}
end
end HH
set_option maxHeartbeats 4000000
namespace HH
open PySem PySem.Spec PyProof.Rows L2 Evl RZ
end HH
set_option maxHeartbeats 4000000
namespace HH
open PySem PySem.Spec PyProof.Rows L2 Evl RZ
def expL (ls : List Lot) (st : List Int) (line : HH.Row) : List Cow := line.flatMap fun x => List.replicate x.2.toNat (x.1.toNat, (st.getD x.1.toNat 0, lT ls x.1.toNat))
def blkL (ls : List Lot) (w : Nat) (s : Int) : List Cow := List.replicate (lM ls w).toNat (w, (s, lT ls w))
def PosR (line : HH.Row) : Prop := ∀ x ∈ line, 1 ≤ x.2
def cntR (line : HH.Row) : Int := (line.map (·.2)).sum
structure GoOk (ls : List Lot) (st : List Int) (w : Nat) (r B : HH.Row) (s t : Int) (R : HH.Row × Int × Int) : Prop where
  s1 : Steps (expL ls st r.reverse ++ blkL ls w s ++ expL ls st B) (expL ls (st.set w R.2.1) R.1)
  cut : ∃ F B', R.1 = F ++ ((w : Int), lM ls w) :: B' ∧ Bel w F ∧ Bel w B' ∧ PosR F ∧ PosR B' ∧ expL ls st F ++ expL ls st B' = expL ls st r.reverse ++ expL ls st B ∧ cntR B' = cntR B + (R.2.2 - t)
end HH
set_option maxHeartbeats 4000000
namespace HH
open PySem PySem.Spec PyProof.Rows L2 Evl RZ
def sprC (ls : List Lot) (w : Nat) : List Cow := (List.range w).flatMap fun u => List.replicate (lM ls u).toNat (u, (lS ls u, lT ls u))
def lowB (X : List Cow) (p u : Nat) : Nat := ((X.drop (p + 1)).filter fun c => decide (c.1 < u)).length
structure EndOk (ls : List Lot) (w : Nat) : Prop where
  s1 : Steps (sprC ls w) (expL ls (endG ls w).2.1 (endG ls w).1)
  nf : NfR (expL ls (endG ls w).2.1 (endG ls w).1)
  pos : PosR (endG ls w).1
  low : ∀ (p u : Nat) (c : Cow), (expL ls (endG ls w).2.1 (endG ls w).1)[p]? = some c → c.1 = u → (lowB (expL ls (endG ls w).2.1 (endG ls w).1) p u : Int) = (endG ls w).2.2.getD u 0
  st : ∀ u, w ≤ u → u < ls.length → (endG ls w).2.1.getD u 0 = lS ls u
end HH
set_option maxHeartbeats 4000000
namespace HH
open PySem PySem.Spec PyProof.Rows L2 Evl RZ
end HH
set_option maxHeartbeats 4000000
namespace HH
open PySem PySem.Spec PyProof.Rows L2 Evl RZ
end HH
set_option maxHeartbeats 4000000
namespace HH
open PySem PySem.Spec PyProof.Rows L2 Evl RZ
end HH
set_option maxHeartbeats 4000000
namespace HH
open PySem PySem.Spec PyProof.Rows L2 Evl RZ
end HH
set_option maxHeartbeats 4000000
namespace HH
open PySem PySem.Spec PyProof.Rows L2 Evl RZ
section
variable {P : Addr → Prop} {K : PySem.W.Frag} {c k : Nat} {H H' : Hp} {σ : L2.St} {te ta tb : TE} {D : Ends} {v : V} {d : PyData}
end
def Fits (M : Int) (l : Lot) : Prop := -(10 ^ 12) < l.1 ∧ l.1 < 10 ^ 12 ∧ 0 ≤ l.2.1 ∧ l.2.1 < 10 ^ 12 ∧ 1 ≤ l.2.2 ∧ l.2.2 ≤ M
theorem Fits.le {M M' : Int} {l : Lot} (h : Fits M l) (e : M ≤ M') : Fits M' l := ⟨h.1, h.2.1, h.2.2.1, h.2.2.2.1, h.2.2.2.2.1, Int.le_trans h.2.2.2.2.2 e⟩
end HH
namespace HH
open PySem PySem.Spec PyProof.Rows L2 Evl RZ
end HH
namespace HH
open PySem PySem.Spec PyProof.Rows L2 Evl RZ
section
variable {P : Addr → Prop} {K : PySem.W.Frag} {n : Nat} {H : Hp} {σ : L2.St} {D : Ends}
end
end HH
set_option maxHeartbeats 4000000
namespace HH
open PySem PySem.Spec PyProof.Rows L2 Evl RZ
section
variable {K : PySem.W.Frag} {H0 H H' : Hp} {σ : L2.St} {te ta tb : TE} {D : Ends} {tz tu : TS} {g : TG}
end
end HH
set_option maxHeartbeats 4000000
namespace HH
open PySem PySem.Spec PyProof.Rows L2 Evl RZ
section
variable {K : PySem.W.Frag} {H : Hp} {σ : L2.St} {te ta tb : TE}
end
end HH
set_option maxHeartbeats 4000000
namespace HH
open PySem PySem.Spec PyProof.Rows L2 Evl RZ
def Ex3 (a b c : Addr) (H H' : Hp) : Prop := ∀ x o, x ≠ a → x ≠ b → x ≠ c → H x = some o → H' x = some o
section
variable {a b c : Addr} {H0 H H1 H' : Hp}
theorem Ex3.trans (x : Ex3 a b c H H1) (y : Ex3 a b c H1 H') : Ex3 a b c H H' := fun d o n1 n2 n3 h => y d o n1 n2 n3 (x d o n1 n2 n3 h)
theorem Ex3.of (e : Ex H H') : Ex3 a b c H H' := fun d o _ _ _ h => e d o h
theorem Ex3.u1 {o : HO} (x : Ex3 a b c H H') : Ex3 a b c H (upd H' a o) := fun d u n1 n2 n3 h => by
  rw [upd_ne n1]
  exact x d u n1 n2 n3 h
theorem Ex3.u2 {o : HO} (x : Ex3 a b c H H') : Ex3 a b c H (upd H' b o) := fun d u n1 n2 n3 h => by
  rw [upd_ne n2]
  exact x d u n1 n2 n3 h
end
section
variable {K : PySem.W.Frag} {H H' : Hp} {σ : L2.St} {ta tb tc ti : TE} {D : Ends} {tz : TS}
end
theorem q_par3S {i j l : Nat} {ta tb tc : TE} {tz : TS} {D : Ends} {σ : L2.St} {H : Hp} (h : ta σ H fun x H1 => tb σ H1 fun y H2 => tc σ H2 fun z H3 => ∃ u v w, [x, y, z] = [u, v, w] ∧ tz D (((σ.set i (some u)).set j (some v)).set l (some w)) H3) : tSeq (tPar3 i j l (tCons ta (tCons tb (tCons tc tNil)))) tz D σ H := h
end HH
set_option maxHeartbeats 4000000
namespace HH
open PySem PySem.Spec PyProof.Rows L2 Evl RZ
def ListOf (H : Hp) (u : V) (xs : List V) : Prop := ∃ p, u = .ref p ∧ H p = some (.lst xs)
theorem ListOf.ex {H H' : Hp} {u : V} {xs : List V} (h : ListOf H u xs) (e : Ex H H') : ListOf H' u xs := let ⟨p, h1, h2⟩ := h; ⟨p, h1, e _ _ h2⟩
section
variable {K : PySem.W.Frag} {H H' : Hp} {σ : L2.St} {te ta tb : TE} {tr : TA}
theorem el_rngM {n j : Nat} {vs : List Nat} (g : Nat → V) (h : EvA tr σ H [.int (n : Int)]) (hn : n ≤ 40000) (hw : ∀ x, wipe ((wipe σ vs).set j (some x)) vs = wipe σ vs)
    (h1 : ∀ i H1, Ex H H1 → i < n → Ev te ((wipe σ vs).set j (some (.int (i : Int)))) H1 (g i)) : EvL (tLc (iRng1 tr) (gName j) tYes te vs) σ H ((List.range n).map g) := fun H0 e0 Q q => by
  refine h H0 e0 _ fun H1 e1 => ⟨(n : Int), rfl, by omega, by omega, fun D hD => ?_⟩
  have e01 := e0.trans e1
  have hnn : ((n : Int) - 0).toNat = n := by omega
  refine in_it walk_range (fun k H2 => Ex H1 H2 ∧ H2 D = some (.lst ((List.range k).map g))) ⟨Ex.new hD, upd_same⟩ (fun _ _ _ _ => trivial) (fun m x H2 H3 hm p y => ?_) (fun H2 p => ?_)
  · obtain ⟨rfl, hx⟩ := y
    have hx : x = V.int (0 + (m : Int)) := hx
    rw [Int.zero_add] at hx
    subst hx
    obtain ⟨p1, p2⟩ := p
    have hm' : m < n := by omega
    refine ⟨hw _, t_yes ?_⟩
    refine (h1 m _ (e01.trans p1) hm') _ (Ex.refl _) _ fun H4 e4 => ⟨_, e4 _ _ p2, sz_lt (by rw [List.length_map, List.length_range]; omega), Ex.mut (p1.trans e4) hD, ?_⟩
    rw [upd_same, List.range_succ, List.map_append]
    rfl
  · obtain ⟨p1, p2⟩ := p
    rw [Int.toNat_natCast] at p2
    exact q D H2 (fresh_back e1 hD) (e1.trans p1) p2
theorem els_rng {n j : Nat} {vs : List Nat} (g : Nat → List V) (h : EvA tr σ H [.int (n : Int)]) (hn : n ≤ 40000) (hw : ∀ x, wipe ((wipe σ vs).set j (some x)) vs = wipe σ vs)
    (h1 : ∀ i H1, Ex H H1 → i < n → EvL te ((wipe σ vs).set j (some (.int (i : Int)))) H1 (g i)) : ∀ H1, Ex H H1 → ∀ Q : VK, (∀ q us H2, H1 q = none → Ex H1 H2 → H2 q = some (.lst us) → All2 (ListOf H2) us ((List.range n).map g) → Q (.ref q) H2) → tLc (iRng1 tr) (gName j) tYes te vs σ H1 Q := fun H0 e0 Q q => by
  refine h H0 e0 _ fun H1 e1 => ⟨(n : Int), rfl, by omega, by omega, fun D hD => ?_⟩
  have e01 := e0.trans e1
  have hnn : ((n : Int) - 0).toNat = n := by omega
  refine in_it walk_range (fun k H2 => Ex H1 H2 ∧ ∃ us, H2 D = some (.lst us) ∧ (∀ u ∈ us, u ≠ .ref D) ∧ All2 (ListOf H2) us ((List.range k).map g)) ⟨Ex.new hD, [], upd_same, (fun u hu => nomatch hu), .nil⟩ (fun _ _ _ _ => trivial) (fun m x H2 H3 hm p y => ?_) (fun H2 p => ?_)
  · obtain ⟨rfl, hx⟩ := y
    have hx : x = V.int (0 + (m : Int)) := hx
    rw [Int.zero_add] at hx
    subst hx
    obtain ⟨p1, us, p2, p4, p3⟩ := p
    have hm' : m < n := by omega
    refine ⟨hw _, t_yes ?_⟩
    refine (h1 m _ (e01.trans p1) hm') _ (Ex.refl _) _ fun r H4 hr e4 g4 => ?_
    have nrD : r ≠ D := (ne_of_none p2 hr).symm
    refine ⟨us, e4 _ _ p2, sz_lt (by rw [All2.len p3, List.length_map, List.length_range]; omega), Ex.mut (p1.trans e4) hD, us ++ [.ref r], upd_same, fun u hu => ?_, ?_⟩
    · rcases List.mem_append.mp hu with hu | hu
      · exact p4 u hu
      · rw [List.mem_singleton.mp hu]
        exact fun z => nrD (by injection z)
    · rw [List.range_succ, List.map_append]
      have keep : ∀ {vs : List V} {ll : List (List V)}, (∀ u ∈ vs, u ≠ .ref D) → All2 (ListOf H3) vs ll → All2 (ListOf (upd H4 D (.lst (us ++ [.ref r])))) vs ll := fun {vs} {ll} hv a => by
        induction a with
        | nil => exact .nil
        | cons hx _ ih =>
          obtain ⟨p, rfl, hp⟩ := hx
          refine .cons ⟨p, rfl, ?_⟩ (ih fun u hu => hv u (List.mem_cons_of_mem _ hu))
          rw [upd_ne (fun z => hv (.ref p) (by simp) (by rw [z]))]
          exact e4 _ _ hp
      refine All2.app (keep p4 p3) (.cons ⟨r, rfl, ?_⟩ .nil)
      rw [upd_ne nrD]
      exact g4
  · obtain ⟨p1, us, p2, p4, p3⟩ := p
    rw [Int.toNat_natCast] at p3
    exact q D us H2 (fresh_back e1 hD) (e1.trans p1) p2 p3
theorem q_asgLs {i : Nat} {D : Ends} {tz : TS} {R : List V → Hp → Prop} (h : ∀ H1, Ex H H1 → ∀ Q : VK, (∀ q us H2, H1 q = none → Ex H1 H2 → H2 q = some (.lst us) → R us H2 → Q (.ref q) H2) → te σ H1 Q) (k : ∀ q us H2, H q = none → Ex H H2 → H2 q = some (.lst us) → R us H2 → tz D (σ.set i (some (.ref q))) H2) : tSeq (tAsg te (gName i)) tz D σ H := h H (Ex.refl H) _ k
end
section
variable {H : Hp} {σ : L2.St} {te : TE} {ta : TA} {D : Ends} {tz : TS} {g : TG}
theorem q_asg0 (h : te σ H fun x H1 => g x σ H1 (tz D)) : tSeq (tAsg te g) tz D σ H := h
end
end HH
set_option maxHeartbeats 4000000
namespace HH
open PySem PySem.Spec PyProof.Rows L2 Evl RZ
theorem tag0_fst (rs : HH.Row) : (tag 0 rs).map (·.1) = List.range rs.length := by
  rw [tag_fst]
  have e : (fun x => 0 + x) = (id : Nat → Nat) := by
    funext x
    exact Nat.zero_add x
  rw [e, List.map_id]
theorem ids_low {rs : HH.Row} {E : List Cow} (s : Steps (tag 0 rs) E) : (∀ x ∈ E.map (·.1), x < rs.length) ∧ E.length = rs.length := by
  have h := s.ids
  rw [tag0_fst] at h
  refine ⟨fun x hx => List.mem_range.mp (h.mem_iff.mp hx), ?_⟩
  have := h.length_eq
  rw [List.length_map, List.length_range] at this
  exact this
section
variable {ls : List Lot} {E : List Cow} {ps : HH.Row}
end
end HH
set_option maxHeartbeats 4000000
namespace HH
open PySem PySem.Spec PyProof.Rows L2 Evl RZ
def Mild (ls : List Lot) : Prop := ls.length ≤ 100 ∧ PosL ls ∧ (∀ b ∈ sprR ls, 0 ≤ b.2 ∧ b.2 < 1152921504606846976) ∧ (sprR ls).length < 1152921504606846976
structure HerdE (ls A Z : List Lot) (E B : List Cow) : Prop where
  sE : Steps (tag 0 (sprR ls)) E
  nE : Nf E
  sB : FSteps (tag 0 (sprR ls)) B
  nB : Ff B
  eA : A = packL (ones (rowsOf E))
  eZ : Z = packL (ones (rowsOf B))
  lA : A = packL (lastLots ls)
  lZ : Z = packL (firstLots ls)
section
variable {ls A Z : List Lot} {E B : List Cow}
theorem HerdE.sprA (e : HerdE ls A Z E B) : sprR A = rowsOf E := by rw [e.eA, packL_spr (ones_pos _), ones_spr]
theorem HerdE.sprZ (e : HerdE ls A Z E B) : sprR Z = rowsOf B := by rw [e.eZ, packL_spr (ones_pos _), ones_spr]
theorem HerdE.posA (e : HerdE ls A Z E B) : PosL A := by rw [e.eA]; exact packL_pos (ones_pos _)
theorem HerdE.posZ (e : HerdE ls A Z E B) : PosL Z := by rw [e.eZ]; exact packL_pos (ones_pos _)
theorem HerdE.lenE (e : HerdE ls A Z E B) : (rowsOf E).length = (sprR ls).length := by
  unfold rowsOf
  rw [List.length_map]
  exact (ids_low e.sE).2
theorem HerdE.lenB (e : HerdE ls A Z E B) : (rowsOf B).length = (sprR ls).length := by
  unfold rowsOf
  rw [List.length_map, e.sB.len]
  have h2 := congrArg List.length (tag0_fst (sprR ls))
  rw [List.length_map, List.length_range] at h2
  exact h2
end
section
variable {ls A Z : List Lot} {E B : List Cow}
end
end HH
set_option maxHeartbeats 4000000
namespace HH
open PySem PySem.Spec PyProof.Rows L2 Evl RZ
structure LikeL (c d : Int) (m : Nat) (ls ls' : List Lot) : Prop where
  l1 : m ≤ ls.length
  l2 : m ≤ ls'.length
  s : ∀ j, j < m → lS ls' j = c * lS ls j + d
  t : ∀ j, j < m → lT ls' j = c * lT ls j ∧ 0 ≤ lT ls j
def cntL (ls : List Lot) : Int := (ls.map (·.2.2)).sum
theorem cnt_spr : ∀ {ls : List Lot}, PosL ls → cntL ls = ((sprR ls).length : Int)
  | [], _ => rfl
  | l :: ls, h => by
    have ih := cnt_spr (ls := ls) fun x hx => h x (List.mem_cons_of_mem _ hx)
    have hl := h l (List.mem_cons_self ..)
    have e : sprR (l :: ls) = List.replicate l.2.2.toNat (l.1, l.2.1) ++ sprR ls := by
      unfold sprR
      rw [List.flatMap_cons]
    rw [e, List.length_append, List.length_replicate]
    unfold cntL at ih ⊢
    rw [List.map_cons, List.sum_cons, ih]
    omega
section
variable {ls A Z : List Lot} {E B : List Cow}
theorem HerdE.many (h : Mild ls) (e : HerdE ls A Z E B) : cntL A = cntL ls ∧ cntL Z = cntL ls := by
  rw [cnt_spr h.2.1, cnt_spr e.posA, cnt_spr e.posZ, e.sprA, e.sprZ, e.lenE, e.lenB]
  exact ⟨rfl, rfl⟩
end
end HH
set_option maxHeartbeats 4000000
namespace HH
open PySem PySem.Spec PyProof.Rows L2 Evl RZ
def MixSw (z TI TO i1 i2 a b : Addr) (i : Nat) (h : Heap) : Prop := IsZip h z TI TO .none ∧ IsTupOf2 h TI (.ref i1) (.ref i2) ∧ (∃ x y, IsTupOf2 h TO x y) ∧ h.IsTupleIter i1 a i ∧ h.IsListIter i2 b i
theorem MixSw.objs {z TI TO i1 i2 a b : Addr} {i : Nat} {h : Heap} (m : MixSw z TI TO i1 i2 a b i h) : ∀ c ∈ [z, TI, TO, i1, i2], ∃ ob, h.get? c = some ob ∧ ∀ v, ob.data ≠ .cell v := fun c hc => by
  obtain ⟨m1, m2, ⟨_, _, m3⟩, ⟨p1, g1, _, d1⟩, ⟨p2, g2, _, d2⟩⟩ := m
  rcases five hc with rfl | rfl | rfl | rfl | rfl
  · exact ⟨_, m1, fun v q => by cases q⟩
  · exact ⟨_, m2, fun v q => by cases q⟩
  · exact ⟨_, m3, fun v q => by cases q⟩
  · exact ⟨p1, g1, fun v q => by rw [d1] at q; cases q⟩
  · exact ⟨p2, g2, fun v q => by rw [d2] at q; cases q⟩
end HH
set_option maxHeartbeats 4000000
namespace HH
open PySem PySem.Spec PyProof.Rows L2 Evl RZ
section
variable {K : PySem.W.Frag} {H H' H0 H1 H2 : Hp} {σ : L2.St} {te ta tb tc ti : TE} {tr : TA} {D : Ends} {v : V} {ls ms : List Lot} {tz : TS}
end
end HH
set_option maxHeartbeats 4000000
namespace HH
open PySem PySem.Spec PyProof.Rows L2 Evl RZ
section
variable {K : PySem.W.Frag} {σ : L2.St} {p : Addr} {ta tb te ti : TE} {tr : TA} {D : Ends} {tz tu : TS} {g : TG} {H H' : Hp} {v : V} {ls ms : List Lot}
theorem dr_weak {c : Nat} {P S : Int → Prop} (h : Dr te σ p c P) (w : ∀ r, P r → S r) : Dr te σ p c S := fun H n hb hn Q q => h H n hb hn Q fun r H' pr => q r H' (w r pr)
end
end HH
set_option maxHeartbeats 4000000
namespace HH
open PySem PySem.Spec PyProof.Rows L2 Evl RZ
section
variable {K : PySem.W.Frag} {σ : L2.St} {p : Addr} {ta tb tc te ti : TE} {tr : TA} {D : Ends} {tz tu : TS} {g : TG} {H H' : Hp} {v : V} {rs : HH.Row}
theorem dr_pick {ib : Nat} {ns : List Int} {E : XK} (hb : σ[ib]? = some (some (.ref p))) (h : ∀ H, EvA tr σ H (ns.map V.int)) (h0 : 0 < ns.length) (hl : ns.length ≤ 100) : Dr (tCall (spOf K) [] E (tCons (tVar ib) (tCons (tLst tr) tNil))) σ p 1 (fun r => r ∈ ns) := fun H n bx hn Q q =>
  ⟨.ref p, hb, h H H (Ex.refl H) _ fun H1 e1 => ⟨sz_of (by rw [List.length_map]; omega), fun l hlq => by
    have nl := Ex.new (o := .lst (ns.map V.int)) hlq
    have b1 := (bx.ex e1).ex nl
    refine ⟨p, l, ns.map V.int, n, rfl, sq_of upd_same, by rw [List.length_map]; exact h0, by rw [List.length_map]; omega, ((bx.ex e1).ne hlq).symm, b1, by omega, fun r x H2 hx x2 b2 => ?_⟩
    rw [List.getElem?_map] at hx
    cases hr : ns[r]? with
    | none => rw [hr] at hx; cases hx
    | some i =>
      rw [hr] at hx
      cases hx
      exact q i H2 (List.mem_of_getElem? hr) ((ExB.of (e1.trans nl)).trans x2) b2⟩⟩
theorem row_draw {j n c d m : Nat} {vs : List Nat} {P R : Int → Prop} {Q : VK} (h : EvA tr σ H [.int (n : Int)]) (hn : n ≤ 100) (hw : ∀ x, wipe ((wipe σ vs).set j (some x)) vs = wipe σ vs) (hb : Bx H p m) (hl : m + n * (c + d) < Lim)
    (d1 : ∀ k : Nat, Dr ta ((wipe σ vs).set j (some (.int (k : Int)))) p c P) (d2 : ∀ k : Nat, Dr tb ((wipe σ vs).set j (some (.int (k : Int)))) p d R)
    (q : ∀ v H' rs, ExB p H H' → Bx H' p (m + n * (c + d)) → RowAt K H' v rs → rs.length = n → (∀ b ∈ rs, P b.1 ∧ R b.2) → Q v H') :
    tThen (tLc (iRng1 tr) (gName j) tYes (tTup (tCons ta (tCons tb tNil))) vs) (kTup K) σ H Q := by
  refine h H (Ex.refl H) _ fun H1 e1 => ⟨(n : Int), rfl, by omega, by omega, fun D hD => ?_⟩
  have b1 := hb.ex e1
  have nDp : D ≠ p := (b1.ne hD).symm
  have hnn : ((n : Int)).toNat = n := by omega
  refine in_it walk_range (fun k H2 => ExB p H1 H2 ∧ Bx H2 p (m + k * (c + d)) ∧ ∃ (ws : List V) (rs : HH.Row), H2 D = some (.lst ws) ∧ BeastsT H2 ws rs ∧ rs.length = k ∧ ∀ b ∈ rs, P b.1 ∧ R b.2) ⟨.of (Ex.new hD), (by rw [Nat.zero_mul]; exact b1.ex (Ex.new hD)), [], [], upd_same, .nil, rfl, fun b hb => nomatch hb⟩ (fun _ _ _ _ => trivial) (fun k x H2 H3 hk z y => ?_) (fun H2 z => ?_)
  · obtain ⟨rfl, hx⟩ := y
    have hx : x = V.int (0 + (k : Int)) := hx
    rw [Int.zero_add] at hx
    subst hx
    obtain ⟨x2, b2, ws, rs, g2, r2, l2, f2⟩ := z
    have kn : k < n := by omega
    have le : (k + 1) * (c + d) ≤ n * (c + d) := Nat.mul_le_mul_right _ kn
    rw [Nat.succ_mul] at le
    refine ⟨hw _, t_yes ?_⟩
    refine d1 k H3 _ b2 (by omega) _ fun s1 H4 p1 x4 b4 => d2 k H4 _ b4 (by omega) _ fun s2 H5 p2 x5 b5 => ⟨by show 2 ≤ sizeLine; decide, fun T hT => ?_⟩
    have nT := Ex.new (o := .tup [V.int s1, .int s2]) hT
    have x35 := x4.trans x5
    have gD := nT _ _ (x35 _ _ nDp g2)
    obtain ⟨bl, hbl⟩ := b2.lst
    refine ⟨ws, gD, sz_lt (by rw [r2.len]; omega), (x2.trans (x35.trans (.of nT))).mut hD, ?_, ws ++ [.ref T], rs ++ [(s1, s2)], upd_same, ?_, by rw [List.length_append, l2]; rfl, fun b hb => ?_⟩
    · rw [Nat.succ_mul, show m + (k * (c + d) + (c + d)) = m + k * (c + d) + c + d by omega]
      exact (b5.ex nT).mut nDp.symm
    · exact BeastsT.exB' (All2.app (BeastsT.ex' (BeastsT.exB' r2 x35 hbl) nT) (.cons ⟨T, rfl, upd_same⟩ .nil)) (ExB.refl _ _).upd gD
    · rcases List.mem_append.mp hb with h | h
      · exact f2 b h
      · rw [List.mem_singleton.mp h]
        exact ⟨p1, p2⟩
  · rw [hnn] at z
    obtain ⟨x2, b2, ws, rs, g2, r2, l2, f2⟩ := z
    exact .inl ⟨D, ws, rfl, sq_of g2, fun rt hrt => q _ _ rs ((ExB.of e1).trans (x2.trans (.of (Ex.new hrt)))) (b2.ex (Ex.new hrt)) ⟨rt, ws, rfl, st_of upd_same, (BeastsT.be r2).ex (Ex.new hrt)⟩ l2 f2⟩
theorem list_draw {j n c m : Nat} {vs : List Nat} {P : Int → Prop} {Q : VK} (h : EvA tr σ H [.int (n : Int)]) (hn : n ≤ 100) (hw : ∀ x, wipe ((wipe σ vs).set j (some x)) vs = wipe σ vs) (hb : Bx H p m) (hl : m + n * c < Lim)
    (d1 : ∀ k : Nat, Dr ta ((wipe σ vs).set j (some (.int (k : Int)))) p c P)
    (q : ∀ a H' (ns : List Int), ExB p H H' → Bx H' p (m + n * c) → H' a = some (.lst (ns.map V.int)) → ns.length = n → (∀ b ∈ ns, P b) → Q (.ref a) H') :
    tLc (iRng1 tr) (gName j) tYes ta vs σ H Q := by
  refine h H (Ex.refl H) _ fun H1 e1 => ⟨(n : Int), rfl, by omega, by omega, fun D hD => ?_⟩
  have b1 := hb.ex e1
  have nDp : D ≠ p := (b1.ne hD).symm
  have hnn : ((n : Int)).toNat = n := by omega
  refine in_it walk_range (fun k H2 => ExB p H1 H2 ∧ Bx H2 p (m + k * c) ∧ ∃ (ns : List Int), H2 D = some (.lst (ns.map V.int)) ∧ ns.length = k ∧ ∀ b ∈ ns, P b) ⟨.of (Ex.new hD), (by rw [Nat.zero_mul]; exact b1.ex (Ex.new hD)), [], upd_same, rfl, fun b hb => nomatch hb⟩ (fun _ _ _ _ => trivial) (fun k x H2 H3 hk z y => ?_) (fun H2 z => ?_)
  · obtain ⟨rfl, hx⟩ := y
    have hx : x = V.int (0 + (k : Int)) := hx
    rw [Int.zero_add] at hx
    subst hx
    obtain ⟨x2, b2, ns, g2, l2, f2⟩ := z
    have kn : k < n := by omega
    have le : (k + 1) * c ≤ n * c := Nat.mul_le_mul_right _ kn
    rw [Nat.succ_mul] at le
    refine ⟨hw _, t_yes ?_⟩
    refine d1 k H3 _ b2 (by omega) _ fun s1 H4 p1 x4 b4 => ⟨_, x4 _ _ nDp g2, sz_lt (by rw [List.length_map]; omega), (x2.trans x4).mut hD, ?_, ns ++ [s1], ?_, by rw [List.length_append, l2]; rfl, fun b hb => ?_⟩
    · rw [Nat.succ_mul, ← Nat.add_assoc]
      exact b4.mut nDp.symm
    · rw [upd_same, List.map_append]
      rfl
    · rcases List.mem_append.mp hb with h | h
      · exact f2 b h
      · rw [List.mem_singleton.mp h]
        exact p1
  · rw [hnn] at z
    obtain ⟨x2, b2, ns, g2, l2, f2⟩ := z
    exact q D H2 ns ((ExB.of e1).trans x2) b2 g2 l2 f2
theorem row_drawL {j d m : Nat} {vs : List Nat} {R : Int → Prop} {a : Addr} {ns : List Int} {Q : VK} (h : Ev te σ H (.ref a)) (ha : H a = some (.lst (ns.map V.int))) (nap : a ≠ p) (hn : ns.length ≤ 100) (hw : ∀ x, wipe ((wipe σ vs).set j (some x)) vs = wipe σ vs) (hj : ∀ x : V, ((wipe σ vs).set j (some x))[j]? = some (some x)) (hb : Bx H p m) (hl : m + ns.length * d < Lim)
    (d2 : ∀ k : Int, Dr tb ((wipe σ vs).set j (some (.int k))) p d R)
    (q : ∀ v H' rs, ExB p H H' → Bx H' p (m + ns.length * d) → RowAt K H' v rs → rs.map (·.1) = ns → (∀ b ∈ rs, R b.2) → Q v H') :
    tThen (tLc (iList K te) (gName j) tYes (tTup (tCons (tVar j) (tCons tb tNil))) vs) (kTup K) σ H Q := by
  refine h H (Ex.refl H) _ fun H1 e1 => ⟨a, rfl, ⟨_, sq_of (e1 _ _ ha)⟩, fun D hD => ?_⟩
  have b1 := hb.ex e1
  have nDp : D ≠ p := (b1.ne hD).symm
  have ga := e1 _ _ ha
  have naD : a ≠ D := fun z => by rw [z, hD] at ga; cases ga
  have kl : (ns.map V.int).length = ns.length := List.length_map ..
  refine in_it (walk_list (K := K) (a := a) (xs := ns.map V.int)) (fun k H2 => ExB p H1 H2 ∧ Bx H2 p (m + k * d) ∧ H2 a = some (.lst (ns.map V.int)) ∧ ∃ (ws : List V) (rs : HH.Row), H2 D = some (.lst ws) ∧ BeastsT H2 ws rs ∧ rs.map (·.1) = ns.take k ∧ ∀ b ∈ rs, R b.2) ⟨.of (Ex.new hD), (by rw [Nat.zero_mul]; exact b1.ex (Ex.new hD)), (by rw [upd_ne naD]; exact ga), [], [], upd_same, .nil, rfl, fun b hb => nomatch hb⟩ (fun k H2 _ z => sq_of z.2.2.1) (fun k x H2 H3 hk z y => ?_) (fun H2 z => ?_)
  · obtain ⟨rfl, hx⟩ := y
    have kn : k < ns.length := by omega
    rw [List.getElem?_map, List.getElem?_eq_getElem kn] at hx
    cases hx
    obtain ⟨x2, b2, a2, ws, rs, g2, r2, l2, f2⟩ := z
    have le : (k + 1) * d ≤ ns.length * d := Nat.mul_le_mul_right _ kn
    rw [Nat.succ_mul] at le
    have rl : rs.length = k := by
      have := congrArg List.length l2
      rw [List.length_map, List.length_take] at this
      omega
    refine ⟨hw _, t_yes ⟨_, hj _, ?_⟩⟩
    refine d2 ns[k] H3 _ b2 (by omega) _ fun s2 H5 p2 x5 b5 => ⟨by show 2 ≤ sizeLine; decide, fun T hT => ?_⟩
    have nT := Ex.new (o := .tup [V.int ns[k], .int s2]) hT
    have gD := nT _ _ (x5 _ _ nDp g2)
    have gA := nT _ _ (x5 _ _ nap a2)
    obtain ⟨bl, hbl⟩ := b2.lst
    refine ⟨ws, gD, sz_lt (by rw [r2.len]; omega), (x2.trans (x5.trans (.of nT))).mut hD, ?_, by rw [upd_ne naD]; exact gA, ws ++ [.ref T], rs ++ [(ns[k], s2)], upd_same, ?_, ?_, fun b hb => ?_⟩
    · rw [Nat.succ_mul, ← Nat.add_assoc]
      exact (b5.ex nT).mut nDp.symm
    · exact BeastsT.exB' (All2.app (BeastsT.ex' (BeastsT.exB' r2 x5 hbl) nT) (.cons ⟨T, rfl, upd_same⟩ .nil)) (ExB.refl _ _).upd gD
    · rw [List.map_append, l2, List.take_add_one, List.getElem?_eq_getElem kn]
      rfl
    · rcases List.mem_append.mp hb with h | h
      · exact f2 b h
      · rw [List.mem_singleton.mp h]
        exact p2
  · rw [kl] at z
    obtain ⟨x2, b2, a2, ws, rs, g2, r2, l2, f2⟩ := z
    rw [List.take_length] at l2
    exact .inl ⟨D, ws, rfl, sq_of g2, fun rt hrt => q _ _ rs ((ExB.of e1).trans (x2.trans (.of (Ex.new hrt)))) (b2.ex (Ex.new hrt)) ⟨rt, ws, rfl, st_of upd_same, (BeastsT.be r2).ex (Ex.new hrt)⟩ l2 f2⟩
theorem el_sndP {i j : Nat} {vs : List Nat} {ps : HH.Row} (h : EvPr (BeastAt K) te σ H ps) (hl : ps.length ≤ 2000) (hw : ∀ x y, wipe (((wipe σ vs).set i (some x)).set j (some y)) vs = wipe σ vs) (hj : ∀ x y : V, (((wipe σ vs).set i (some x)).set j (some y))[j]? = some (some y)) :
    EvL (tLc (iList K te) (gTup K 2 (gCons (gName i) (gCons (gName j) gNil))) tYes (tVar j) vs) σ H ((ps.map (·.2)).map V.int) := fun H0 e0 Q q =>
  h H0 e0 _ fun a us H1 ha e1 g1 b1 => by
    refine ⟨a, rfl, ⟨_, sq_of g1⟩, fun D hD => ?_⟩
    have ul : us.length = ps.length := All2.len b1
    refine in_it (walk_list (xs := us)) (fun k H2 => Ex H1 H2 ∧ H2 D = some (.lst (((ps.take k).map (·.2)).map V.int))) ⟨Ex.new hD, upd_same⟩ (fun k H2 _ z => sq_of (z.1 _ _ g1)) (fun k x H2 H3 hk z y => ?_) (fun H2 z => ?_)
    · obtain ⟨rfl, hx⟩ := y
      obtain ⟨z1, z2⟩ := z
      obtain ⟨b, hb, pp, rfl, hpp⟩ := All2.get b1 hx
      refine ⟨pp, _, rfl, ex_t z1 hpp, rfl, _, _, rfl, _, _, rfl, rfl, hw _ _, t_yes ⟨_, hj _ _, _, z2, sz_lt (by rw [List.length_map, List.length_map, List.length_take]; omega), Ex.mut z1 hD, ?_⟩⟩
      rw [upd_same, List.take_add_one, hb, List.map_append, List.map_append]
      rfl
    · obtain ⟨z1, z2⟩ := z
      rw [ul, List.take_length] at z2
      exact q D H2 (fresh_back e1 hD) (e1.trans z1) z2
theorem er_pickT {j ir : Nat} {vs : List Nat} {o : Addr} {l : List Nat} {es : HH.Row} (h : Ev te σ H (.ref o)) (ho : SqT K H o (natsV l)) (hr : ∀ x : V, ((wipe σ vs).set j (some x))[ir]? = some (some v)) (hv : RowAt K H v rs) (hl : l.length ≤ 1000) (he : l.map (fun x => rs[x]?) = es.map some) (hw : ∀ x, wipe ((wipe σ vs).set j (some x)) vs = wipe σ vs) (hj : ∀ x : V, ((wipe σ vs).set j (some x))[j]? = some (some x)) :
    EvR K (tThen (tLc (iTup K te) (gName j) tYes (tOp (rIxT K) (tVar ir) (tVar j)) vs) (kTup K)) σ H es := fun H0 e0 Q q => by
  refine h H0 e0 _ fun H1 e1 => ⟨o, rfl, ⟨_, ex_t (e0.trans e1) ho⟩, fun D hD => ?_⟩
  have e01 := e0.trans e1
  have ho := ex_t e01 ho
  have hv := hv.ex e01
  have el : es.length = l.length := by
    have := congrArg List.length he
    rw [List.length_map, List.length_map] at this
    exact this.symm
  obtain ⟨ra, ru, rfl, rsq, rbs⟩ := hv
  refine in_it (walk_tup (xs := natsV l)) (fun k H2 => Ex H1 H2 ∧ ∃ ws, H2 D = some (.lst ws) ∧ All2 (BeastAt K H2) ws (es.take k)) ⟨Ex.new hD, [], upd_same, .nil⟩ (fun k H2 _ z => ex_t z.1 ho) (fun k x H2 H3 hk z y => ?_) (fun H2 z => ?_)
  · obtain ⟨rfl, hx⟩ := y
    obtain ⟨z1, ws, z2, z3⟩ := z
    rw [natsV_len] at hk
    have hlk : l[k]? = some l[k] := List.getElem?_eq_getElem hk
    have hx2 := natsV_at hlk
    rw [hx] at hx2
    cases hx2
    have hek : es[k]? = some es[k] := List.getElem?_eq_getElem (by omega)
    have hrk : rs[l[k]]? = some es[k] := by
      have := congrArg (·[k]?) he
      simp only [List.getElem?_map, hlk, hek, Option.map_some] at this
      exact Option.some.inj this
    obtain ⟨u, hu, pp, rfl, hpp⟩ := rbs.2 _ _ hrk
    refine ⟨hw _, t_yes ?_⟩
    refine (ev_op (ev_var (hr _)) (ev_var (hj _)) (rv_ixT (K := K) (ex_t z1 rsq) (atI_nat hu)) : Ev _ _ _ (.ref pp)) _ (Ex.refl _) _ fun H4 e4 => ?_
    have g4 := e4 _ _ z2
    refine ⟨ws, g4, sz_lt (by rw [All2.len z3, List.length_take]; omega), Ex.mut (z1.trans e4) hD, ws ++ [.ref pp], upd_same, ?_⟩
    rw [List.take_add_one, hek]
    have b4 : All2 (BeastAt K H4) (ws ++ [.ref pp]) (es.take k ++ [es[k]]) := All2.app (All2.mono (fun _ _ r => r.ex e4) z3) (.cons ⟨pp, rfl, ex_t (z1.trans e4) hpp⟩ .nil)
    exact All2.mono (fun _ _ r => r.exB (ExB.refl _ _).upd g4) b4
  · obtain ⟨z1, ws, z2, z3⟩ := z
    rw [natsV_len, ← el, List.take_length] at z3
    exact .inl ⟨D, ws, rfl, sq_of z2, fun rt hrt => q (.ref rt) _ (e1.trans (z1.trans (Ex.new hrt))) ⟨rt, ws, rfl, st_of upd_same, (all2_b z3).ex (Ex.new hrt)⟩⟩
end
end HH
set_option maxHeartbeats 4000000
namespace HH
open PySem PySem.Spec PyProof.Rows L2 Evl RZ
theorem epr_catV {R : PrT} {σ : L2.St} {H : Hp} {ta tb : TE} {ps qs : HH.Row} {a : Addr} {us : List V} (s : Stb R) (h : Ev ta σ H (.ref a)) (ga : H a = some (.lst us)) (ba : All2 (R H) us ps) (g : ∀ H1, Ex H H1 → EvPr R tb σ H1 qs) (hz : ps.length + qs.length ≤ 10000) : EvPr R (tOp rCat ta tb) σ H (ps ++ qs) := fun H1 e1 Q q =>
  h H1 e1 _ fun H2 e2 => g H2 (e1.trans e2) H2 (Ex.refl _) _ fun b ws H3 hb e3 gb bb => ⟨a, b, us, ws, rfl, rfl, ((e1.trans e2).trans e3) _ _ ga, gb, by rw [ba.len, bb.len]; exact Nat.le_trans hz (by decide), fun p hp => by
    have np := Ex.new (o := .lst (us ++ ws)) hp
    exact q p (us ++ ws) _ (fresh_back (e2.trans e3) hp) ((e2.trans e3).trans np) upd_same (All2.app (s.all (((e1.trans e2).trans e3).trans np) ba) (s.all np bb))⟩
end HH
set_option maxHeartbeats 4000000
namespace HH
open PySem PySem.Spec PyProof.Rows L2 Evl RZ
def spMake (K : PySem.W.Frag) (c : Nat) : Sp := fun vs H Q _ => ∃ (p : Addr) (n m : Nat), vs = [.ref p, .int (n : Int)] ∧ 1 ≤ n ∧ n ≤ c ∧ Bx H p m ∧ m + 2000 < Lim ∧ ∀ H', ExB p H H' → Bx H' p (m + 2000) → Q (.bl true) H'
theorem tabP_mono {p : Nat → Nat → Bool} (n : Nat) {k m : Nat} (h : k ≤ m) : (tabP p n k).length ≤ (tabP p n m).length := by
  unfold tabP
  obtain ⟨d, rfl⟩ : ∃ d, m = k + d := ⟨m - k, by omega⟩
  rw [List.range_add, List.flatMap_append, List.length_append]
  omega
section
variable {K : PySem.W.Frag} {σ : L2.St} {te ta : TE} {tr : TA} {H H' : Hp} {v : V} {rs : HH.Row}
theorem LastAt.up {q D : Addr} {L : List Cow} {xs ys : List V} (h : LastAt K H q L) (hD : H D = some (.lst xs)) : LastAt K (upd H D (.lst ys)) q L := by
  obtain ⟨v, ot, h1, h2, h3⟩ := h.ex
  have x : ExB D H (upd H D (.lst ys)) := (ExB.refl _ _).upd
  exact ⟨v, ot, x _ _ (fun z => by rw [z, hD] at h1; cases h1) h1, h2.exL x hD, x _ _ (fun z => by rw [z, hD] at h3; cases h3) h3⟩
theorem due_dp : ∀ {us : List V} {Ms : List (List Cow)}, All2 (fun u M => ∃ a, u = .ref a ∧ LastAt K H a M) us Ms → DpAll K H us (Ms.map lastD)
  | _, _, .nil => .nil
  | _, _, .cons ⟨a, e, h⟩ r => by
    subst e
    exact .cons h.dp (due_dp r)
theorem ls_due {j jj ir : Nat} {vs ws : List Nat} {Ms : List (Addr × List Cow)} (h : EvA tr σ H (Ms.map fun x => V.ref x.1)) (hl : Ms.length ≤ 1000) (hv : RowAt K H v rs) (hw : ∀ x, wipe ((wipe σ vs).set j (some x)) vs = wipe σ vs) (hj : ∀ x : V, ((wipe σ vs).set j (some x))[j]? = some (some x))
    (hw2 : ∀ x y : V, wipe ((wipe ((wipe σ vs).set j (some x)) ws).set jj (some y)) ws = wipe ((wipe σ vs).set j (some x)) ws) (hr : ∀ x y : V, ((wipe ((wipe σ vs).set j (some x)) ws).set jj (some y))[ir]? = some (some v)) (hjj : ∀ x y : V, ((wipe ((wipe σ vs).set j (some x)) ws).set jj (some y))[jj]? = some (some y))
    (hm : ∀ x ∈ Ms, H x.1 = some (.tup (natsV (x.2.map (·.1)))) ∧ x.2.length ≤ 1000 ∧ ∀ c ∈ x.2, rs[c.1]? = some c.2) :
    ∀ H1, Ex H H1 → ∀ Q : VK, (∀ q us H2, H1 q = none → Ex H1 H2 → H2 q = some (.lst us) → All2 (fun u M => ∃ a, u = .ref a ∧ LastAt K H2 a M) us (Ms.map (·.2)) → Q (.ref q) H2) →
    tLc (iTup K (tTup tr)) (gName j) tYes (tTup (tCons (tThen (tLc (iTup K (tVar j)) (gName jj) tYes (tOp (rIxT K) (tVar ir) (tVar jj)) ws) (kTup K)) (tCons (tVar j) tNil))) vs σ H1 Q := fun H0 e0 Q q => by
  refine h H0 e0 _ fun H1 e1 => ⟨sz_of (by rw [List.length_map]; omega), fun a ha => ⟨a, rfl, ⟨_, st_of upd_same⟩, fun D hD => ?_⟩⟩
  have nA := Ex.new (o := .tup (Ms.map fun x => V.ref x.1)) ha
  have e02 := (e0.trans e1).trans nA
  have hs : SqT K (upd H1 a (.tup (Ms.map fun x => V.ref x.1))) a (Ms.map fun x => V.ref x.1) := st_of upd_same
  have hD1 : H1 D = none := fresh_back nA hD
  generalize upd H1 a (.tup (Ms.map fun x => V.ref x.1)) = H2 at nA e02 hs hD ⊢
  have ul : (Ms.map fun x => V.ref x.1).length = Ms.length := List.length_map ..
  refine in_it (walk_tup (xs := Ms.map fun x => V.ref x.1)) (fun n H3 => Ex H2 H3 ∧ ∃ ws, H3 D = some (.lst ws) ∧ All2 (fun u M => ∃ a, u = .ref a ∧ LastAt K H3 a M) ws ((Ms.take n).map (·.2))) ⟨Ex.new hD, [], upd_same, .nil⟩ (fun n H3 _ z => ex_t z.1 hs) (fun n x H3 H4 hn z y => ?_) (fun H3 z => ?_)
  · obtain ⟨rfl, hx⟩ := y
    obtain ⟨z1, us, z2, z3⟩ := z
    rw [ul] at hn
    rw [List.getElem?_map, List.getElem?_eq_getElem hn] at hx
    cases hx
    obtain ⟨m1, m2, m3⟩ := hm Ms[n] (List.getElem_mem hn)
    have e03 := e02.trans z1
    refine ⟨hw _, t_yes ?_⟩
    refine er_pickT (K := K) (rs := rs) (v := v) (o := Ms[n].1) (l := Ms[n].2.map (·.1)) (es := rowsOf Ms[n].2) (ev_var (hj _)) (st_of (e03 _ _ m1)) (hr _) (hv.ex e03) (by rw [List.length_map]; exact m2) ?_ (hw2 _) (hjj _) _ (Ex.refl _) _ fun z H5 e5 hz => ⟨_, hj _, by show 2 ≤ sizeLine; decide, fun T hT => ?_⟩
    · unfold rowsOf
      rw [List.map_map, List.map_map]
      exact List.map_congr_left fun c hc => m3 c hc
    · have nT := Ex.new (o := .tup [z, .ref Ms[n].1]) hT
      have g6 := nT _ _ (e5 _ _ z2)
      have la : LastAt K (upd H5 T (.tup [z, .ref Ms[n].1])) T Ms[n].2 := ⟨z, Ms[n].1, upd_same, hz.ex nT, by rw [ordL_nats]; exact nT _ _ (e5 _ _ (e03 _ _ m1))⟩
      refine ⟨us, g6, sz_lt (by rw [All2.len z3, List.length_map, List.length_take]; omega), Ex.mut ((z1.trans e5).trans nT) hD, us ++ [.ref T], upd_same, ?_⟩
      rw [List.take_add_one, List.getElem?_eq_getElem hn, List.map_append]
      exact All2.app (All2.mono (fun _ _ ⟨b, e, l⟩ => ⟨b, e, (l.mono (e5.trans nT)).up g6⟩) z3) (.cons ⟨T, rfl, la.up g6⟩ .nil)
  · rw [ul] at z
    obtain ⟨z1, us, z2, z3⟩ := z
    rw [List.take_length] at z3
    exact q D us H3 (fresh_back e1 hD1) (e1.trans (nA.trans z1)) z2 z3
end
end HH
set_option maxHeartbeats 4000000
namespace HH
open PySem PySem.Spec PyProof.Rows L2 Evl RZ
def revN : Nat → List Nat
  | 0 => []
  | k + 1 => k :: revN k
theorem revN_len : ∀ n, (revN n).length = n
  | 0 => rfl
  | n + 1 => by
    show (revN n).length + 1 = _
    rw [revN_len n]
theorem revN_at : ∀ (n k : Nat), k < n → (revN n)[k]? = some (n - 1 - k)
  | n + 1, 0, _ => rfl
  | n + 1, k + 1, h => by
    show (revN n)[k]? = _
    rw [revN_at n k (by omega)]
    congr 1
    omega
theorem rgC_rev (n : Nat) : rgC ((n : Int) - 1) (-1) n = natsV (revN n) := by
  unfold rgC natsV
  refine List.ext_getElem? fun k => ?_
  rw [List.getElem?_map, List.getElem?_map]
  by_cases h : k < n
  · rw [List.getElem?_range h, revN_at n k h]
    show some (V.int _) = some (V.int _)
    congr 2
    omega
  · rw [List.getElem?_eq_none (by rw [List.length_range]; omega), List.getElem?_eq_none (by rw [revN_len]; omega)]
    rfl
theorem stair_ids {r t B : Int} : ∀ n, (stairL r t B n).map (·.1) = revN n
  | 0 => rfl
  | n + 1 => by
    show n :: (stairL r t B n).map (·.1) = _
    rw [stair_ids n]
    rfl
theorem stair_rows {r t B : Int} : ∀ n, rowsOf (stairL r t B n) = (revN n).map fun x : Nat => (B + (r - t) * (x : Int), t)
  | 0 => rfl
  | n + 1 => by
    show (B + (r - t) * (n : Int), t) :: rowsOf (stairL r t B n) = _
    rw [stair_rows n]
    rfl
theorem lastD_of {L : List Cow} {rs : HH.Row} {l : List Nat} (h : rowsOf L = rs) (g : L.map (·.1) = l) : lastD L = .tuple [rowD rs, .tuple (l.map fun (k : Nat) => PyData.int (k : Int))] := by
  unfold lastD
  rw [h, ← g, List.map_map, List.map_map]
  rfl
section
variable {K : PySem.W.Frag} {σ : L2.St} {te ta tb : TE} {tr : TA} {H H' : Hp} {v : V} {rs : HH.Row} {n : Nat}
theorem rgV_nats (n : Nat) : rgV 0 (n : Int) = natsV (List.range n) := by
  unfold rgV natsV
  rw [show ((n : Int) - 0).toNat = n by omega]
  refine List.map_congr_left fun i _ => ?_
  rw [Int.zero_add]
theorem eu_tupRg (h : Ev te σ H (.int (n : Int))) (hn : n ≤ 100000) : EvU (tTupRg (tRg1 te)) σ H (natsV (List.range n)) := fun H1 e Q q =>
  h H1 e _ fun H2 e2 => ⟨(n : Int), rfl, RgOk.of_le (by decide) (by omega) (by decide) (by omega), fun p hp => by
    rw [rgV_nats]
    exact q p _ (fresh_back e2 hp) (e2.trans (Ex.new hp)) upd_same⟩
theorem rgV_nats2 {a b : Nat} (h : a ≤ b) : rgV (a : Int) (b : Int) = natsV ((List.range (b - a)).map (a + ·)) := by
  unfold rgV natsV
  rw [show ((b : Int) - (a : Int)).toNat = b - a by omega, List.map_map]
  refine List.map_congr_left fun i _ => ?_
  show V.int _ = V.int _
  congr 1
theorem eu_tupRg2 {a b : Nat} {i j : Int} (h : Ev ta σ H (.int i)) (g : Ev tb σ H (.int j)) (ei : i = (a : Int)) (ej : j = (b : Int)) (hab : a ≤ b) (hb : b ≤ 100000) : EvU (tTupRg (tRg2 ta tb)) σ H (natsV ((List.range (b - a)).map (a + ·))) := fun H1 e Q q =>
  h H1 e _ fun H2 e2 => g H2 (e.trans e2) _ fun H3 e3 => ⟨i, j, rfl, rfl, RgOk.of_le (by omega) (by omega) (by omega) (by omega), fun p hp => by
    subst ei ej
    rw [rgV_nats2 hab]
    exact q p _ (fresh_back (e2.trans e3) hp) ((e2.trans e3).trans (Ex.new hp)) upd_same⟩
theorem el_lstRg2 {a b : Nat} {i j : Int} (h : Ev ta σ H (.int i)) (g : Ev tb σ H (.int j)) (ei : i = (a : Int)) (ej : j = (b : Int)) (hab : a ≤ b) (hb : b ≤ 100000) : EvL (tLstRg (tRg2 ta tb)) σ H (natsV ((List.range (b - a)).map (a + ·))) := fun H1 e Q q =>
  h H1 e _ fun H2 e2 => g H2 (e.trans e2) _ fun H3 e3 => ⟨i, j, rfl, rfl, RgOk.of_le (by omega) (by omega) (by omega) (by omega), fun p hp => by
    subst ei ej
    rw [rgV_nats2 hab]
    exact q p _ (fresh_back (e2.trans e3) hp) ((e2.trans e3).trans (Ex.new hp)) upd_same⟩
theorem eu_tupRg3 (h : EvA tr σ H [.int ((n : Int) - 1), .int (-1), .int (-1)]) (hn : n ≤ 100000) : EvU (tTupRg3 tr) σ H (natsV (revN n)) := fun H1 e Q q =>
  h H1 e _ fun H2 e2 => ⟨(n : Int) - 1, -1, -1, n, rfl, by
    have z := RgC.neg (i := (n : Int) - 1) (j := -1) (by omega) (by omega) (by omega) (by omega)
    rw [show ((n : Int) - 1 - -1).toNat = n by omega] at z
    exact z, by omega, fun p hp => by
    rw [rgC_rev]
    exact q p _ (fresh_back e2 hp) (e2.trans (Ex.new hp)) upd_same⟩
theorem ex_nats {l : List Nat} (h : EvU te σ H (natsV l)) : EvX K te σ H (.tuple (l.map fun (k : Nat) => PyData.int (k : Int))) := fun H1 e1 Q q => h H1 e1 _ fun p H2 hp e2 g => q _ H2 e2 (by
  have : natsV l = (l.map fun (k : Nat) => (k : Int)).map V.int := by unfold natsV; rw [List.map_map]; rfl
  have e : (l.map fun (k : Nat) => PyData.int (k : Int)) = (l.map fun (k : Nat) => (k : Int)).map PyData.int := by rw [List.map_map]; rfl
  rw [this] at g
  rw [e]
  exact .tup (st_of g) (dp_ints _))
theorem dp_natsT {a : Addr} {l : List Nat} (g : H a = some (.tup (natsV l))) : Dp K H (.ref a) (.tuple (l.map fun (k : Nat) => PyData.int (k : Int))) := by
  have : natsV l = (l.map fun (k : Nat) => (k : Int)).map V.int := by unfold natsV; rw [List.map_map]; rfl
  have e : (l.map fun (k : Nat) => PyData.int (k : Int)) = (l.map fun (k : Nat) => (k : Int)).map PyData.int := by rw [List.map_map]; rfl
  rw [this] at g
  rw [e]
  exact .tup (st_of g) (dp_ints _)
theorem lists_dp : ∀ {us : List V} {ll : List (List Nat)}, All2 (ListOf H) us (ll.map natsV) → DpAll K H us (ll.map natsL)
  | _, [], .nil => .nil
  | _, l :: ll, .cons ⟨p, e, h⟩ r => by
    subst e
    refine .cons ?_ (lists_dp r)
    rw [natsV_I] at h
    exact .lst (sq_of h) (dp_ints _)
theorem ex_first0 {X : XK} (h : Ev te σ H v) (hv : RowAt K H v rs) (hl : rs.length ≤ 1000) (ht : ∀ b ∈ rs, 0 ≤ b.2) (n : FfR (tag 0 rs)) : EvX K (tOp (rIxT K) (tCall (spFirstF K) [] X (tCons te tNil)) (tC (.int 0))) σ H (rowD rs) := fun H1 e1 Q q => h H1 e1 _ fun H2 e2 => ⟨v, rs, rfl, hv.ex (e1.trans e2), hl, ht, fun p H3 M e3 la st nf => by
  rw [one_ff _ (fgood_tag ht) (Nat.le_refl _) st (ffr_ff nf) (.refl _) (ffr_ff n)] at la
  obtain ⟨u, ot, o, h1, h2, h3, h4⟩ := la.ex
  rw [show rowsOf (tag 0 rs) = rs from tag_snd 0 rs] at h2
  obtain ⟨a, rfl, d⟩ := h2.dp
  exact ⟨p, _, ((0 : Nat) : Int), .ref a, rfl, rfl, st_of h1, atI_nat (j := 0) rfl, q _ H3 (e2.trans e3) d⟩⟩
theorem ex_may0 {X : XK} (h : Ev te σ H v) (hv : RowAt K H v rs) (hl : rs.length ≤ 1000) (n : HH.passL rs = []) : EvX K (tCall (spMay K HH.passL) [] X (tCons te tNil)) σ H (.list []) := fun H1 e1 Q q => h H1 e1 _ fun H2 e2 => ⟨v, rs, rfl, hv.ex (e1.trans e2), hl, fun p H3 hp e3 g3 => by
  rw [n] at g3
  exact q _ H3 (e2.trans e3) (.lst (sq_of g3) .nil)⟩
end
theorem okV_last {L : List Cow} (h : L.length ≤ 40000) : okV 3 (lastD L) := okV_tup (by show 2 ≤ 40000; decide) fun e he => by
  rcases List.mem_cons.mp he with rfl | he
  · exact (okV_row (by unfold rowsOf; rw [List.length_map]; exact h)).1
  · rw [List.mem_singleton.mp he]
    exact okV_up (okV_ints (by rw [List.length_map]; exact h)).2
theorem okV_lists {ll : List (List Nat)} (h : ll.length ≤ 40000) (g : ∀ l ∈ ll, l.length ≤ 40000) : okV 2 (.list (ll.map natsL)) := okV_lst (by rw [List.length_map]; exact h) fun e he => by
  obtain ⟨l, hl, rfl⟩ := List.mem_map.mp he
  exact (okV_ints (ns := l.map fun (k : Nat) => (k : Int)) (by rw [List.length_map]; exact g l hl)).1
end HH
set_option maxHeartbeats 4000000
namespace HT
open PySem PySem.Spec PyProof.Rows
section
variable {prog : Program} {w : World} {A : Around} {E : Value → Shared → Prop} {s : Shared}
theorem adjust_back (n : Nat) : Builtin.Slice.sliceAdjust none none (-1) (n : Int) = ((n : Int) - 1, -1) := by
  unfold Builtin.Slice.sliceAdjust
  rfl
theorem places_back (n : Nat) : Builtin.Slice.slicePlaces ((n : Int) - 1) (-1) (-1) = n := by
  unfold Builtin.Slice.slicePlaces
  rw [if_neg (by omega), show (-(-1) : Int) = 1 by omega, Int.ediv_one]
  split <;> omega
theorem sliceApplied_back {sl : Addr} {vl vu vs : Value} {n : Nat} {Q : Int × Int × Nat → Shared → Prop} (hs : s.heap.IsSliceOf sl vl vu vs) (pl : IsPart vl none) (pu : IsPart vu none) (ps : IsPart vs (some (-1)))
    (h : Q ((n : Int) - 1, -1, n) s) : wpAny (model prog w) A (Builtin.Slice.sliceApplied (.ref sl) (pure (n : Int))) Q E s := by
  obtain ⟨os, hos, hcs, hds⟩ := id hs
  unfold Builtin.Slice.sliceApplied Builtin.Slice.sliceFields
  refine wpAny_bind (wpAny_bind (wpAny_field hos hds (x := vl) rfl (wpAny_bind (wpAny_field hos hds (x := vu) rfl (wpAny_bind (wpAny_field hos hds (x := vs) rfl (wpAny_pure ?_)))))))
  refine wpAny_bind (slicePart_ ps ?_)
  show wpAny _ _ (if ((-1 : Int) == 0) = true then _ else _) _ _ s
  rw [if_neg (by decide)]
  refine wpAny_bind (slicePart_ pl (wpAny_bind (slicePart_ pu (wpAny_bind (wpAny_pure ?_)))))
  show wpAny _ _ (match Builtin.Slice.sliceAdjust none none (-1) (n : Int) with | (lo, hi) => pure (lo, (-1 : Int), Builtin.Slice.slicePlaces lo hi (-1))) _ _ s
  rw [adjust_back n]
  show wpAny _ _ (pure ((n : Int) - 1, (-1 : Int), Builtin.Slice.slicePlaces ((n : Int) - 1) (-1) (-1))) _ _ s
  rw [places_back]
  exact wpAny_pure h
theorem fm_back (xs : List Value) : ∀ k, k ≤ xs.length → ((List.range k).filterMap fun m => xs[xs.length - 1 - m]?) = xs.reverse.take k
  | 0, _ => rfl
  | k + 1, h => by
    rw [List.range_succ, List.filterMap_append, fm_back xs k (by omega), List.take_add_one, List.getElem?_reverse (by omega)]
    congr 1
theorem fm_congr {α β : Type} {f g : α → Option β} : ∀ l : List α, (∀ x ∈ l, f x = g x) → l.filterMap f = l.filterMap g
  | [], _ => rfl
  | x :: l, h => by
    rw [List.filterMap_cons, List.filterMap_cons, h x (List.mem_cons_self ..), fm_congr l fun y hy => h y (List.mem_cons_of_mem _ hy)]
theorem pick_back (xs : Array Value) : ((List.range xs.size).filterMap fun (m : Nat) => xs[((xs.size : Int) - 1 + (m : Int) * (-1)).toNat]?).toArray = xs.toList.reverse.toArray := by
  have e : ∀ m ∈ List.range xs.size, (fun (m : Nat) => xs[((xs.size : Int) - 1 + (m : Int) * (-1)).toNat]?) m = (fun m => xs.toList[xs.toList.length - 1 - m]?) m := fun m hm => by
    have hm := List.mem_range.mp hm
    have : ((xs.size : Int) - 1 + (m : Int) * (-1)).toNat = xs.size - 1 - m := by omega
    show xs[((xs.size : Int) - 1 + (m : Int) * (-1)).toNat]? = _
    rw [this]
    simp
  rw [fm_congr _ e, ← Array.length_toList, fm_back _ _ (Nat.le_refl _), List.take_of_length_le (by rw [List.length_reverse]; exact Nat.le_refl _)]
theorem getItem_tuple_back {t sl : Addr} {items : Array Value} {vl vu vs : Value} {Q : Value → Shared → Prop} (ht : IsTup s.heap t items) (hs : s.heap.IsSliceOf sl vl vu vs) (pl : IsPart vl none) (pu : IsPart vu none) (ps : IsPart vs (some (-1)))
    (h : Q (.ref s.heap.objs.size) { s with heap := s.heap.push { cls := .type "tuple", data := .seq items.toList.reverse.toArray } })
    (hsz : items.size ≤ sizeLine) : wpAny (model prog w) A (getItem (.ref t) (.ref sl)) Q E s := by
  have htake : sizeOk (.seq items.toList.reverse.toArray) := by
    show items.toList.reverse.toArray.size ≤ sizeLine
    rw [List.size_toArray, List.length_reverse, Array.length_toList]
    exact hsz
  obtain ⟨os, hos, hcs, hds⟩ := id hs
  have hTs : s.TypeIs (.ref sl) "slice" := ⟨os, hos, hcs⟩
  unfold getItem
  try with_reducible refine wpAny_holding ?_
  first | refine wpAny_bind (wpAny_pure ?_) | skip
  refine wpAny_bind (wpAny_sequenceKey ht.typeIs (by decide) ?_)
  refine wpAny_bind (wpAny_callSpecial?_slot (name := Str.ofString "__getitem__") ht.typeIs PyProof.Rows.slot_tuple_getitem
    (wpAny_call_entry PyProof.Rows.slot_tuple_getitem ht.typeIs entry_tuple_getitem ?_ (args_tuple_getitem _ _)))
  show wpAny _ _ (Builtin.Tuple.tupleItemsOf (.ref t) >>= _) _ _ s
  refine wpAny_bind (tupleItemsOf_ ht ?_)
  refine wpAny_bind (wpAny_typeOf hTs ?_)
  rw [if_pos (by decide)]
  refine wpAny_bind (sliceApplied_back hs pl pu ps ?_)
  have hno : ¬ ((((items.size : Nat) : Int) - 1 == 0 && (-1 : Int) == 1 && items.size == items.size) = true) := by simp
  show wpAny _ _ (if (((items.size : Nat) : Int) - 1 == 0 && (-1 : Int) == 1 && items.size == items.size) = true then _ else _) _ _ s
  rw [if_neg hno, pick_back]
  first
    | exact wpAny_bind (m := Builtin.Tuple.tupleExact _) (wpAny_newObj_type (wpAny_pure ⟨_, rfl, wpAny_pure h⟩) htake)
    | exact wpAny_bind (m := Builtin.Tuple.tupleExact _) (wpAny_newObj_type (wpAny_bind (wpAny_pure (wpAny_pure ⟨_, rfl, wpAny_pure h⟩))) htake)
    | exact wpAny_bind (wpAny_bind (m := Builtin.Tuple.tupleExact _) (wpAny_newObj_type (wpAny_pure (wpAny_pure ⟨_, rfl, wpAny_pure h⟩)) htake))
    | exact wpAny_bind (wpAny_bind (m := Builtin.Tuple.tupleExact _) (wpAny_newObj_type (wpAny_pure ⟨_, rfl, wpAny_pure h⟩) htake))
end
end HT
namespace HH
open PySem PySem.Spec PyProof.Rows L2 Evl RZ
def tRevT (K : PySem.W.Frag) (te : TE) : TE := fun σ H Q => te σ H fun x H1 => ∃ a xs, x = .ref a ∧ SqT K H1 a xs ∧ ∀ p, H1 p = none → Q (.ref p) (upd H1 p (.tup xs.reverse))
theorem pe_revT {X : Cx} {e : Expr} {te : TE} {k : Nat} {p1 p2 p3 pos : Pos} (he : PE X e te) : PE X (.Subscript e (.Slice none none (some (.UnaryOp .USub (.Constant (.int 1) k p1) p2)) p3) pos) (tRevT X.K te) := by
  refine ⟨fun pins s σ H Q I h => ?_⟩
  refine Subscript_ (thn (he.run pins s σ H _ I h) fun v s1 ⟨x, H1, I1, r1, q1⟩ => ?_)
  obtain ⟨a, xs, ex, hx, q⟩ := q1
  subst ex
  cases r1
  have hst : PO X (some (.UnaryOp .USub (.Constant (.int 1) k p1) p2)) (tPart (tUn (rU fun i => .int (-i)) (tC (.int 1)))) := po_some (pe_un un_neg pe_int)
  refine wpAny_Slice (thn (po_none.run pins s1 σ H1 (fun o H2 => o = none ∧ H2 = H1) I1 ⟨rfl, rfl⟩) fun vl s2 ⟨l, H2, I2, pl, el, e2⟩ => ?_)
  subst el e2
  refine thn (po_none.run pins s2 σ H2 (fun o H3 => o = none ∧ H3 = H2) I2 ⟨rfl, rfl⟩) fun vu s3 ⟨u, H3, I3, pu, eu, e3⟩ => ?_
  subst eu e3
  refine thn (hst.run pins s3 σ H3 (fun o H4 => o = some (-1) ∧ H4 = H3) I3 ⟨1, rfl, -1, rfl, rfl, rfl⟩) fun vs s4 ⟨o, H4, I4, ps, eo, e4⟩ => ?_
  subst eo e4
  have I5 : Inv X pins σ H4 { s4 with heap := s4.heap.push { cls := .type "slice", data := .fields #[vl, vu, vs] } } := I4.kept (t' := s4.toks) fun b ob q => Heap.get?_push_of_some _ q
  obtain ⟨its, r, ht, hz⟩ := I5.tuple hx
  have hlen := r.length
  show wpAny (model X.prog X.w) X.A (subscriptTail e (.Slice none none (some (.UnaryOp .USub (.Constant (.int 1) k p1) p2)) p3) (.ref a) (.ref s4.heap.objs.size)) (EP X pins σ Q) X.xe { s4 with heap := s4.heap.push { cls := .type "slice", data := .fields #[vl, vu, vs] } }
  refine tail_any (ops := [.ref a, .ref s4.heap.objs.size]) ht.typeIs (PyProof.Rows.slot_tuple_getitem.lookup) ?_ (by with_unfolding_all rfl)
  refine HT.getItem_tuple_back ht (Heap.IsSliceOf.new _ vl vu vs) pl pu ps ?_ (by rw [List.size_toArray, ← hlen]; exact hz)
  refine ⟨.ref _, _, I5.laid (t' := s4.toks) (o := .tup xs.reverse) (fun b ob q => Heap.get?_push_of_some _ q) (Nat.le_refl _) ?_, rfl, q _ (I5.hok.fresh (Nat.le_refl _))⟩
  exact ⟨by rw [List.length_reverse]; exact hz, _, r.reverse, IsTup.new _ _⟩
section
variable {K : PySem.W.Frag} {σ : L2.St} {H : Hp} {te : TE}
theorem eu_revT {a : Addr} {xs : List V} (h : Ev te σ H (.ref a)) (hx : SqT K H a xs) : EvU (tRevT K te) σ H xs.reverse := fun H1 e1 Q q => h H1 e1 _ fun H2 e2 => ⟨a, xs, rfl, ex_t (e1.trans e2) hx, fun p hp => q p _ (fresh_back e2 hp) (e2.trans (Ex.new hp)) upd_same⟩
end
end HH
set_option maxHeartbeats 4000000
namespace HH
open PySem PySem.Spec PyProof.Rows L2 Evl RZ
theorem filt_desc {c : Int} : ∀ {ds : List Int}, (ds.Pairwise fun a b => b ≤ a) → (∀ x ∈ ds.take (ds.filter fun x => decide (x > c)).length, x > c) ∧ (∀ x ∈ ds.drop (ds.filter fun x => decide (x > c)).length, x ≤ c)
  | [], _ => ⟨fun x hx => (by simp at hx), fun x hx => (by simp at hx)⟩
  | a :: ds, h => by
    have h := List.pairwise_cons.mp h
    obtain ⟨h1, h2⟩ := filt_desc (c := c) h.2
    by_cases g : a > c
    · rw [List.filter_cons_of_pos (by exact decide_eq_true g), List.length_cons, List.take_succ_cons, List.drop_succ_cons]
      refine ⟨fun x hx => ?_, h2⟩
      rcases List.mem_cons.mp hx with rfl | hx
      · exact g
      · exact h1 x hx
    · have none : ds.filter (fun x => decide (x > c)) = [] := List.filter_eq_nil_iff.mpr fun x hx z => by
        have := h.1 x hx
        have z := of_decide_eq_true z
        omega
      rw [List.filter_cons_of_neg (by simpa using g), none]
      refine ⟨fun x hx => by simp at hx, fun x hx => ?_⟩
      rcases List.mem_cons.mp hx with rfl | hx
      · omega
      · have := h.1 x hx
        omega
theorem nfr_rows : ∀ {L : List Cow}, NfR L → ∀ i, i + 1 < L.length → sS (rowsOf L) (i + 1) - tS (rowsOf L) i ≤ sS (rowsOf L) i
  | [], _, i, h => by simp at h
  | [_], _, i, h => by simp at h
  | a :: b :: r, n, 0, _ => by
    have := n.1
    show b.2.1 - a.2.2 ≤ a.2.1
    omega
  | a :: b :: r, n, i + 1, h => nfr_rows (L := b :: r) n.2 i (by simp only [List.length_cons] at h ⊢; omega)
section
variable {K : PySem.W.Frag} {σ : L2.St} {te ta tb ti tj tl : TE} {tr : TA} {tt : TT} {D : Ends} {tz tu : TS} {g : TG} {H H' : Hp} {v : V} {rs : HH.Row}
theorem el_filtI {a : Addr} {ns : List Int} {j : Nat} {vs : List Nat} (f : Int → Bool) (h : Ev te σ H (.ref a)) (ha : H a = some (.lst (ns.map V.int))) (hl : ns.length ≤ 2000) (hw : ∀ x, wipe ((wipe σ vs).set j (some x)) vs = wipe σ vs) (hj : ∀ x : V, ((wipe σ vs).set j (some x))[j]? = some (some x))
    (ht : ∀ x H1, Ex H H1 → x ∈ ns → EvT tt ((wipe σ vs).set j (some (.int x))) H1 (f x)) : EvL (tLc (iList K te) (gName j) tt (tVar j) vs) σ H ((ns.filter f).map V.int) := fun H0 e0 Q q => by
  refine h H0 e0 _ fun H1 e1 => ⟨a, rfl, ⟨_, sq_of ((e0.trans e1) _ _ ha)⟩, fun D hD => ?_⟩
  have e01 := e0.trans e1
  have kl : (ns.map V.int).length = ns.length := List.length_map ..
  refine in_it (walk_list (K := K) (a := a) (xs := ns.map V.int)) (fun k H2 => Ex H1 H2 ∧ H2 D = some (.lst (((ns.take k).filter f).map V.int))) ⟨Ex.new hD, upd_same⟩ (fun k H2 _ z => sq_of ((e01.trans z.1) _ _ ha)) (fun k x H2 H3 hk z y => ?_) (fun H2 z => ?_)
  · obtain ⟨rfl, hx⟩ := y
    obtain ⟨z1, z2⟩ := z
    have hkl : k < ns.length := by rw [← kl]; exact hk
    rw [List.getElem?_map, List.getElem?_eq_getElem hkl] at hx
    cases hx
    refine ⟨hw _, ht ns[k] _ (e01.trans z1) (List.getElem_mem hkl) _ (Ex.refl _) _ fun H4 e4 => ?_⟩
    have e : (ns.take (k + 1)).filter f = (ns.take k).filter f ++ (if f ns[k] then [ns[k]] else []) := by
      rw [List.take_add_one, List.getElem?_eq_getElem hkl, List.filter_append]
      congr 1
      cases hf : f ns[k] with
      | true => simp [hf]
      | false => simp [hf]
    cases hf : f ns[k] with
    | true =>
      show (if true = true then _ else _)
      rw [if_pos rfl]
      have le : ((ns.take k).filter f).length ≤ k := Nat.le_trans (List.length_filter_le ..) (by rw [List.length_take]; omega)
      refine ⟨_, hj _, _, e4 _ _ z2, sz_lt (by rw [List.length_map]; omega), Ex.mut (z1.trans e4) hD, ?_⟩
      rw [upd_same, e, hf, if_pos rfl, List.map_append]
      rfl
    | false =>
      show (if false = true then _ else _)
      rw [if_neg (by decide)]
      refine ⟨z1.trans e4, ?_⟩
      rw [e, hf, if_neg (by decide), List.append_nil]
      exact e4 _ _ z2
  · obtain ⟨z1, z2⟩ := z
    rw [kl, List.take_length] at z2
    exact q D H2 (fresh_back e1 hD) (e1.trans z1) z2
theorem ev_lenNL {xs : List V} (h : EvL te σ H xs) : Ev (tCB (rLenS K) (tCons te tNil)) σ H (.int (xs.length : Int)) := fun H1 e Q q => h H1 e _ fun p H2 hp e2 g2 => ⟨p, xs, rfl, .inl (sq_of g2), q H2 e2⟩
theorem eu_catU {xs ys : List V} (h : EvU ta σ H xs) (g : ∀ H1, Ex H H1 → EvU tb σ H1 ys) (hl : xs.length + ys.length ≤ 100000) : EvU (tOp (rCatA K) ta tb) σ H (xs ++ ys) := fun H1 e1 Q q =>
  h H1 e1 _ fun a H2 ha e2 ga => g H2 (e1.trans e2) H2 (Ex.refl _) _ fun b H3 hb e3 gb => by
    have ga3 := e3 _ _ ga
    refine ⟨a, b, xs, ys, rfl, rfl, st_of ga3, st_of gb, sz_of hl, fun z => ?_, fun _ z => ?_, fun _ _ p hp => ?_⟩
    · subst z
      exact q b H3 (fresh_back e2 hb) (e2.trans e3) gb
    · subst z
      rw [List.append_nil] at q
      exact q a H3 ha (e2.trans e3) ga3
    · exact q p _ (fresh_back (e2.trans e3) hp) ((e2.trans e3).trans (Ex.new hp)) upd_same
theorem ep_mapTR {i j : Nat} {vs : List Nat} (f : Int × Int → Int × Int) (h : EvR K te σ H rs) (hl : rs.length ≤ 2000) (hw : ∀ x y, wipe (((wipe σ vs).set i (some x)).set j (some y)) vs = wipe σ vs)
    (h1 : ∀ (b : Int × Int) H1, Ex H H1 → b ∈ rs → Ev ta (((wipe σ vs).set i (some (.int b.1))).set j (some (.int b.2))) H1 (.int (f b).1)) (h2 : ∀ (b : Int × Int) H1, Ex H H1 → b ∈ rs → Ev tb (((wipe σ vs).set i (some (.int b.1))).set j (some (.int b.2))) H1 (.int (f b).2)) :
    EvPr PairT (tLc (iTup K te) (gTup K 2 (gCons (gName i) (gCons (gName j) gNil))) tYes (tTup (tCons ta (tCons tb tNil))) vs) σ H (rs.map f) := fun H0 e0 Q q =>
  h H0 e0 _ fun v H1 e1 hv => by
    have := ep_mapT (K := K) (te := tC v) (σ := σ) (H := H1) (ta := ta) (tb := tb) (i := i) (j := j) (vs := vs) f ev_c hv hl hw (fun b H2 e2 hb => h1 b H2 ((e0.trans e1).trans e2) hb) (fun b H2 e2 hb => h2 b H2 ((e0.trans e1).trans e2) hb)
    exact this H1 (Ex.refl _) _ fun p us H2 hp e2 g2 b2 => q p us H2 (fresh_back e1 hp) (e1.trans e2) g2 b2
theorem ept_rng2 {i j : Int} {a b c jn : Nat} {vs : List Nat} (h : EvA tr σ H [.int i, .int j]) (ei : i = (a : Int)) (ej : j = (b : Int)) (hab : a ≤ b) (hb : b ≤ 1000) (hw : ∀ x, wipe ((wipe σ vs).set jn (some x)) vs = wipe σ vs) (hj : ∀ x : V, ((wipe σ vs).set jn (some x))[jn]? = some (some x)) :
    EvPr PairT (tLc (iRng2 tr) (gName jn) tYes (tTup (tCons (tC (.int (c : Int))) (tCons (tVar jn) tNil))) vs) σ H ((List.range (b - a)).map fun k => ((c : Int), ((a + k : Nat) : Int))) := fun H0 e0 Q q => by
  subst ei ej
  refine h H0 e0 _ fun H1 e1 => ⟨(a : Int), (b : Int), rfl, ⟨by omega, by omega, by omega, by omega⟩, fun D hD => ?_⟩
  rw [show ((b : Int) - (a : Int)).toNat = b - a by omega]
  refine in_it walk_range (fun m H2 => Ex H1 H2 ∧ ∃ us, H2 D = some (.lst us) ∧ All2 (PairT H2) us ((List.range m).map fun k => ((c : Int), ((a + k : Nat) : Int)))) ⟨Ex.new hD, [], upd_same, .nil⟩ (fun _ _ _ _ => True.intro) (fun m x H2 H3 hm p y => ?_) (fun H2 p => ?_)
  · obtain ⟨rfl, hx⟩ := y
    have ejj : (a : Int) + (m : Int) = ((a + m : Nat) : Int) := by omega
    have hx : x = V.int ((a : Int) + (m : Int)) := hx
    rw [ejj] at hx
    subst hx
    obtain ⟨p1, us, p2, p3⟩ := p
    refine ⟨hw _, t_yes ⟨_, hj _, by show 2 ≤ sizeLine; decide, fun T hT => ?_⟩⟩
    have nT := Ex.new (o := .tup [V.int (c : Int), .int ((a + m : Nat) : Int)]) hT
    refine ⟨us, nT _ _ p2, sz_lt (by rw [All2.len p3, List.length_map, List.length_range]; omega), Ex.mut (p1.trans nT) hD, us ++ [.ref T], upd_same, ?_⟩
    rw [List.range_succ, List.map_append]
    exact stb_T.allL (nT _ _ p2) (All2.app (stb_T.all nT p3) (.cons ⟨T, rfl, upd_same⟩ .nil))
  · obtain ⟨p1, us, p2, p3⟩ := p
    exact q D us H2 (fresh_back e1 hD) (e1.trans p1) p2 p3
theorem ex_pr {ps : HH.Row} (h : EvPr PairT te σ H ps) : EvX K te σ H (.list (ps.map beastD)) := fun H1 e1 Q q => h H1 e1 _ fun p us H2 hp e2 g b => q _ H2 e2 (.lst (sq_of g) (dp_beasts (BeastsT.be b)))
theorem sort_set {i : Nat} {H1 : Hp} {a : Addr} {ns : List Int} (ga : H1 a = some (.lst (ns.map V.int))) (k : ∀ (ms : List Int) (dq : Addr) (H2 : Hp), ms.Perm ns → ms.Pairwise (· ≤ ·) → Ex H1 H2 → H1 dq = none → H2 dq = some (.lst (ms.reverse.map V.int)) → tz D (σ.set i (some (.ref dq))) H2) :
    rSortedI K [.ref a] H1 fun y H2 => ∃ b xs, y = .ref b ∧ SqL K H2 b xs ∧ ∀ p, H2 p = none → tz D (σ.set i (some (.ref p))) (upd H2 p (.lst xs.reverse)) :=
  ⟨a, ns, rfl, sq_of ga, fun ms l2 pm srt hl2 => ⟨l2, ms.map V.int, rfl, sq_of upd_same, fun dq hdq => k ms dq _ pm srt ((Ex.new hl2).trans (Ex.new hdq)) (fresh_back (Ex.new hl2) hdq) (by rw [upd_same, List.map_reverse])⟩⟩
theorem q_revSort {i : Nat} (h : te σ H fun x H1 => rSortedI K [x] H1 fun y H2 => ∃ b xs, y = .ref b ∧ SqL K H2 b xs ∧ ∀ p, H2 p = none → tz D (σ.set i (some (.ref p))) (upd H2 p (.lst xs.reverse))) : tSeq (tAsg (tRevL K (tCB (rSortedI K) (tCons te tNil))) (gName i)) tz D σ H := h
theorem q_forEvU0 {xs : List V} (h : EvU tl σ H xs) (Pv : Hp → Nat → L2.St → Hp → Prop) (h0 : ∀ B, Ex H B → Pv B 0 σ B) (hl : ∀ B i σ' H', Pv B i σ' H' → Ex B H')
    (hs : ∀ (B : Hp) (i : Nat) (x : V) (σ' : L2.St) (H' : Hp) (T : Addr), Ex H B → xs[i]? = some x → Pv B i σ' H' → H' T = none → g (.ref T) σ' (upd H' T (.tup [.int (i : Nat), x])) fun σ2 H2 => tu { D with nx := Pv B (i + 1), ct := Pv B (i + 1), bk := D.nx } σ2 H2) (hd : ∀ B σ' H', Ex H B → Pv B xs.length σ' H' → D.nx σ' H') : tFor (iEnumT K (tCons tl tNil)) g tu D σ H :=
  h H (Ex.refl H) _ fun p H1 hp e g1 => ⟨p, xs, rfl, st_of g1, for_it (walk_enumT (xs := xs)) (D := D) (Pv H1) (h0 H1 e) (fun i σ' H' _ z => ex_t (hl H1 i σ' H' z) (st_of g1)) (fun i x σ' H' H2 hi z y => by
    obtain ⟨T, u, w, rfl, nT, rfl, hu, hz⟩ := y
    cases hu
    exact hs H1 i w σ' H' T e hz z nT) (fun σ' H' z => hd H1 σ' H' e z)⟩
theorem s_par2 {i j : Nat} (h : ta σ H fun x H1 => tb σ H1 fun y H2 => ∃ v w, [x, y] = [v, w] ∧ D.nx ((σ.set i (some v)).set j (some w)) H2) : tPar i j (tCons ta (tCons tb tNil)) D σ H := h
theorem ex_lastR {L : List Cow} {X : XK} (h : EvR K te σ H rs) (hl : rs.length ≤ 1000) (ht : ∀ b ∈ rs, 0 ≤ b.2) (sL : Steps (tag 0 rs) L) (nL : NfR L) : EvX K (tCall (spLastF K) [] X (tCons te tNil)) σ H (lastD L) := fun H1 e1 Q q => h H1 e1 _ fun v H2 e2 hv => ⟨v, rs, rfl, hv, hl, ht, fun p H3 M e3 la st nf => by
  rw [one_nf _ (good_tag ht) (Nat.le_refl _) st (nfr_nf nf) sL (nfr_nf nL)] at la
  exact q _ H3 (e2.trans e3) (lastF_dp la)⟩
end
end HH
set_option maxHeartbeats 4000000
namespace HH
open PySem PySem.Spec PyProof.Rows L2 Evl RZ
section
variable {K : PySem.W.Frag} {σ : L2.St} {p : Addr} {D : Ends} {tz : TS} {H : Hp}
theorem sub_one {m c : Nat} {Q : VK} (hb : σ[0]? = some (some (.ref p))) (bx : Bx H p m) (c1 : 1 ≤ c) (c2 : c ≤ 1000) (hm : m + 2001 < Lim) (k : ∀ H', ExB p H H' → Bx H' p (m + 2001) → Q (.bl true) H') :
    tCall (spMake K c) [] E0 (tCons (tVar 0) (tCons (tOp (rI0 fun i j => .int (i + j)) (tC (.int 1)) (tCall spTake [] E0 (tCons (tVar 0) (tCons (tC (.int (c : Int))) tNil)))) tNil)) σ H Q := by
  refine ⟨.ref p, hb, ?_⟩
  refine (dr_I0 (g := fun i j => i + j) (S := fun r => 1 ≤ r ∧ r ≤ (c : Int)) (dr_c (i := 1) (te := tC (.int 1)) (p := p) (σ := σ) fun H1 => ev_c) (dr_take (p := p) (m := (c : Int)) (E := E0) (tm := tC (.int (c : Int))) (ib := 0) hb (fun H1 => ev_c) (by omega) (by omega)) (fun i j e hj => by
    have e : i = 1 := e
    omega)) H m bx (by omega) _ fun r H1 hr x1 b1 => ?_
  obtain ⟨n, rfl⟩ := Int.eq_ofNat_of_zero_le (show 0 ≤ r by omega)
  exact ⟨p, n, m + 1, rfl, by omega, by omega, b1.le (by omega), by omega, fun H2 x2 b2 => k H2 (x1.trans x2) (b2.le (by omega))⟩
theorem sub_or {m c d : Nat} {tu : TS} (hb : σ[0]? = some (some (.ref p))) (bx : Bx H p m) (c1 : 1 ≤ c ∧ c ≤ 1000) (d1 : 1 ≤ d ∧ d ≤ 1000) (hm : m + 5000 < Lim) (k : ∀ H', ExB p H H' → Bx H' p (m + 5000) → tz D σ H') :
    tSeq (tIfS (tOr (tNot (tB (tCall (spMake K c) [] E0 (tCons (tVar 0) (tCons (tOp (rI0 fun i j => .int (i + j)) (tC (.int 1)) (tCall spTake [] E0 (tCons (tVar 0) (tCons (tC (.int (c : Int))) tNil)))) tNil)))))
      (tNot (tB (tCall (spMake K d) [] E0 (tCons (tVar 0) (tCons (tOp (rI0 fun i j => .int (i + j)) (tC (.int 1)) (tCall spTake [] E0 (tCons (tVar 0) (tCons (tC (.int (d : Int))) tNil)))) tNil)))))) tu tNext) tz D σ H := by
  refine sub_one (K := K) (m := m) (c := c) hb bx c1.1 c1.2 (by omega) fun H1 x1 b1 => ⟨true, rfl, ?_⟩
  refine ite2 (fun z => by cases z) (fun _ => ?_)
  refine sub_one (K := K) (m := m + 2001) (c := d) hb b1 d1.1 d1.2 (by omega) fun H2 x2 b2 => ⟨true, rfl, ?_⟩
  exact ite2 (fun z => by cases z) (fun _ => k H2 (x1.trans x2) (b2.le (by omega)))
theorem sub_all {m c n j : Nat} {vs : List Nat} (hw : ∀ x, wipe ((wipe σ vs).set j (some x)) vs = wipe σ vs) (hb : ∀ x : V, ((wipe σ vs).set j (some x))[0]? = some (some (.ref p))) (bx : Bx H p m) (hm : m + n * 2000 < Lim) (hn : n ≤ 10) (c1 : 1 ≤ c) (k : ∀ H', ExB p H H' → Bx H' p (m + n * 2000) → D.rt (.bl true) H') :
    tRet (tCB (rAll K) (tCons (tLc (iRng1 (tCons (tC (.int (n : Int))) tNil)) (gName j) tYes (tCall (spMake K c) [] E0 (tCons (tVar 0) (tCons (tC (.int (c : Int))) tNil))) vs) tNil)) D σ H := by
  refine ⟨(n : Int), rfl, by omega, by omega, fun Dl hD => ?_⟩
  have nDp : Dl ≠ p := (bx.ne hD).symm
  have hnn : ((n : Int)).toNat = n := by omega
  refine in_it walk_range (fun i H2 => ExB p H H2 ∧ Bx H2 p (m + i * 2000) ∧ H2 Dl = some (.lst ((List.replicate i true).map V.bl))) ⟨.of (Ex.new hD), (by rw [Nat.zero_mul]; exact bx.ex (Ex.new hD)), upd_same⟩ (fun _ _ _ _ => trivial) (fun i x H2 H3 hk z y => ?_) (fun H2 z => ?_)
  · obtain ⟨rfl, hx⟩ := y
    obtain ⟨x2, b2, g2⟩ := z
    have hi : i < n := by omega
    refine ⟨hw _, t_yes ⟨_, hb _, p, c, m + i * 2000, rfl, c1, Nat.le_refl _, b2, by omega, fun H4 x4 b4 => ⟨_, x4 _ _ nDp g2, sz_lt (by rw [List.length_map, List.length_replicate]; omega), (x2.trans x4).mut hD, ?_, ?_⟩⟩⟩
    · rw [Nat.succ_mul, ← Nat.add_assoc]
      exact b4.mut nDp.symm
    · rw [upd_same, List.replicate_succ', List.map_append]
      rfl
  · rw [hnn] at z
    obtain ⟨x2, b2, g2⟩ := z
    refine ⟨Dl, List.replicate n true, rfl, sq_of g2, ?_⟩
    have e3 : (List.replicate n true).all id = true := by
      rw [List.all_eq_true]
      intro x hx
      rw [(List.mem_replicate.mp hx).2]
      rfl
    rw [e3]
    exact k H2 x2 b2
end
end HH
set_option maxHeartbeats 4000000
namespace K67
open PySem PySem.Spec PyProof.Rows L2 Evl HH RZ
def topS (i : Nat) : Stmt := PySem.Challenge.pw_hayherd_k67_whole_known_by_their_make.main.body.getD i (.Pass ⟨0, 0, 0, 0⟩)
abbrev s_can_pass : Stmt := topS 1
theorem sc_can_pass : FnScope ["row", "place", "strength", "toll"] ["row", "place"] (defScope s_can_pass) := ⟨rfl, rfl, rfl, by decide +kernel, rfl, by decide +kernel, by decide +kernel⟩
abbrev s_may_pass : Stmt := topS 2
theorem sc_may_pass : FnScope ["row", "place"] ["row"] (defScope s_may_pass) := ⟨rfl, rfl, rfl, by decide +kernel, rfl, by decide +kernel, by decide +kernel⟩
abbrev s_pass_all : Stmt := topS 4
theorem sc_pass_all : FnScope ["line", "strengths", "tolls", "who", "place"] ["line", "strengths", "tolls", "who"] (defScope s_pass_all) := ⟨rfl, rfl, rfl, by decide +kernel, rfl, by decide +kernel, by decide +kernel⟩
abbrev s_fall_all : Stmt := topS 5
theorem sc_fall_all : FnScope ["line", "strengths", "tolls", "who", "place"] ["line", "strengths", "tolls", "who"] (defScope s_fall_all) := ⟨rfl, rfl, rfl, by decide +kernel, rfl, by decide +kernel, by decide +kernel⟩
abbrev s_row_and_order : Stmt := topS 6
theorem sc_row_and_order : FnScope ["line", "strengths", "tolls", "who"] ["line", "strengths", "tolls"] (defScope s_row_and_order) := ⟨rfl, rfl, rfl, by decide +kernel, rfl, by decide +kernel, by decide +kernel⟩
abbrev s_last : Stmt := topS 7
theorem sc_last : FnScope ["row", "strengths", "tolls", "line", "who", "strength", "toll"] ["row"] (defScope s_last) := ⟨rfl, rfl, rfl, by decide +kernel, rfl, by decide +kernel, by decide +kernel⟩
abbrev s_first : Stmt := topS 8
theorem sc_first : FnScope ["row", "strengths", "tolls", "line", "who", "strength", "toll"] ["row"] (defScope s_first) := ⟨rfl, rfl, rfl, by decide +kernel, rfl, by decide +kernel, by decide +kernel⟩
abbrev s_places_of : Stmt := topS 9
theorem sc_places_of : FnScope ["order", "place", "who"] ["order"] (defScope s_places_of) := ⟨rfl, rfl, rfl, by decide +kernel, rfl, by decide +kernel, by decide +kernel⟩
abbrev s_turned_about : Stmt := topS 10
theorem sc_turned_about : FnScope ["order", "place_of", "many", "one", "other"] ["order"] (defScope s_turned_about) := ⟨rfl, rfl, rfl, by decide +kernel, rfl, by decide +kernel, by decide +kernel⟩
abbrev s_passings : Stmt := topS 11
theorem sc_passings : FnScope ["row"] ["row"] (defScope s_passings) := ⟨rfl, rfl, rfl, by decide +kernel, rfl, by decide +kernel, by decide +kernel⟩
abbrev s_never_pass : Stmt := topS 13
theorem sc_never_pass : FnScope ["row", "one", "strength", "toll", "bar", "told", "who"] ["row", "one"] (defScope s_never_pass) := ⟨rfl, rfl, rfl, by decide +kernel, rfl, by decide +kernel, by decide +kernel⟩
abbrev s_never : Stmt := topS 14
theorem sc_never : FnScope ["row", "one"] ["row"] (defScope s_never) := ⟨rfl, rfl, rfl, by decide +kernel, rfl, by decide +kernel, by decide +kernel⟩
abbrev s_law_dip : Stmt := topS 16
theorem sc_law_dip : FnScope ["_law_script", "_law_k", "_law_cell"] ["_law_script", "_law_k"] (defScope s_law_dip) := ⟨rfl, rfl, rfl, by decide +kernel, rfl, by decide +kernel, by decide +kernel⟩
abbrev s_law_take : Stmt := topS 17
theorem sc_law_take : FnScope ["_law_box", "_law_many", "_law_found", "_law_once", "_law_pair"] ["_law_box", "_law_many"] (defScope s_law_take) := ⟨rfl, rfl, rfl, by decide +kernel, rfl, by decide +kernel, by decide +kernel⟩
abbrev s_law_folded : Stmt := topS 18
theorem sc_law_folded : FnScope ["_law_script", "_law_many", "_law_cells", "_law_k", "_law_cell"] ["_law_script", "_law_many"] (defScope s_law_folded) := ⟨rfl, rfl, rfl, by decide +kernel, rfl, by decide +kernel, by decide +kernel⟩
abbrev s_law_same : Stmt := topS 19
theorem sc_law_same : FnScope ["_law_found", "_law_due", "_law_one", "_law_two"] ["_law_found", "_law_due"] (defScope s_law_same) := ⟨rfl, rfl, rfl, by decide +kernel, rfl, by decide +kernel, by decide +kernel⟩
abbrev s_law_of : Stmt := topS 20
theorem sc_law_of : FnScope ["_law_box", "_law_pool"] ["_law_box", "_law_pool"] (defScope s_law_of) := ⟨rfl, rfl, rfl, by decide +kernel, rfl, by decide +kernel, by decide +kernel⟩
abbrev s_law_row : Stmt := topS 21
theorem sc_law_row : FnScope ["_law_box", "_law_most", "_law_many", "_law_way", "_law_rise", "_law_high", "_law_dear", "_law_base", "_law_toll", "_law_found", "_law_place"] ["_law_box", "_law_most"] (defScope s_law_row) := ⟨rfl, rfl, rfl, by decide +kernel, rfl, by decide +kernel, by decide +kernel⟩
abbrev s_law_lets : Stmt := topS 22
theorem sc_law_lets : FnScope ["_law_row_here", "_law_place"] ["_law_row_here", "_law_place"] (defScope s_law_lets) := ⟨rfl, rfl, rfl, by decide +kernel, rfl, by decide +kernel, by decide +kernel⟩
abbrev s_law_passed : Stmt := topS 23
theorem sc_law_passed : FnScope ["_law_row_here", "_law_place", "_law_ahead", "_law_strength", "_law_toll"] ["_law_row_here", "_law_place"] (defScope s_law_passed) := ⟨rfl, rfl, rfl, by decide +kernel, rfl, by decide +kernel, by decide +kernel⟩
abbrev s_law_ended : Stmt := topS 24
theorem sc_law_ended : FnScope ["_law_box", "_law_row_here", "_law_order", "_law_pairs", "_law_place", "_law_some"] ["_law_box", "_law_row_here"] (defScope s_law_ended) := ⟨rfl, rfl, rfl, by decide +kernel, rfl, by decide +kernel, by decide +kernel⟩
abbrev s_law_sorted_right : Stmt := topS 25
theorem sc_law_sorted_right : FnScope ["_law_box", "_law_many", "_law_row_here", "_law_order", "_law_back", "_law_due", "_law_pairs", "_law_one", "_law_ends", "_law_place", "_law_key", "_law_other"] ["_law_box", "_law_many"] (defScope s_law_sorted_right) := ⟨rfl, rfl, rfl, by decide +kernel, rfl, by decide +kernel, by decide +kernel⟩
abbrev s_law_stair_right : Stmt := topS 26
theorem sc_law_stair_right : FnScope ["_law_box", "_law_many", "_law_rise", "_law_toll", "_law_base", "_law_row_here", "_law_back", "_law_due", "_law_table", "_law_place"] ["_law_box", "_law_many"] (defScope s_law_stair_right) := ⟨rfl, rfl, rfl, by decide +kernel, rfl, by decide +kernel, by decide +kernel⟩
abbrev s_law_quiet_right : Stmt := topS 27
theorem sc_law_quiet_right : FnScope ["_law_box", "_law_many", "_law_wide", "_law_row_here", "_law_table", "_law_place"] ["_law_box", "_law_many"] (defScope s_law_quiet_right) := ⟨rfl, rfl, rfl, by decide +kernel, rfl, by decide +kernel, by decide +kernel⟩
abbrev s_law_dear_right : Stmt := topS 28
theorem sc_law_dear_right : FnScope ["_law_box", "_law_many", "_law_strengths", "_law_strength", "_law_toll", "_law_row_here", "_law_free", "_law_order", "_law_ended_here", "_law_own", "_law_at", "_law_place", "_law_other", "_law_its"] ["_law_box", "_law_many"] (defScope s_law_dear_right) := ⟨rfl, rfl, rfl, by decide +kernel, rfl, by decide +kernel, by decide +kernel⟩
abbrev s_law_strong_right : Stmt := topS 29
theorem sc_law_strong_right : FnScope ["_law_box", "_law_many", "_law_row_here", "_law_strength", "_law_at", "_law_left", "_law_ahead", "_law_own", "_law_toll", "_law_place", "_law_due", "_law_order"] ["_law_box", "_law_many"] (defScope s_law_strong_right) := ⟨rfl, rfl, rfl, by decide +kernel, rfl, by decide +kernel, by decide +kernel⟩
abbrev s_law_right : Stmt := topS 30
theorem sc_law_right : FnScope ["_law_box", "_law_turn"] ["_law_box"] (defScope s_law_right) := ⟨rfl, rfl, rfl, by decide +kernel, rfl, by decide +kernel, by decide +kernel⟩
abbrev s_law : Stmt := topS 31
theorem sc_law : FnScope ["_law_script", "_law_cells", "_law_k"] ["_law_script"] (defScope s_law) := ⟨rfl, rfl, rfl, by decide +kernel, rfl, by decide +kernel, by decide +kernel⟩
end K67
set_option maxHeartbeats 4000000
namespace K67
open PySem PySem.Spec PyProof.Rows L2 Evl HH RZ
section
variable {P : Program} {w : World} {K : PySem.W.Frag} {mg : Str → Option Value} {base : Heap}
theorem ok_pass_all {f : Addr} {fd : FuncData} (F : FnP K "pass_all" s_pass_all f fd) (g : mg "pass_all" = some (.ref f)) (b : Binds K fd ["line", "strengths", "tolls", "who"] []) (m_len : mg "len" = none) : Has P w K mg base 1 "pass_all" ["line", "strengths", "tolls", "who"] spPassAll f fd := by
  refine ⟨F.ok sc_pass_all (fun vs H Q E h => ?_) (fun cdv A outer s H vs Q E hr h => ?_), g, F.kp, b⟩
  · obtain ⟨l, sa, ta, N, S, T, who, s0, t0, rfl, _⟩ := h
    rfl
  · obtain ⟨l, sa, ta, N, S, T, who, s0, t0, rfl, hl, hs, ht, ne1, ne2, ne3, kp, hs0, ht0, hne, hN, t0nn, nfN, q⟩ := h
    refine ⟨_, PSs.nox (pss_cons (ps_set (i := 4) sc_pass_all.nd rfl (.inl rfl) (pe_callB call_len_seq (by rfl) m_len PySem.boot_len (pa_cons (pv 0) pa_nil)))
      (pss_cons (ps_while PassesOwn.never (PW.pt (pw_and (pt_cmpR op_gt (pv 4) pe_int (nomark _)) (pw_and1 (pt_cmpR op_gt (pe_op op_sub (pe_ix ix_list (pv 1) (pv 3) (fun _ _ => rfl)) (pe_ix ix_list (pv 2) (pe_ix ix_list (pv 0) (pe_op op_sub (pv 4) pe_int) (fun _ _ => rfl)) (fun _ _ => rfl))) (pe_ix ix_list (pv 1) (pe_ix ix_list (pv 0) (pe_op op_sub (pv 4) pe_int) (fun _ _ => rfl)) (fun _ _ => rfl)) (nomark _))))) (pss_cons (ps_aug (i := 4) sc_pass_all.nd rfl (.inl rfl) pe_int ip_sub)
      (pss_one (ps_augS (pv 1) (pv 3) get_listN (pe_ix ix_list (pv 2) (pe_ix ix_list (pv 0) (pv 4) (fun _ _ => rfl)) (fun _ _ => rfl)) ip_sub set_list))))
      (pss_one (ps_expr (pe_bm PySem.F.plainAttrs_list PySem.F.slot_list_insert PySem.F.type_list_insert mt_insert (pv 0) (pa_cons (pv 4) (pa_cons (pv 3) pa_nil))))))), ?_⟩
    refine q_asg (ev_len (K := K) (ev_var rfl) (sq_of hl)) fun H1 e1 => ?_
    refine q_while (fun m σ' H' => ∃ (A B : List Cow) (s : Int), m = A.length ∧ σ' = [some (.ref l), some (.ref sa), some (.ref ta), some (.int (who : Int)), some (.int (A.length : Int))] ∧ N = A ++ B ∧ Steps (N ++ [(who, (s0, t0))]) (A ++ (who, (s, t0)) :: B) ∧ (∀ b r, B = b :: r → b.2.1 < s) ∧ H' sa = some (.lst ((S.set who s).map V.int)) ∧ ExB sa H H') N.length ?_ (fun m σ' H' hW => ?_)
    · have e0 : S.set who s0 = S := by
        exact set_self hs0
      refine ⟨N, [], s0, rfl, ?_, by rw [List.append_nil], .refl _, (fun b r z => by cases z), ?_, .of e1⟩
      · show [some (V.ref l), some (.ref sa), some (.ref ta), some (.int (who : Int)), some (.int ((idsV N).length : Int))] = _
        rw [show (idsV N).length = N.length from List.length_map ..]
      · rw [e0]
        exact e1 _ _ hs
    · obtain ⟨A, B, s, rfl, rfl, hAB, st, hB, hsa, x1⟩ := hW
      have hl' := x1 _ _ ne1 hl
      have ht' := x1 _ _ (Ne.symm ne3) ht
      have hwho : (S.set who s)[who]? = some s := set_at hs0
      have fin : (∀ x, A.getLast? = some x → ¬ (s - x.2.2 > x.2.1)) → ∀ H1, Ex H' H1 → tDrop (tBM K "list" (fun x vs H Q => ∃ (l : Addr) (xs : List V) (i : Int) (y : V), x = .ref l ∧ vs = [.int i, y] ∧ H l = some (.lst xs) ∧ xs.length < sizeLine ∧ 0 ≤ i ∧ i < 2 ^ 63 ∧ Q .non (upd H l (.lst (xs.take i.toNat ++ [y] ++ xs.drop i.toNat)))) (tVar 0) (tCons (tVar 4) (tCons (tVar 3) tNil))) { nx := fun _ H' => Q .non H', rt := Q } [some (.ref l), some (.ref sa), some (.ref ta), some (.int (who : Int)), some (.int (A.length : Int))] H1 := fun hlast H1 e1 => by
        have hAl : A.length ≤ N.length := by rw [hAB, List.length_append]; omega
        refine ⟨.ref l, rfl, .inl ⟨rfl, _, sq_of (e1 _ _ hl')⟩, .int (A.length : Int), rfl, .int (who : Int), rfl, l, _, (A.length : Int), .int (who : Int), rfl, rfl, e1 _ _ hl', sz_lt (by rw [idsV_len]; omega), by omega, by omega, ?_⟩
        refine q A B s _ hAB st (nfr_in (by rw [← hAB]; exact nfN) hlast fun b r z => ?_) ?_ ?_ ?_
        · have := hB b r z
          dsimp only
          omega
        · rw [upd_same, hAB, show ((A.length : Nat) : Int).toNat = A.length from rfl, ← idsV_ins A B (who, (s, t0))]
        · rw [upd_ne (Ne.symm ne1)]
          exact e1 _ _ hsa
        · intro c o hc1 hc2 hc
          rw [upd_ne hc1]
          exact e1 _ _ (x1 _ _ hc2 hc)
      rcases List.eq_nil_or_concat A with rfl | ⟨A', x, rfl⟩
      · refine ⟨false, (et_and (a := false) (b := false) (et_is (et_test (ev_op (ev_var rfl) ev_c rv_I0)) rfl) (fun z => by cases z)), (fun z => by cases z), fun _ H1 e1 => fin (fun x z => by cases z) H1 e1⟩
      · have hxN : x ∈ N := by
          rw [hAB]
          simp
        have hlen : (A'.concat x).length = A'.length + 1 := List.length_concat ..
        have hpl : ((A'.concat x).length : Int) - 1 = (A'.length : Int) := by
          rw [hlen]
          omega
        have hNe : N = A' ++ x :: B := by
          rw [hAB]
          simp
        have gl : atI (idsV N) (A'.length : Int) = some (.int (x.1 : Int)) := atI_nat (by rw [hNe]; exact idsV_at A' B x)
        have gT : atI (T.map V.int) (x.1 : Int) = some (.int x.2.2) := atI_nat (getI (kp.t x hxN))
        have gS : atI ((S.set who s).map V.int) (x.1 : Int) = some (.int x.2.1) := atI_nat (getI (by rw [set_off (Ne.symm (hne x hxN))]; exact kp.s x hxN))
        have gW : atI ((S.set who s).map V.int) (who : Int) = some (.int s) := atI_nat (getI hwho)
        refine ⟨decide (s - x.2.2 > x.2.1), et_is (et_and (a := true) (b := decide (s - x.2.2 > x.2.1)) (et_is (et_test (ev_op (ev_var rfl) ev_c rv_I0)) (by rw [hlen]; exact decide_eq_true (by omega))) fun _ => et_test (ev_op (ev_op (ev_op (ev_var rfl) (ev_var rfl) (rv_ixL (sq_of hsa) gW)) (ev_op (ev_var rfl) (ev_op (ev_var rfl) (ev_op (ev_var rfl) ev_c rv_I0) (rv_ixL (K := K) (sq_of hl') (by rw [hpl]; exact gl))) (rv_ixL (sq_of ht') gT)) rv_I0) (ev_op (ev_var rfl) (ev_op (ev_var rfl) (ev_op (ev_var rfl) ev_c rv_I0) (rv_ixL (K := K) (sq_of hl') (by rw [hpl]; exact gl))) (rv_ixL (sq_of hsa) gS)) rv_I0)) (Bool.true_and _), fun hd H1 e1 => ?_, fun hd H1 e1 => fin (fun y z => ?_) H1 e1⟩
        · have hd := of_decide_eq_true hd
          refine ⟨fun σ2 H2 => ∃ m', m' < (A'.concat x).length ∧ ∃ (A B : List Cow) (s : Int), m' = A.length ∧ σ2 = [some (.ref l), some (.ref sa), some (.ref ta), some (.int (who : Int)), some (.int (A.length : Int))] ∧ N = A ++ B ∧ Steps (N ++ [(who, (s0, t0))]) (A ++ (who, (s, t0)) :: B) ∧ (∀ b r, B = b :: r → b.2.1 < s) ∧ H2 sa = some (.lst ((S.set who s).map V.int)) ∧ ExB sa H H2, fun σ2 H2 h => h, ?_⟩
          refine q_aug (f := fun i j => i - j) (b := 1) rfl ev_c fun H2 e2 => ?_
          rw [hpl]
          have e12 := e1.trans e2
          refine ⟨.ref sa, rfl, .int (who : Int), rfl, sa, _, who, .int s, rfl, rfl, e12 _ _ hsa, getI hwho, ?_⟩
          have ev : Ev (tOp (rIxL K) (tVar 2) (tOp (rIxL K) (tVar 0) (tVar 4))) [some (.ref l), some (.ref sa), some (.ref ta), some (.int (who : Int)), some (.int (A'.length : Int))] H2 (.int x.2.2) := ev_op (ev_var rfl) (ev_op (ev_var rfl) (ev_var rfl) (rv_ixL (sq_of (e12 _ _ hl')) gl)) (rv_ixL (sq_of (e12 _ _ ht')) gT)
          refine ev H2 (Ex.refl H2) _ fun H3 e3 => ⟨s, x.2.2, rfl, rfl, sa, _, (who : Int), who, rfl, rfl, e3 _ _ (e12 _ _ hsa), ixN_nat (by rw [List.length_map, List.length_set]; exact (List.getElem?_eq_some_iff.mp hs0).1), ?_⟩
          refine ⟨A'.length, by rw [hlen]; omega, A', x :: B, s - x.2.2, rfl, rfl, hNe, st.snoc ⟨A', B, x, (who, (s, t0)), by simp, hd, rfl⟩, fun b r z => ?_, ?_, ?_⟩
          · cases z
            omega
          · rw [upd_same, ← List.map_set, List.set_set]
          · exact (x1.trans (.of (e12.trans e3))).upd
        · have z' : x = y := by
            rw [List.concat_eq_append, List.getLast?_concat] at z
            exact Option.some.inj z
          subst z'
          exact of_decide_eq_false hd
theorem ok_fall_all {f : Addr} {fd : FuncData} (F : FnP K "fall_all" s_fall_all f fd) (g : mg "fall_all" = some (.ref f)) (b : Binds K fd ["line", "strengths", "tolls", "who"] []) (m_len : mg "len" = none) : Has P w K mg base 1 "fall_all" ["line", "strengths", "tolls", "who"] spFallAll f fd := by
  refine ⟨F.ok sc_fall_all (fun vs H Q E h => ?_) (fun cdv A outer s H vs Q E hr h => ?_), g, F.kp, b⟩
  · obtain ⟨l, sa, ta, N, S, T, who, s0, t0, rfl, _⟩ := h
    rfl
  · obtain ⟨l, sa, ta, N, S, T, who, s0, t0, rfl, hl, hs, ht, ne1, ne2, ne3, kp, hs0, ht0, hne, hN, nfN, q⟩ := h
    refine ⟨_, PSs.nox (pss_cons (ps_set (i := 4) sc_fall_all.nd rfl (.inl rfl) pe_int)
      (pss_cons (ps_while PassesOwn.never (PW.pt (pw_and (pt_cmpR op_lt (pv 4) (pe_callB call_len_seq (by rfl) m_len PySem.boot_len (pa_cons (pv 0) pa_nil)) (nomark _)) (pw_and1 (pt_cmpR op_gt (pe_ix ix_list (pv 1) (pv 3) (fun _ _ => rfl)) (pe_ix ix_list (pv 1) (pe_ix ix_list (pv 0) (pv 4) (fun _ _ => rfl)) (fun _ _ => rfl)) (nomark _))))) (pss_cons (ps_augS (pv 1) (pv 3) get_listN (pe_ix ix_list (pv 2) (pe_ix ix_list (pv 0) (pv 4) (fun _ _ => rfl)) (fun _ _ => rfl)) ip_add set_list)
      (pss_one (ps_aug (i := 4) sc_fall_all.nd rfl (.inl rfl) pe_int ip_add))))
      (pss_one (ps_expr (pe_bm PySem.F.plainAttrs_list PySem.F.slot_list_insert PySem.F.type_list_insert mt_insert (pv 0) (pa_cons (pv 4) (pa_cons (pv 3) pa_nil))))))), ?_⟩
    refine q_asg ev_c fun H1 e1 => ?_
    refine q_while (fun m σ' H' => ∃ (A B : List Cow) (s : Int), m = B.length ∧ σ' = [some (.ref l), some (.ref sa), some (.ref ta), some (.int (who : Int)), some (.int (A.length : Int))] ∧ N = A ++ B ∧ FSteps ((who, (s0, t0)) :: N) (A ++ (who, (s, t0)) :: B) ∧ (∀ x, A.getLast? = some x → x.2.1 < s) ∧ H' sa = some (.lst ((S.set who s).map V.int)) ∧ ExB sa H H') N.length ?_ (fun m σ' H' hW => ?_)
    · have e0 : S.set who s0 = S := by
        exact set_self hs0
      refine ⟨[], N, s0, rfl, rfl, rfl, .refl _, (fun x z => by cases z), ?_, .of e1⟩
      rw [e0]
      exact e1 _ _ hs
    · obtain ⟨A, B, s, rfl, rfl, hAB, st, hA, hsa, x1⟩ := hW
      have hl' := x1 _ _ ne1 hl
      have ht' := x1 _ _ (Ne.symm ne3) ht
      have hwho : (S.set who s)[who]? = some s := set_at hs0
      have hNl : N.length = A.length + B.length := by rw [hAB, List.length_append]
      have fin : (∀ b r, B = b :: r → ¬ (s > b.2.1)) → ∀ H1, Ex H' H1 → tDrop (tBM K "list" (fun x vs H Q => ∃ (l : Addr) (xs : List V) (i : Int) (y : V), x = .ref l ∧ vs = [.int i, y] ∧ H l = some (.lst xs) ∧ xs.length < sizeLine ∧ 0 ≤ i ∧ i < 2 ^ 63 ∧ Q .non (upd H l (.lst (xs.take i.toNat ++ [y] ++ xs.drop i.toNat)))) (tVar 0) (tCons (tVar 4) (tCons (tVar 3) tNil))) { nx := fun _ H' => Q .non H', rt := Q } [some (.ref l), some (.ref sa), some (.ref ta), some (.int (who : Int)), some (.int (A.length : Int))] H1 := fun hB H1 e1 => by
        refine ⟨.ref l, rfl, .inl ⟨rfl, _, sq_of (e1 _ _ hl')⟩, .int (A.length : Int), rfl, .int (who : Int), rfl, l, _, (A.length : Int), .int (who : Int), rfl, rfl, e1 _ _ hl', sz_lt (by rw [idsV_len]; omega), by omega, by omega, ?_⟩
        refine q A B s _ hAB st (ffr_in (by rw [← hAB]; exact nfN) (fun x z => ?_) hB) ?_ ?_ ?_
        · have := hA x z
          dsimp only
          omega
        · rw [upd_same, hAB, show ((A.length : Nat) : Int).toNat = A.length from rfl, ← idsV_ins A B (who, (s, t0))]
        · rw [upd_ne (Ne.symm ne1)]
          exact e1 _ _ hsa
        · intro c o hc1 hc2 hc
          rw [upd_ne hc1]
          exact e1 _ _ (x1 _ _ hc2 hc)
      have gWI : atI ((S.set who s).map V.int) (who : Int) = some (.int s) := atI_nat (getI hwho)
      cases B with
      | nil =>
        have hlen0 : (idsV N).length = A.length := by
          rw [idsV_len, hNl]
          rfl
        refine ⟨false, (et_and (a := false) (b := false) (et_is (et_test (ev_op (ev_var rfl) (ev_len (K := K) (ev_var rfl) (sq_of hl')) rv_I0)) (by rw [hlen0]; exact decide_eq_false (by omega))) (fun z => by cases z)), (fun z => by cases z), fun _ H1 e1 => fin (fun b r z => by cases z) H1 e1⟩
      | cons x B =>
        have hxN : x ∈ N := by
          rw [hAB]
          simp
        have hlen1 : (idsV N).length = A.length + (B.length + 1) := by
          rw [idsV_len, hNl]
          rfl
        have gl : atI (idsV N) (A.length : Int) = some (.int (x.1 : Int)) := atI_nat (by rw [hAB]; exact idsV_at A B x)
        have gT : atI (T.map V.int) (x.1 : Int) = some (.int x.2.2) := atI_nat (getI (kp.t x hxN))
        have gS : atI ((S.set who s).map V.int) (x.1 : Int) = some (.int x.2.1) := atI_nat (getI (by rw [set_off (Ne.symm (hne x hxN).1)]; exact kp.s x hxN))
        refine ⟨decide (s > x.2.1), et_is (et_and (a := true) (b := decide (s > x.2.1)) (et_is (et_test (ev_op (ev_var rfl) (ev_len (K := K) (ev_var rfl) (sq_of hl')) rv_I0)) (by rw [hlen1]; exact decide_eq_true (by omega))) fun _ => et_test (ev_op (ev_op (ev_var rfl) (ev_var rfl) (rv_ixL (K := K) (sq_of hsa) gWI)) (ev_op (ev_var rfl) (ev_op (ev_var rfl) (ev_var rfl) (rv_ixL (K := K) (sq_of hl') gl)) (rv_ixL (sq_of hsa) gS)) rv_I0)) (Bool.true_and _), fun hd H1 e1 => ?_, fun hd H1 e1 => fin (fun b r z => ?_) H1 e1⟩
        · have hd := of_decide_eq_true hd
          refine ⟨fun σ2 H2 => ∃ m', m' < (x :: B).length ∧ ∃ (A B : List Cow) (s : Int), m' = B.length ∧ σ2 = [some (.ref l), some (.ref sa), some (.ref ta), some (.int (who : Int)), some (.int (A.length : Int))] ∧ N = A ++ B ∧ FSteps ((who, (s0, t0)) :: N) (A ++ (who, (s, t0)) :: B) ∧ (∀ x, A.getLast? = some x → x.2.1 < s) ∧ H2 sa = some (.lst ((S.set who s).map V.int)) ∧ ExB sa H H2, fun σ2 H2 h => h, ?_⟩
          refine ⟨.ref sa, rfl, .int (who : Int), rfl, sa, _, who, .int s, rfl, rfl, e1 _ _ hsa, getI hwho, ?_⟩
          have ev : Ev (tOp (rIxL K) (tVar 2) (tOp (rIxL K) (tVar 0) (tVar 4))) [some (.ref l), some (.ref sa), some (.ref ta), some (.int (who : Int)), some (.int (A.length : Int))] H1 (.int x.2.2) := ev_op (ev_var rfl) (ev_op (ev_var rfl) (ev_var rfl) (rv_ixL (sq_of (e1 _ _ hl')) gl)) (rv_ixL (sq_of (e1 _ _ ht')) gT)
          refine ev H1 (Ex.refl H1) _ fun H3 e3 => ⟨s, x.2.2, rfl, rfl, sa, _, (who : Int), who, rfl, rfl, e3 _ _ (e1 _ _ hsa), ixN_nat (by rw [List.length_map, List.length_set]; exact (List.getElem?_eq_some_iff.mp hs0).1), ?_⟩
          refine s_aug (f := fun i j => i + j) (a := (A.length : Int)) (b := 1) rfl ev_c fun H4 e4 => ?_
          have hxnn := (hne x hxN).2
          refine ⟨B.length, Nat.lt_succ_self _, A ++ [x], B, s + x.2.2, rfl, ?_, by rw [hAB]; simp, ?_, fun y z => ?_, ?_, ?_⟩
          · rw [List.length_append]
            rfl
          · refine st.trans (.one ⟨A, B, (who, (s, t0)), x, rfl, hd, by simp⟩)
          · rw [List.getLast?_concat] at z
            cases z
            omega
          · refine e4 _ _ ?_
            rw [upd_same, ← List.map_set, List.set_set]
          · exact ((x1.trans (.of (e1.trans e3))).upd).trans (.of e4)
        · cases z
          exact of_decide_eq_false hd
theorem ok_row_and_order {f : Addr} {fd : FuncData} (F : FnP K "row_and_order" s_row_and_order f fd) (g : mg "row_and_order" = some (.ref f)) (b : Binds K fd ["line", "strengths", "tolls"] []) (m_tuple : mg "tuple" = none) : Has P w K mg base 1 "row_and_order" ["line", "strengths", "tolls"] (spRowOrderF K) f fd := by
  refine ⟨F.ok sc_row_and_order (fun vs H Q E h => ?_) (fun cdv A outer s H vs Q E hr h => ?_), g, F.kp, b⟩
  · obtain ⟨l, sa, ta, N, S, T, rfl, _⟩ := h
    rfl
  · obtain ⟨l, sa, ta, N, S, T, rfl, hl, hs, ht, kp, hN, q⟩ := h
    refine ⟨_, PSs.nox (pss_one (ps_ret (pe_tup (pa_cons (pe_tupleOf (by rfl) m_tuple (pe_lc (own := [("who", 3)]) (g := gName 3) (by rfl) sc_row_and_order.nd (pi_list (pv 0)) (blkOk_by (own := [("who", 3)]) (N := ["line", "strengths", "tolls", "who"]) (sc := defScope s_row_and_order) (by decide +kernel)) (fun _ _ _ _ _ => (pg_name (i := 3) sc_row_and_order.nd rfl (Or.inl rfl))) (fun _ _ _ _ _ => pts_nil) (fun _ _ _ _ _ => (pe_tup (pa_cons (pe_ix (ix_listK (K := K)) (pv 1) (pv 3) (fun _ _ => rfl)) (pa_cons (pe_ix (ix_listK (K := K)) (pv 2) (pv 3) (fun _ _ => rfl)) pa_nil)))))) (pa_cons (pe_tupleOfF (by rfl) m_tuple (pv 0)) pa_nil))))), ?_⟩
    refine ⟨.ref l, rfl, l, rfl, ⟨_, sq_of hl⟩, fun Dl hD => ?_⟩
    refine lc_it (walk_list (xs := idsV N)) (fun k H2 => Ex H H2 ∧ ∃ us, H2 Dl = some (.lst us) ∧ Beasts K H2 us (rowsOf (N.take k))) ⟨Ex.new hD, [], upd_same, Beasts.nil⟩ (fun k H2 _ p => sq_of (p.1 _ _ hl)) (fun k x H2 H3 hk p y => ?_) (fun H2 p => ?_)
    · obtain ⟨rfl, hx⟩ := y
      obtain ⟨p1, us, p2, p3⟩ := p
      have hk' : k < N.length := by rw [← idsV_len]; exact hk
      have hmem : N[k] ∈ N := List.getElem_mem hk'
      have hx' : x = .int (N[k].1 : Int) := by
        unfold idsV at hx
        rw [List.getElem?_map, List.getElem?_eq_getElem hk'] at hx
        exact (Option.some.inj hx).symm
      subst hx'
      refine ⟨rfl, .ref sa, rfl, .int (N[k].1 : Int), rfl, sa, _, _, .int N[k].2.1, rfl, rfl, sq_of (p1 _ _ hs), atI_nat (getI (kp.s _ hmem)), .ref ta, rfl, .int (N[k].1 : Int), rfl, ta, _, _, .int N[k].2.2, rfl, rfl, sq_of (p1 _ _ ht), atI_nat (getI (kp.t _ hmem)), by show 2 ≤ sizeLine; decide, fun TT hT => ?_⟩
      have g1 : (upd H3 TT (.tup [.int N[k].2.1, .int N[k].2.2])) Dl = some (.lst us) := Ex.new hT _ _ p2
      refine ⟨us, g1, ?_, Ex.mut (p1.trans (Ex.new hT)) hD, us ++ [.ref TT], upd_same, ?_⟩
      · rw [p3.1, cow_len, List.length_take]
        exact sz_lt (by omega)
      · have e : rowsOf (N.take (k + 1)) = rowsOf (N.take k) ++ [N[k].2] := by
          unfold rowsOf
          rw [List.take_add_one, List.getElem?_eq_getElem hk', List.map_append]
          rfl
        rw [e]
        exact ((p3.ex (Ex.new hT)).app (Beasts.one (b := N[k].2) ⟨TT, rfl, st_of upd_same⟩)).exB (ExB.refl _ _).upd g1
    · obtain ⟨p1, us, p2, p3⟩ := p
      rw [idsV_len, List.take_length] at p3
      refine .inl ⟨Dl, us, rfl, sq_of p2, fun rt hrt => ⟨.ref l, rfl, l, _, rfl, sq_of (Ex.new hrt _ _ (p1 _ _ hl)), fun ot ob plain hot => ⟨by show 2 ≤ sizeLine; decide, fun qq hqq => ?_⟩⟩⟩
      have e2 := (Ex.new (o := .tup us) hrt).trans ((Ex.new (o := .frz ob (.tup (idsV N))) hot).trans (Ex.new (o := .tup [.ref rt, .ref ot]) hqq))
      refine q qq _ (p1.trans e2) ⟨.ref rt, ot, ob, upd_same, ⟨rt, us, rfl, st_of ?_, p3.ex e2⟩, ?_, plain⟩
      · exact Ex.new hqq _ _ (Ex.new hot _ _ upd_same)
      · exact Ex.new hqq _ _ upd_same
theorem ok_last {f f1 f2 : Addr} {fd fd1 fd2 : FuncData} (F : FnP K "last" s_last f fd) (g : mg "last" = some (.ref f)) (b : Binds K fd ["row"] []) (h_pass_all : Has P w K mg base 1 "pass_all" ["line", "strengths", "tolls", "who"] spPassAll f1 fd1) (h_row_and_order : Has P w K mg base 1 "row_and_order" ["line", "strengths", "tolls"] (spRowOrderF K) f2 fd2) (m_range : mg "range" = none) (m_len : mg "len" = none) :
    Has P w K mg base 2 "last" ["row"] (spLastF K) f fd := by
  refine ⟨F.ok sc_last (fun vs H Q E h => ?_) (fun cdv A outer s H vs Q E hr h => ?_), g, F.kp, b⟩
  · obtain ⟨v, rs, rfl, _⟩ := h
    rfl
  · obtain ⟨v, rs, rfl, hv, hl, ht, q⟩ := h
    refine ⟨_, PSs.nox (pss_cons (ps_setLc (i := 1) (own := [("strength", 5), ("toll", 6)]) (g := gTup K 2 (gCons (gName 5) (gCons (gName 6) gNil))) (by rfl) sc_last.nd rfl rfl (sw_true rfl rfl rfl (by decide +kernel)) (pi_tup (pv 0)) (blkOk_by (own := [("strength", 5), ("toll", 6)]) (N := ["row", "strengths", "tolls", "line", "who", "strength", "toll"]) (sc := defScope s_last) (by decide +kernel)) (fun _ _ _ _ _ => (pg_tup rfl (pgs_cons (pg_name (i := 5) sc_last.nd rfl (Or.inl rfl)) (pgs_cons (pg_name (i := 6) sc_last.nd rfl (Or.inl rfl)) pgs_nil)))) (fun _ _ _ _ _ => pts_nil) (fun _ _ _ _ _ => (pv 5)))
      (pss_cons (ps_setLc (i := 2) (own := [("strength", 5), ("toll", 6)]) (g := gTup K 2 (gCons (gName 5) (gCons (gName 6) gNil))) (by rfl) sc_last.nd rfl rfl (sw_true rfl rfl rfl (by decide +kernel)) (pi_tup (pv 0)) (blkOk_by (own := [("strength", 5), ("toll", 6)]) (N := ["row", "strengths", "tolls", "line", "who", "strength", "toll"]) (sc := defScope s_last) (by decide +kernel)) (fun _ _ _ _ _ => (pg_tup rfl (pgs_cons (pg_name (i := 5) sc_last.nd rfl (Or.inl rfl)) (pgs_cons (pg_name (i := 6) sc_last.nd rfl (Or.inl rfl)) pgs_nil)))) (fun _ _ _ _ _ => pts_nil) (fun _ _ _ _ _ => (pv 6)))
      (pss_cons (ps_set (i := 3) sc_last.nd rfl (.inl rfl) (pe_lst pa_nil))
      (pss_cons (ps_for PassesOwn.never rfl (pi_range1 (by rfl) m_range (pa_cons (pe_callB call_len_seq (by rfl) m_len PySem.boot_len (pa_cons (pv 0) pa_nil)) pa_nil)) (pg_name (i := 4) sc_last.nd rfl (Or.inl rfl))
        (pss_one (ps_expr (pe_call h_pass_all.G (hr.mono (by decide)) (by rfl) h_pass_all.g h_pass_all.kp h_pass_all.b .nil pass0 (pa_cons (pv 3) (pa_cons (pv 1) (pa_cons (pv 2) (pa_cons (pv 4) pa_nil))))))))
      (pss_one (ps_ret (pe_call h_row_and_order.G (hr.mono (by decide)) (by rfl) h_row_and_order.g h_row_and_order.kp h_row_and_order.b .nil pass0 (pa_cons (pv 3) (pa_cons (pv 1) (pa_cons (pv 2) pa_nil)))))))))), ?_⟩
    refine q_asgL (el_unzip true hv hl (ev_var rfl) (fun x y => rfl) (fun x y => rfl)) fun sa H1 hsa e1 h1 => ?_
    refine q_asgL (el_unzip false (hv.ex e1) hl (ev_var rfl) (fun x y => rfl) (fun x y => rfl)) fun ta H2 hta e2 h2 => ?_
    refine q_asgL (el_lst ea_nil (by show 0 ≤ 100000; decide)) fun l H3 hl3 e3 h3 => ?_
    have h1' : H3 sa = some (.lst ((rs.map (·.1)).map V.int)) := by
      rw [List.map_map]
      exact e3 _ _ (e2 _ _ h1)
    have h2' : H3 ta = some (.lst ((rs.map (·.2)).map V.int)) := by
      rw [List.map_map]
      exact e3 _ _ h2
    have ne3 : sa ≠ ta := ne_of_none h1 hta
    have ne1 : l ≠ sa := (ne_of_none (e2 _ _ h1) hl3).symm
    have ne2 : l ≠ ta := (ne_of_none h2 hl3).symm
    have e123 := (e1.trans e2).trans e3
    have fl : H l = none := fresh_back (e1.trans e2) hl3
    have fs : H sa = none := hsa
    have hlen0 : (rs.map (·.1)).length = rs.length := List.length_map ..
    refine q_forR1 (n := (rs.length : Int)) (ea_cons (ev_lenR (ev_var rfl) (hv.ex e123)) ea_nil) (by omega) (fun k σ' H' => ∃ (y : Option V) (y5 y6 : Option V) (N : List Cow) (S : List Int), σ' = [some v, some (.ref sa), some (.ref ta), some (.ref l), y, y5, y6] ∧ H' l = some (.lst (idsV N)) ∧ H' sa = some (.lst (S.map V.int)) ∧ H' ta = some (.lst ((rs.map (·.2)).map V.int)) ∧ Kept S (rs.map (·.2)) N ∧ (∀ j, k ≤ j → S[j]? = (rs.map (·.1))[j]?) ∧ (∀ x ∈ N, x.1 < k) ∧ N.length = k ∧ NfR N ∧ Steps (tag 0 rs) (N ++ tag k (rs.drop k)) ∧ Ex H H') (fun H4 e4 => ?_) (fun k σ' H4 hk hW => ?_) (fun σ' H4 hW => ?_)
    · refine ⟨none, none, none, [], rs.map (·.1), rfl, e4 _ _ h3, e4 _ _ h1', e4 _ _ h2', ⟨(fun x z => by cases z), (fun x z => by cases z)⟩, fun j _ => rfl, (fun x z => by cases z), rfl, True.intro, .refl _, e123.trans e4⟩
    · obtain ⟨y, y5, y6, N, S, rfl, w1, w2, w3, w4, w5, w6, w7, w8, w9, w10⟩ := hW
      have hk' : k < rs.length := by omega
      have gk := List.getElem?_eq_getElem hk'
      obtain ⟨g1, g2⟩ := rows_get rs k _ gk
      refine ⟨.ref l, rfl, .ref sa, rfl, .ref ta, rfl, .int (k : Int), rfl, l, sa, ta, N, S, rs.map (·.2), k, rs[k].1, rs[k].2, rfl, w1, w2, w3, ne1, ne2, ne3, w4, by rw [w5 k (Nat.le_refl _)]; exact g1, g2, fun x hx => by have := w6 x hx; omega, by omega, ht _ (List.getElem_mem hk'), w8, fun A B s5 H5 hAB st nf h5 h6 x5 => ?_⟩
      have hSk : S[k]? = some rs[k].1 := by
        rw [w5 k (Nat.le_refl _)]
        exact g1
      have hmem : ∀ x ∈ A ++ (k, (s5, rs[k].2)) :: B, x = (k, (s5, rs[k].2)) ∨ x ∈ N := fun x hx => by
        rw [hAB]
        rcases List.mem_append.mp hx with h | h
        · exact .inr (List.mem_append_left _ h)
        · rcases List.mem_cons.mp h with h | h
          · exact .inl h
          · exact .inr (List.mem_append_right _ h)
      refine ⟨_, y5, y6, A ++ (k, (s5, rs[k].2)) :: B, S.set k s5, rfl, h5, h6, x5 _ _ (Ne.symm ne2) (Ne.symm ne3) w3, ⟨fun x hx => ?_, fun x hx => ?_⟩, fun j hj => ?_, fun x hx => ?_, ?_, nf, ?_, fun c o hc => ?_⟩
      · rcases hmem x hx with rfl | hx
        · exact set_at hSk
        · rw [set_off (by have := w6 x hx; omega)]
          exact w4.s x hx
      · rcases hmem x hx with rfl | hx
        · exact g2
        · exact w4.t x hx
      · rw [set_off (by omega)]
        exact w5 j (by omega)
      · rcases hmem x hx with rfl | hx
        · exact Nat.lt_succ_self _
        · have := w6 x hx
          omega
      · have e0 := w7
        rw [hAB, List.length_append] at e0
        rw [List.length_append, List.length_cons]
        omega
      · have e0 := tag_split 0 k rs _ gk
        rw [Nat.zero_add] at e0
        rw [e0] at w9
        refine w9.trans ?_
        have := st.under [] (tag (k + 1) (rs.drop (k + 1)))
        simpa using this
      · refine x5 c o (fun z => ?_) (fun z => ?_) (w10 _ _ hc)
        · subst z
          rw [fl] at hc
          cases hc
        · subst z
          rw [fs] at hc
          cases hc
    · obtain ⟨y, y5, y6, N, S, rfl, w1, w2, w3, w4, w5, w6, w7, w8, w9, w10⟩ := hW
      refine ⟨.ref l, rfl, .ref sa, rfl, .ref ta, rfl, l, sa, ta, N, S, rs.map (·.2), rfl, w1, w2, w3, w4, by omega, fun qq H5 e5 la => q qq H5 N (w10.trans e5) la ?_ w8⟩
      rw [show ((rs.length : Int)).toNat = rs.length from rfl, List.drop_length] at w9
      have e0 : tag rs.length [] = [] := rfl
      rw [e0, List.append_nil] at w9
      exact w9
theorem ok_first {f f1 f2 : Addr} {fd fd1 fd2 : FuncData} (F : FnP K "first" s_first f fd) (g : mg "first" = some (.ref f)) (b : Binds K fd ["row"] []) (h_fall_all : Has P w K mg base 1 "fall_all" ["line", "strengths", "tolls", "who"] spFallAll f1 fd1) (h_row_and_order : Has P w K mg base 1 "row_and_order" ["line", "strengths", "tolls"] (spRowOrderF K) f2 fd2) (m_range : mg "range" = none) (m_len : mg "len" = none) (m_reversed : mg "reversed" = none) :
    Has P w K mg base 2 "first" ["row"] (spFirstF K) f fd := by
  refine ⟨F.ok sc_first (fun vs H Q E h => ?_) (fun cdv A outer s H vs Q E hr h => ?_), g, F.kp, b⟩
  · obtain ⟨v, rs, rfl, _⟩ := h
    rfl
  · obtain ⟨v, rs, rfl, hv, hl, ht, q⟩ := h
    refine ⟨_, PSs.nox (pss_cons (ps_setLc (i := 1) (own := [("strength", 5), ("toll", 6)]) (g := gTup K 2 (gCons (gName 5) (gCons (gName 6) gNil))) (by rfl) sc_first.nd rfl rfl (sw_true rfl rfl rfl (by decide +kernel)) (pi_tup (pv 0)) (blkOk_by (own := [("strength", 5), ("toll", 6)]) (N := ["row", "strengths", "tolls", "line", "who", "strength", "toll"]) (sc := defScope s_first) (by decide +kernel)) (fun _ _ _ _ _ => (pg_tup rfl (pgs_cons (pg_name (i := 5) sc_first.nd rfl (Or.inl rfl)) (pgs_cons (pg_name (i := 6) sc_first.nd rfl (Or.inl rfl)) pgs_nil)))) (fun _ _ _ _ _ => pts_nil) (fun _ _ _ _ _ => (pv 5)))
      (pss_cons (ps_setLc (i := 2) (own := [("strength", 5), ("toll", 6)]) (g := gTup K 2 (gCons (gName 5) (gCons (gName 6) gNil))) (by rfl) sc_first.nd rfl rfl (sw_true rfl rfl rfl (by decide +kernel)) (pi_tup (pv 0)) (blkOk_by (own := [("strength", 5), ("toll", 6)]) (N := ["row", "strengths", "tolls", "line", "who", "strength", "toll"]) (sc := defScope s_first) (by decide +kernel)) (fun _ _ _ _ _ => (pg_tup rfl (pgs_cons (pg_name (i := 5) sc_first.nd rfl (Or.inl rfl)) (pgs_cons (pg_name (i := 6) sc_first.nd rfl (Or.inl rfl)) pgs_nil)))) (fun _ _ _ _ _ => pts_nil) (fun _ _ _ _ _ => (pv 6)))
      (pss_cons (ps_set (i := 3) sc_first.nd rfl (.inl rfl) (pe_lst pa_nil))
      (pss_cons (ps_for PassesOwn.never rfl (pi_revR (by rfl) m_reversed (prg_1 (by rfl) m_range (pe_callB call_len_seq (by rfl) m_len PySem.boot_len (pa_cons (pv 0) pa_nil)))) (pg_name (i := 4) sc_first.nd rfl (Or.inl rfl))
        (pss_one (ps_expr (pe_call h_fall_all.G (hr.mono (by decide)) (by rfl) h_fall_all.g h_fall_all.kp h_fall_all.b .nil pass0 (pa_cons (pv 3) (pa_cons (pv 1) (pa_cons (pv 2) (pa_cons (pv 4) pa_nil))))))))
      (pss_one (ps_ret (pe_call h_row_and_order.G (hr.mono (by decide)) (by rfl) h_row_and_order.g h_row_and_order.kp h_row_and_order.b .nil pass0 (pa_cons (pv 3) (pa_cons (pv 1) (pa_cons (pv 2) pa_nil)))))))))), ?_⟩
    refine q_asgL (el_unzip true hv hl (ev_var rfl) (fun x y => rfl) (fun x y => rfl)) fun sa H1 hsa e1 h1 => ?_
    refine q_asgL (el_unzip false (hv.ex e1) hl (ev_var rfl) (fun x y => rfl) (fun x y => rfl)) fun ta H2 hta e2 h2 => ?_
    refine q_asgL (el_lst ea_nil (by show 0 ≤ 100000; decide)) fun l H3 hl3 e3 h3 => ?_
    have h1' : H3 sa = some (.lst ((rs.map (·.1)).map V.int)) := by
      rw [List.map_map]
      exact e3 _ _ (e2 _ _ h1)
    have h2' : H3 ta = some (.lst ((rs.map (·.2)).map V.int)) := by
      rw [List.map_map]
      exact e3 _ _ h2
    have ne3 : sa ≠ ta := ne_of_none h1 hta
    have ne1 : l ≠ sa := (ne_of_none (e2 _ _ h1) hl3).symm
    have ne2 : l ≠ ta := (ne_of_none h2 hl3).symm
    have e123 := (e1.trans e2).trans e3
    have fl : H l = none := fresh_back (e1.trans e2) hl3
    have fs : H sa = none := hsa
    have hlen0 : (rs.map (·.1)).length = rs.length := List.length_map ..
    refine q_forRev (n := rs.length) (ev_lenR (ev_var rfl) (hv.ex e123)) (by omega) (fun i σ' H' => ∃ (y y5 y6 : Option V) (N : List Cow) (S : List Int), σ' = [some v, some (.ref sa), some (.ref ta), some (.ref l), y, y5, y6] ∧ H' l = some (.lst (idsV N)) ∧ H' sa = some (.lst (S.map V.int)) ∧ H' ta = some (.lst ((rs.map (·.2)).map V.int)) ∧ Kept S (rs.map (·.2)) N ∧ (∀ j, j < rs.length - i → S[j]? = (rs.map (·.1))[j]?) ∧ (∀ x ∈ N, rs.length - i ≤ x.1) ∧ N.length = i ∧ FfR N ∧ FSteps (tag 0 rs) (tag 0 (rs.take (rs.length - i)) ++ N) ∧ Ex H H') (fun H3' e3' => ?_) (fun i σ' H4 hi hW => ?_) (fun σ' H4 hW => ?_)
    · refine ⟨none, none, none, [], rs.map (·.1), rfl, e3' _ _ h3, e3' _ _ h1', e3' _ _ h2', ⟨(fun x z => by cases z), (fun x z => by cases z)⟩, fun j _ => rfl, (fun x z => by cases z), rfl, True.intro, ?_, e123.trans e3'⟩
      rw [Nat.sub_zero, List.take_length, List.append_nil]
      exact .refl _
    · obtain ⟨y, y5, y6, N, S, rfl, w1, w2, w3, w4, w5, w6, w7, w8, w9, w10⟩ := hW
      obtain ⟨k, hk⟩ : ∃ k, rs.length - i = k + 1 := ⟨rs.length - i - 1, by omega⟩
      have hk2 : rs.length - (i + 1) = k := by omega
      have hk' : k < rs.length := by omega
      rw [show rs.length - 1 - i = k by omega]
      have gk := List.getElem?_eq_getElem hk'
      obtain ⟨g1, g2⟩ := rows_get rs k _ gk
      have hSk : S[k]? = some rs[k].1 := by
        rw [w5 k (by omega)]
        exact g1
      have hnn : ∀ x ∈ N, x.1 ≠ k ∧ 0 ≤ x.2.2 := fun x hx => by
        refine ⟨by have := w6 x hx; omega, ?_⟩
        have := w4.t x hx
        rw [List.getElem?_map] at this
        obtain ⟨bb, hb1, hb2⟩ := Option.map_eq_some_iff.mp this
        rw [← hb2]
        exact ht bb (List.mem_of_getElem? hb1)
      refine ⟨.ref l, rfl, .ref sa, rfl, .ref ta, rfl, .int (k : Int), rfl, l, sa, ta, N, S, rs.map (·.2), k, rs[k].1, rs[k].2, rfl, w1, w2, w3, ne1, ne2, ne3, w4, hSk, g2, hnn, by omega, w8, fun A B s5 H5 hAB st nf h5 h6 x5 => ?_⟩
      have hmem : ∀ x ∈ A ++ (k, (s5, rs[k].2)) :: B, x = (k, (s5, rs[k].2)) ∨ x ∈ N := fun x hx => by
        rw [hAB]
        rcases List.mem_append.mp hx with h | h
        · exact .inr (List.mem_append_left _ h)
        · rcases List.mem_cons.mp h with h | h
          · exact .inl h
          · exact .inr (List.mem_append_right _ h)
      refine ⟨_, y5, y6, A ++ (k, (s5, rs[k].2)) :: B, S.set k s5, rfl, h5, h6, x5 _ _ (Ne.symm ne2) (Ne.symm ne3) w3, ⟨fun x hx => ?_, fun x hx => ?_⟩, fun j hj => ?_, fun x hx => ?_, ?_, nf, ?_, fun c o hc => ?_⟩
      · rcases hmem x hx with rfl | hx
        · exact set_at hSk
        · rw [set_off (by have := w6 x hx; omega)]
          exact w4.s x hx
      · rcases hmem x hx with rfl | hx
        · exact g2
        · exact w4.t x hx
      · rw [set_off (by omega)]
        exact w5 j (by omega)
      · rcases hmem x hx with rfl | hx
        · dsimp only
          omega
        · have := w6 x hx
          omega
      · have e0 := w7
        rw [hAB, List.length_append] at e0
        rw [List.length_append, List.length_cons]
        omega
      · rw [hk, tag_take gk] at w9
        rw [hk2]
        refine w9.trans ?_
        have := st.under (tag 0 (rs.take k)) []
        simpa using this
      · refine x5 c o (fun z => ?_) (fun z => ?_) (w10 _ _ hc)
        · subst z
          rw [fl] at hc
          cases hc
        · subst z
          rw [fs] at hc
          cases hc
    · obtain ⟨y, y5, y6, N, S, rfl, w1, w2, w3, w4, w5, w6, w7, w8, w9, w10⟩ := hW
      refine ⟨.ref l, rfl, .ref sa, rfl, .ref ta, rfl, l, sa, ta, N, S, rs.map (·.2), rfl, w1, w2, w3, w4, by omega, fun qq H5 e5 la => q qq H5 N (w10.trans e5) la ?_ w8⟩
      rw [Nat.sub_self] at w9
      exact w9
theorem ok_places_of {f : Addr} {fd : FuncData} (F : FnP K "places_of" s_places_of f fd) (g : mg "places_of" = some (.ref f)) (b : Binds K fd ["order"] []) (m_enumerate : mg "enumerate" = none) : Has P w K mg base 1 "places_of" ["order"] (spPlaces K) f fd := by
  refine ⟨F.ok sc_places_of (fun vs H Q E h => ?_) (fun cdv A outer s H vs Q E hr h => ?_), g, F.kp, b⟩
  · obtain ⟨o, l, rfl, _⟩ := h
    rfl
  · obtain ⟨o, l, rfl, ho, nd, hl, q⟩ := h
    have hu := room_u1 hr
    refine ⟨_, PSs.nox (pss_one (ps_ret (pe_dc (own := [("place", 1), ("who", 2)]) (g := gTup K 2 (gCons (gName 1) (gCons (gName 2) gNil))) (by rfl) sc_places_of.nd (pi_enumT (by rfl) m_enumerate (pa_cons (pv 0) pa_nil)) (blkOk_by (own := [("place", 1), ("who", 2)]) (N := ["order", "place", "who"]) (sc := defScope s_places_of) (by decide +kernel)) (fun _ _ _ _ _ => (pg_tup rfl (pgs_cons (pg_name (i := 1) sc_places_of.nd rfl (Or.inl rfl)) (pgs_cons (pg_name (i := 2) sc_places_of.nd rfl (Or.inl rfl)) pgs_nil)))) (fun _ _ _ _ _ => pts_nil) (fun _ _ _ _ _ => (pv 2)) (fun _ _ _ _ _ => (pv 1))))), ?_⟩
    have hlen : (natsV l).length = l.length := List.length_map ..
    have hget : ∀ k x : Nat, l[k]? = some x → (natsV l)[k]? = some (V.int (x : Int)) := fun k x h => by
      unfold natsV
      rw [List.getElem?_map, h]
      rfl
    refine ⟨.ref o, rfl, o, _, rfl, ho, fun Dd hDd => ?_⟩
    refine in_it (walk_enumT (xs := natsV l)) (fun k H2 => Ex H H2 ∧ ∃ kvs, H2 Dd = some (.dK kvs) ∧ PlacesD l k kvs) ⟨Ex.new hDd, [], upd_same, ⟨(fun i x hi => absurd hi (Nat.not_lt_zero _)), Nat.le_refl _⟩⟩ (fun k H2 _ p => ex_t p.1 ho) (fun k x H2 H3 hk p y => ?_) (fun H2 p => ?_)
    · obtain ⟨p1, kvs, p2, p3⟩ := p
      obtain ⟨T, x1, x2, rfl, hT, rfl, hx1, hx2⟩ := y
      have hk' : k < l.length := by rw [← hlen]; exact hk
      cases hx1
      have hx2 : (natsV l)[k]? = some x2 := hx2
      rw [hget k _ (List.getElem?_eq_getElem hk')] at hx2
      cases hx2
      have e3 : Ex H2 (upd H2 T (.tup [.int (k : Int), .int (l[k] : Int)])) := Ex.new hT
      refine ⟨T, _, rfl, st_of upd_same, rfl, _, _, rfl, _, _, rfl, rfl, rfl, ?_⟩
      refine ⟨.int (l[k] : Int), rfl, .int (k : Int), rfl, kvs, .inl (l[k] : Int), rfl, e3 _ _ p2, ?_, ?_, _, upd_same, p3.put nd (List.getElem?_eq_getElem hk')⟩
      · have := p3.few
        exact sz_lt (by omega)
      · exact Ex.mut (p1.trans e3) hDd
    · obtain ⟨p1, kvs, p2, p3⟩ := p
      rw [hlen] at p3
      exact q Dd kvs H2 hDd p1 p2 p3
theorem ok_turned_about {f f1 : Addr} {fd fd1 : FuncData} (F : FnP K "turned_about" s_turned_about f fd) (g : mg "turned_about" = some (.ref f)) (b : Binds K fd ["order"] []) (h_places_of : Has P w K mg base 1 "places_of" ["order"] (spPlaces K) f1 fd1) (m_len : mg "len" = none) (m_range : mg "range" = none) : Has P w K mg base 2 "turned_about" ["order"] (spTurnedT K) f fd := by
  refine ⟨F.ok sc_turned_about (fun vs H Q E h => ?_) (fun cdv A outer s H vs Q E hr h => ?_), g, F.kp, b⟩
  · obtain ⟨o, l, rfl, _⟩ := h
    rfl
  · obtain ⟨o, l, rfl, ho, nd, hall, hl, q⟩ := h
    have hu := room_u1 hr
    refine ⟨_, PSs.nox (pss_cons (ps_set (i := 1) sc_turned_about.nd rfl (.inr rfl) (pe_call h_places_of.G (hr.mono (by decide)) (by rfl) h_places_of.g h_places_of.kp h_places_of.b .nil pass0 (pa_cons (pv 0) pa_nil)))
      (pss_cons (ps_set (i := 2) sc_turned_about.nd rfl (.inr rfl) (pe_callB call_len_seq (by rfl) m_len PySem.boot_len (pa_cons (pv 0) pa_nil)))
      (pss_one (ps_ret (pe_lc2 (own := [("one", 3), ("other", 4)]) (vs1 := [4]) (g := gName 3) (g1 := gName 4) (by rfl) sc_turned_about.nd (pi_range1 (by rfl) m_range (pa_cons (pv 2) pa_nil)) (blkOk_by (own := [("one", 3), ("other", 4)]) (N := ["order", "place_of", "many", "one", "other"]) (sc := defScope s_turned_about) (by decide +kernel)) (by decide) (fun _ _ _ _ _ => (pg_name (i := 3) sc_turned_about.nd rfl (Or.inl rfl))) (fun _ _ _ _ _ => pts_nil) (fun _ _ _ _ _ => (pi_range2 (by rfl) m_range (pa_cons (pe_op op_add (pv 3) pe_int) (pa_cons (pv 2) pa_nil)))) (fun _ _ _ _ _ => (pg_name (i := 4) sc_turned_about.nd rfl (Or.inl rfl))) (fun _ _ _ _ _ => (pts_one (pt_cmpR op_lt (pe_dget hu (pv 1) (pv 4) (fun _ _ => rfl)) (pe_dget hu (pv 1) (pv 3) (fun _ _ => rfl)) (nomark _)))) (fun _ _ _ _ _ => (pe_tup (pa_cons (pv 3) (pa_cons (pv 4) pa_nil))))))))), ?_⟩
    have hlen : (natsV l).length = l.length := List.length_map ..
    refine ⟨.ref o, rfl, o, l, rfl, ho, nd, hl, fun Dd kvs H2 hDd p1 p2 p3 => ?_⟩
    refine q_asg (ev_lenT (K := K) (ev_var rfl) (ex_t p1 ho)) fun H3 e3 => ?_
    rw [hlen]
    have p2' := e3 _ _ p2
    have x13 := p1.trans e3
    have hpl : ∀ j : Nat, j < l.length → ∃ p : Nat, l[p]? = some j ∧ valV kvs (.inl (j : Int)) = some (.int (p : Int)) := fun j hj => by
      obtain ⟨p, hp⟩ := List.getElem?_of_mem (hall j hj)
      exact ⟨p, hp, p3.at' p j (List.getElem?_eq_some_iff.mp hp).1 hp⟩
    refine ⟨.int (l.length : Int), rfl, (l.length : Int), rfl, by omega, by omega, fun Dl hDl => ?_⟩
    refine in_it walk_range (fun i H4 => Ex H3 H4 ∧ ∃ us, H4 Dl = some (.lst us) ∧ BeastsT H4 us (tab l l.length i)) ⟨Ex.new hDl, [], upd_same, All2.nil⟩ (fun _ _ _ _ => True.intro) (fun i x H4 H5 hi p y => ?_) (fun H4 p => ?_)
    · obtain ⟨rfl, hx⟩ := y
      have hx : x = V.int ((0 : Int) + (i : Int)) := hx
      rw [Int.zero_add] at hx
      subst hx
      obtain ⟨r1, us, r2, r3⟩ := p
      have hi' : i < l.length := by omega
      obtain ⟨pi, hpi, hvi⟩ := hpl i hi'
      refine ⟨rfl, ?_⟩
      refine t_yes ?_
      refine i_rng2 (i := (i : Int) + 1) (j := (l.length : Int)) (ea_cons (ev_op (ev_var rfl) ev_c rv_I0) (ea_cons (ev_var rfl) ea_nil)) ⟨by omega, by omega, by omega, by omega⟩ fun H6 e6 => ?_
      have hn : (((l.length : Nat) : Int) - ((i : Int) + 1)).toNat = l.length - (i + 1) := by omega
      rw [hn]
      refine in_it walk_range (fun j H7 => Ex H3 H7 ∧ ∃ us, H7 Dl = some (.lst us) ∧ BeastsT H7 us (tab l l.length i ++ tabR l l.length i j)) ⟨r1.trans e6, us, e6 _ _ r2, by
          show BeastsT H6 us (tab l l.length i ++ [])
          rw [List.append_nil]
          exact BeastsT.ex' r3 e6⟩ (fun _ _ _ _ => True.intro) (fun j x H7 H8 hj p y => ?_) (fun H7 p => ?_)
      · obtain ⟨rfl, hx⟩ := y
        have ej : (i : Int) + 1 + (j : Int) = ((i + 1 + j : Nat) : Int) := by omega
        have hx : x = V.int ((i : Int) + 1 + (j : Int)) := hx
        rw [ej] at hx
        subst hx
        obtain ⟨s1, us, s2, s3⟩ := p
        obtain ⟨pj, hpj, hvj⟩ := hpl (i + 1 + j) (by omega)
        have d8 := s1 _ _ p2'
        refine ⟨rfl, ?_⟩
        refine t_ev (b := decide ((pj : Int) < (pi : Int))) (et_test (ev_op (ev_dget (k := .inl ((i + 1 + j : Nat) : Int)) (ev_var rfl) (ev_var rfl) d8 hvj) (ev_dget (k := .inl (i : Int)) (ev_var rfl) (ev_var rfl) d8 hvi) rv_I0)) fun H9 e9 => ?_
        have hb : decide ((pj : Int) < (pi : Int)) = inP l i j := by
          unfold inP
          rw [bef_iff nd hpj hpi]
          by_cases h : pj < pi
          · rw [decide_eq_true h, decide_eq_true (by omega)]
          · rw [decide_eq_false h, decide_eq_false (by omega)]
        rw [hb]
        have e10 := tabR_succ l l.length i j
        cases hin : inP l i j with
        | true =>
          rw [hin, if_pos rfl] at e10
          refine ⟨_, rfl, _, rfl, by show 2 ≤ sizeLine; decide, fun TT hT => ?_⟩
          have g1 : (upd H9 TT (.tup [.int (i : Int), .int ((i + 1 + j : Nat) : Int)])) Dl = some (.lst us) := Ex.new hT _ _ (e9 _ _ s2)
          refine ⟨us, g1, ?_, Ex.mut ((s1.trans e9).trans (Ex.new hT)) hDl, us ++ [.ref TT], upd_same, ?_⟩
          · rw [All2.len s3, List.length_append]
            have h1 := tab_len l l.length i
            have h2 := tabR_len l l.length i j
            have h3 : i * l.length ≤ 30 * 30 := Nat.mul_le_mul (by omega) hl
            exact sz_lt (by omega)
          · rw [e10, ← List.append_assoc]
            exact BeastsT.exB' (All2.app (BeastsT.ex' (BeastsT.ex' s3 e9) (Ex.new hT)) (.cons ⟨TT, rfl, upd_same⟩ .nil)) (ExB.refl _ _).upd g1
        | false =>
          rw [hin, if_neg (by decide), List.append_nil] at e10
          refine ⟨s1.trans e9, us, e9 _ _ s2, ?_⟩
          rw [e10]
          exact BeastsT.ex' s3 e9
      · obtain ⟨s1, us, s2, s3⟩ := p
        rw [← tab_succ] at s3
        exact ⟨s1, us, s2, s3⟩
    · obtain ⟨r1, us, r2, r3⟩ := p
      exact q Dl us H4 (fresh_back x13 hDl) (x13.trans r1) r2 r3
theorem ok_passings {f f1 f2 : Addr} {fd fd1 fd2 : FuncData} (F : FnP K "passings" s_passings f fd) (g : mg "passings" = some (.ref f)) (b : Binds K fd ["row"] []) (h_turned_about : Has P w K mg base 2 "turned_about" ["order"] (spTurnedT K) f1 fd1) (h_last : Has P w K mg base 2 "last" ["row"] (spLastF K) f2 fd2) :
    Has P w K mg base 3 "passings" ["row"] (spPairsT K toLast) f fd := by
  refine ⟨F.ok sc_passings (fun vs H Q E h => ?_) (fun cdv A outer s H vs Q E hr h => ?_), g, F.kp, b⟩
  · obtain ⟨v, rs, rfl, _⟩ := h
    rfl
  · obtain ⟨v, rs, rfl, hv, hl, ht, q⟩ := h
    refine ⟨_, PSs.nox (pss_one (ps_ret (pe_call h_turned_about.G (hr.mono (by decide)) (by rfl) h_turned_about.g h_turned_about.kp h_turned_about.b .nil pass0 (pa_cons (pe_ix ix_tup (pe_call h_last.G (hr.mono (by decide)) (by rfl) h_last.g h_last.kp h_last.b .nil pass0 (pa_cons (pv 0) pa_nil)) pe_int (fun _ _ => rfl)) pa_nil)))), ?_⟩
    refine ⟨v, rfl, v, rs, rfl, hv, by omega, ht, fun q1 H1 L e1 la st nf => ?_⟩
    obtain ⟨v1, ot, ob, a1, a2, a3, _⟩ := la.ex
    have ids := st.ids
    rw [tag_ids] at ids
    have len : (L.map (·.1)).length = rs.length := by rw [ids.length_eq, List.length_range]
    refine ⟨q1, _, 1, .ref ot, rfl, rfl, st_of a1, rfl, ?_⟩
    refine ⟨ot, L.map (·.1), rfl, by rw [← ordL_nats]; exact .inl (.inr ⟨ob, a3⟩), ids.nodup_iff.mpr List.nodup_range, fun x hx => ids.mem_iff.mpr (List.mem_range.mpr (by omega)), by omega, fun q2 us H2 hq2 e2 h2 h3 => ?_⟩
    rw [len] at h3
    exact q q2 us L H2 ⟨st, nf⟩ (fresh_back e1 hq2) (e1.trans e2) h2 h3
theorem ok_never_pass {f : Addr} {fd : FuncData} (F : FnP K "never_pass" s_never_pass f fd) (g : mg "never_pass" = some (.ref f)) (b : Binds K fd ["row", "one"] []) (m_range : mg "range" = none) (m_len : mg "len" = none) : Has P w K mg base 1 "never_pass" ["row", "one"] (spNeverPass K) f fd := by
  refine ⟨F.ok sc_never_pass (fun vs H Q E h => ?_) (fun cdv A outer s H vs Q E hr h => ?_), g, F.kp, b⟩
  · obtain ⟨v, rs, i, rfl, _⟩ := h
    rfl
  · obtain ⟨v, rs, i, rfl, hv, hl, hi, q⟩ := h
    refine ⟨_, PSs.nox (pss_cons (ps_asg (pe_ix ix_tup (pv 0) (pv 1) (fun _ _ => rfl)) (pg_tup rfl (pgs_cons (pg_name (i := 2) sc_never_pass.nd rfl (Or.inl rfl)) (pgs_cons (pg_name (i := 3) sc_never_pass.nd rfl (Or.inl rfl)) pgs_nil))))
      (pss_cons (ps_set (i := 4) sc_never_pass.nd rfl (.inl rfl) (pe_op op_add (pv 2) (pv 3)))
      (pss_cons (ps_set (i := 5) sc_never_pass.nd rfl (.inl rfl) (pe_lst pa_nil))
      (pss_cons (ps_for PassesOwn.never rfl (pi_range2 (by rfl) m_range (pa_cons (pe_op op_add (pv 1) pe_int) (pa_cons (pe_callB call_len_seq (by rfl) m_len PySem.boot_len (pa_cons (pv 0) pa_nil)) pa_nil))) (pg_name (i := 6) sc_never_pass.nd rfl (Or.inl rfl))
        (pss_one (ps_if (pt_cmpR op_le (pe_ix ix_tup (pe_ix ix_tup (pv 0) (pv 6) (fun _ _ => rfl)) pe_int (fun _ _ => rfl)) (pv 4) (nomark _)) (pss_cons (ps_expr (pe_bm PySem.F.plainAttrs_list PySem.F.slot_list_append PySem.F.type_list_append mt_append (pv 5) (pa_cons (pv 6) pa_nil)))
      (pss_one (ps_aug (i := 4) sc_never_pass.nd rfl (.inl rfl) (pe_ix ix_tup (pe_ix ix_tup (pv 0) (pv 6) (fun _ _ => rfl)) pe_int (fun _ _ => rfl)) ip_add))) pss_nil)))
      (pss_one (ps_ret (pv 5))))))), ?_⟩
    obtain ⟨bp, hb1, hb2⟩ := ev_beast (K := K) (te := tVar 0) (ti := tVar 1) (σ := [some v, some (.int (i : Int)), none, none, none, none, none]) (ev_var rfl) hv (ev_var rfl) rfl (row_get hi)
    refine q_asgT2 hb1 hb2 fun H1 e1 => ?_
    refine q_asg (ev_op (ev_var rfl) (ev_var rfl) rv_I0) fun H2 e2 => ?_
    refine q_asgL (el_lst ea_nil (by decide)) fun l H3 hl3 e3 h3 => ?_
    have e12 := e1.trans e2
    have hl0 : H l = none := fresh_back e12 hl3
    have e13 := e12.trans e3
    refine q_forR2 (lo := (i : Int) + 1) (n := (rs.length : Int)) (ea_cons (ev_op (ev_var rfl) ev_c rv_I0) (ea_cons (ev_lenR (ev_var rfl) (hv.ex e13)) ea_nil)) ⟨by omega, by omega, by omega, by omega⟩
      (fun m σ' H' => ∃ y, σ' = [some v, some (.int (i : Int)), some (.int (sS rs i)), some (.int (tS rs i)), some (.int (barN rs i m)), some (.ref l), y] ∧ Ex H H' ∧ H' l = some (.lst (natsV (nevL rs i m)))) (fun H4 e4 => ⟨_, rfl, e13.trans e4, e4 _ _ h3⟩) (fun m σ' H' hm hW => ?_) (fun σ' H' hW => ?_)
    · obtain ⟨y, rfl, x1, x2⟩ := hW
      have ej : (i : Int) + 1 + (m : Int) = ((i + 1 + m : Nat) : Int) := by omega
      rw [ej]
      have hlt : i + 1 + m < rs.length := by omega
      have hv' := hv.ex x1
      refine s_when (b := nevP rs i m) (et_test (ev_op (ev_str (ev_var rfl) hv' (ev_var rfl) rfl (row_get hlt)) (ev_var rfl) rv_I0)) (fun hb H4 e4 => ?_) (fun hb H4 e4 => ?_)
      · refine q_app (K := K) (e4 _ _ x2) (ev_var rfl) (ev_var rfl) (by rw [natsV_len]; have := nevL_len rs i m; omega) fun H5 e5 => ?_
        have x5 : Ex H (upd H5 l (.lst (natsV (nevL rs i m) ++ [.int ((i + 1 + m : Nat) : Int)]))) := Ex.mut ((x1.trans e4).trans e5) hl0
        refine s_aug (f := fun a b => a + b) rfl (ev_tol (ev_var rfl) (hv.ex x5) (ev_var rfl) rfl (row_get hlt)) fun H6 e6 => ?_
        refine ⟨some (.int ((i + 1 + m : Nat) : Int)), ?_, x5.trans e6, ?_⟩
        · rw [barN_yes (of_decide_eq_true hb)]
          rfl
        · rw [nevL_yes hb]
          have := e6 _ _ (upd_same (H := H5) (a := l) (o := .lst (natsV (nevL rs i m) ++ [.int ((i + 1 + m : Nat) : Int)])))
          rw [this]
          unfold natsV
          rw [List.map_append]
          rfl
      · refine ⟨some (.int ((i + 1 + m : Nat) : Int)), ?_, x1.trans e4, ?_⟩
        · rw [barN_no (of_decide_eq_false hb)]
          rfl
        · rw [nevL_no hb]
          exact e4 _ _ x2
    · obtain ⟨y, rfl, x1, x2⟩ := hW
      have en : (((rs.length : Nat) : Int) - ((i : Int) + 1)).toNat = rs.length - i - 1 := by omega
      rw [en] at x2
      exact s_ret (ev_var rfl) fun H4 e4 => q l H4 hl0 (x1.trans e4) (e4 _ _ x2)
theorem ok_never {f f1 : Addr} {fd fd1 : FuncData} (F : FnP K "never" s_never f fd) (g : mg "never" = some (.ref f)) (b : Binds K fd ["row"] []) (h_never_pass : Has P w K mg base 1 "never_pass" ["row", "one"] (spNeverPass K) f1 fd1) (m_range : mg "range" = none) (m_len : mg "len" = none) : Has P w K mg base 2 "never" ["row"] (spNever K) f fd := by
  refine ⟨F.ok sc_never (fun vs H Q E h => ?_) (fun cdv A outer s H vs Q E hr h => ?_), g, F.kp, b⟩
  · obtain ⟨v, rs, rfl, _⟩ := h
    rfl
  · obtain ⟨v, rs, rfl, hv, hl, q⟩ := h
    refine ⟨_, PSs.nox (pss_one (ps_ret (pe_lc (own := [("one", 1)]) (g := gName 1) (by rfl) sc_never.nd (pi_range1 (by rfl) m_range (pa_cons (pe_callB call_len_seq (by rfl) m_len PySem.boot_len (pa_cons (pv 0) pa_nil)) pa_nil)) (blkOk_by (own := [("one", 1)]) (N := ["row", "one"]) (sc := defScope s_never) (by decide +kernel)) (fun _ _ _ _ _ => (pg_name (i := 1) sc_never.nd rfl (Or.inl rfl))) (fun _ _ _ _ _ => pts_nil) (fun _ _ _ _ _ => (pe_call h_never_pass.G (hr.mono (by decide)) (by rfl) h_never_pass.g h_never_pass.kp h_never_pass.b .nil pass0 (pa_cons (pv 0) (pa_cons (pv 1) pa_nil))))))), ?_⟩
    obtain ⟨a, vs, rfl, ta, bs⟩ := hv
    have hv : RowAt K H (.ref a) rs := ⟨a, vs, rfl, ta, bs⟩
    have hvl := bs.1
    refine ⟨.ref a, rfl, a, vs, rfl, .inr ta, (vs.length : Int), rfl, by omega, by omega, ?_⟩
    rw [hvl]
    generalize hH1 : H = H1
    have e1 : Ex H H1 := by rw [hH1]; exact Ex.refl H1
    intro Dl hD
    refine in_it walk_range (fun i H2 => Ex H1 H2 ∧ ∃ us, H2 Dl = some (.lst us) ∧ ListsF (upd H1 Dl (.lst [])) H2 us ((nevT rs).take i)) ⟨Ex.new hD, [], upd_same, ListsF.nil⟩ (fun _ _ _ _ => True.intro) (fun i x H2 H3 hi p y => ?_) (fun H2 p => ?_)
    · obtain ⟨rfl, hx⟩ := y
      have hx : x = V.int ((0 : Int) + (i : Int)) := hx
      rw [Int.zero_add] at hx
      subst hx
      obtain ⟨p1, us, p2, p3⟩ := p
      have hi' : i < rs.length := by omega
      refine ⟨rfl, t_yes ?_⟩
      refine ⟨.ref a, rfl, .int (i : Int), rfl, .ref a, rs, i, rfl, hv.ex (e1.trans p1), hl, hi', fun l H4 hl4 e4 h4 => ?_⟩
      have hDn : (upd H1 Dl (.lst [])) l = none := by
        by_cases z : l = Dl
        · subst z
          rw [p2] at hl4
          cases hl4
        · rw [upd_ne z]
          exact fresh_back p1 hl4
      refine ⟨us, e4 _ _ p2, ?_, Ex.mut (p1.trans e4) hD, us ++ [.ref l], upd_same, ?_⟩
      · rw [p3.len, List.length_take]
        exact sz_lt (by omega)
      · rw [nevT_take hi']
        exact ((p3.ex e4).app hDn h4).mut upd_same
    · obtain ⟨p1, us, p2, p3⟩ := p
      have e5 : (nevT rs).take ((rs.length : Int)).toNat = nevT rs := List.take_of_length_le (by rw [nevT_len]; omega)
      rw [e5] at p3
      exact q Dl us H2 (fresh_back e1 hD) (e1.trans p1) p2 (p3.low (e1.trans (Ex.new hD)))
theorem ok_law_dip {f : Addr} {fd : FuncData} (F : FnP K "_law_dip" s_law_dip f fd) (g : mg "_law_dip" = some (.ref f)) (b : Binds K fd ["_law_script", "_law_k"] []) (m_len : mg "len" = none) (m_abs : mg "abs" = none) (m_int : mg "int" = none) :
    Has P w K mg base 1 "_law_dip" ["_law_script", "_law_k"] (spDip K) f fd := by
  refine ⟨F.ok sc_law_dip (fun vs H Q E h => ?_) (fun cdv A outer s H vs Q E hr h => ?_), g, F.kp, b⟩
  · obtain ⟨a, k, ns, rfl, _⟩ := h
    rfl
  · obtain ⟨a, k, ns, rfl, hS, hk, q⟩ := h
    refine ⟨_, PSs.nox (pss_cons (ps_set (i := 2) sc_law_dip.nd rfl (.inl rfl) (pe_ifExp (pt_cmpR op_lt (pv 1) (pe_callB call_len_seq (by rfl) m_len PySem.boot_len (pa_cons (pv 0) pa_nil)) (nomark _)) (pe_ix ix_list (pv 0) (pv 1) (fun _ _ => rfl)) pe_int))
      (pss_one (ps_ret (pe_lst (pa_cons (pe_op op_mul (pe_callB call_abs (by rfl) m_abs (by decide +kernel) (pa_cons (pv 2) pa_nil)) (pe_callTy call_int1 (by rfl) m_int (by decide +kernel) (pa_cons (pe_cmpR op_ge (pe_callB call_abs (by rfl) m_abs (by decide +kernel) (pa_cons (pv 2) pa_nil)) (pe_op op_pow pe_int pe_int) (nomark _)) pa_nil))) (pa_cons (pe_op op_add (pe_op op_add (pe_op op_modN (pv 2) pe_int) (pe_op op_mul pe_int (pv 1))) pe_int) (pa_cons pe_int pa_nil))))))), ?_⟩
    refine q_asg (v := .int (ns.getD k 0)) (ev_if (b := decide ((k : Int) < ((ns.map V.int).length : Int))) (et_test (ev_op (ev_var rfl) (ev_len (ev_var rfl) hS) rv_I0)) (fun hd => ?_) (fun hd => ?_)) fun H1 e1 => ?_
    · have hk2 : k < ns.length := by
        have := of_decide_eq_true hd
        rw [List.length_map] at this
        omega
      have e : (ns.map V.int)[k]? = some (.int (ns.getD k 0)) := by
        rw [List.getElem?_map, List.getElem?_eq_getElem hk2, List.getD_eq_getElem?_getD, List.getElem?_eq_getElem hk2] <;> rfl
      exact ev_op (ev_var rfl) (ev_var rfl) (rv_ixL hS (atI_nat e))
    · have hk2 : ns.length ≤ k := by
        have := of_decide_eq_false hd
        rw [List.length_map] at this
        omega
      refine ev_is ev_c ?_
      rw [List.getD_eq_getElem?_getD, List.getElem?_eq_none hk2] <;> rfl
    · generalize ns.getD k 0 = c
      have r1 := fmod_lo (a := c) (show (0 : Int) < 2305843009213693951 by decide)
      have r2 := fmod_hi (a := c) (show (0 : Int) < 2305843009213693951 by decide)
      refine s_retL (el_lst (ea_cons (ev_op (ev_cb (ea_cons (ev_var rfl) ea_nil) rc_abs) (ev_cb (ea_cons (ev_op (ev_cb (ea_cons (ev_var rfl) ea_nil) rc_abs) (ev_op ev_c ev_c (rv_I ⟨by decide, by decide, by decide⟩)) rv_I0) ea_nil) rc_intB) (rv_I (.inr ?_))) (ea_cons (ev_op (ev_op (ev_op (ev_var rfl) ev_c (rv_I (by decide))) (ev_op ev_c (ev_var rfl) (rv_I (.inl ⟨by decide, by decide⟩))) rv_I0) ev_c rv_I0) (ea_cons ev_c ea_nil))) (by show 3 ≤ 100000; decide)) fun p H2 hp e2 h2 => ?_
      · exact b01 _
      · refine q p H2 (fresh_back e1 hp) (e1.trans e2) ⟨_, _, _, h2, ?_, by omega, by omega, by decide, by decide⟩
        refine Int.mul_nonneg ?_ ?_
        · split <;> omega
        · exact b01n _
theorem ok_law_folded {f : Addr} {fd : FuncData} (F : FnP K "_law_folded" s_law_folded f fd) (g : mg "_law_folded" = some (.ref f)) (b : Binds K fd ["_law_script", "_law_many"] []) (m_list : mg "list" = none) (m_enumerate : mg "enumerate" = none) :
    Has P w K mg base 1 "_law_folded" ["_law_script", "_law_many"] (spFolded K) f fd := by
  refine ⟨F.ok sc_law_folded (fun vs H Q E h => ?_) (fun cdv A outer s H vs Q E hr h => ?_), g, F.kp, b⟩
  · obtain ⟨a, k, ns, rfl, _⟩ := h
    rfl
  · obtain ⟨a, m, ns, rfl, hm, hm2, hS, hlen, q⟩ := h
    refine ⟨_, PSs.nox (pss_cons (ps_set (i := 2) sc_law_folded.nd rfl (.inl rfl) (pe_callTy call_list_of (by rfl) m_list (by decide +kernel) (pa_cons (pe_slice sl_list (pv 0) po_none (po_some (pv 1))) pa_nil)))
      (pss_cons (ps_for PassesOwn.never rfl (pi_enum (by rfl) m_enumerate (pa_cons (pe_slice sl_list (pv 0) (po_some (pv 1)) (po_some pe_int)) pa_nil)) (pg_tup rfl (pgs_cons (pg_name (i := 3) sc_law_folded.nd rfl (Or.inl rfl)) (pgs_cons (pg_name (i := 4) sc_law_folded.nd rfl (Or.inl rfl)) pgs_nil)))
        (pss_one (ps_asg (pe_op op_add (pe_ix ix_list (pv 2) (pe_op op_modN (pv 3) (pv 1)) (fun _ _ => rfl)) (pe_op op_mul (pv 4) (pe_op op_add (pv 3) pe_int))) (pg_sub (pv 2) (pe_op op_modN (pv 3) (pv 1)) set_list))))
      (pss_one (ps_ret (pv 2))))), ?_⟩
    refine q_asgL (el_listN (el_sl (ev_var rfl) eo_none (eo_some (ev_var rfl)) hS)) fun l H1 hl e1 h1 => ?_
    rw [cut_to, ← List.map_take] at h1
    obtain ⟨zs, hzs, hzl⟩ := cut_ints ns (some (m : Int)) (some 63)
    rw [HT.sIx_nat] at hzl
    refine q_forE (el_sl (ev_var rfl) (eo_some (ev_var rfl)) (eo_some ev_c) (ex_l e1 hS)) (fun c i σ' H' => ∃ (y3 y4 : Option V) (ms : List Int), σ' = [some (.ref a), some (.int (m : Int)), some (.ref l), y3, y4] ∧ ms.length = min m ns.length ∧ H' l = some (.lst (ms.map V.int)) ∧ H' c = some (.lst (cutV (ns.map V.int) (some (m : Int)) (some 63))) ∧ Ex H H' ∧ l ≠ c) (fun c H2 hc e2 h2 => ?_) (fun c i σ' H' hi p => ?_) (fun c i x σ' H' T hx p hT => ?_) (fun c σ' H' p => ?_)
    · exact ⟨none, none, ns.take m, rfl, by rw [List.length_take], e2 _ _ h1, h2, e1.trans e2, ne_of_none h1 hc⟩
    · obtain ⟨y3, y4, ms, rfl, p1, p2, p3, p4, p5⟩ := p
      exact sq_of p3
    · obtain ⟨y3, y4, ms, rfl, p1, p2, p3, p4, p5⟩ := p
      rw [hzs, List.getElem?_map] at hx
      obtain ⟨z, hz, rfl⟩ := Option.map_eq_some_iff.mp hx
      have hi := (List.getElem?_eq_some_iff.mp hz).1
      have hms : ms.length = m := by omega
      refine ⟨T, _, rfl, st_of upd_same, rfl, _, _, rfl, _, _, rfl, rfl, ?_⟩
      have hlT : l ≠ T := ne_of_none p2 hT
      have h2 : (upd H' T (.tup [.int (i : Nat), .int z])) l = some (.lst (ms.map V.int)) := by
        rw [upd_ne hlT]
        exact p2
      have hj : i % m < ms.length := by
        rw [hms]
        exact Nat.mod_lt _ hm
      have hg : (ms.map V.int)[i % m]? = some (.int (ms[i % m])) := by
        rw [List.getElem?_map, List.getElem?_eq_getElem hj] <;> rfl
      have eI : Ev (tOp (rI (fun _ j => j ≠ 0) fun i j => .int (i.fmod j)) (tVar 3) (tVar 1)) [some (.ref a), some (.int (m : Int)), some (.ref l), some (.int (i : Nat)), some (.int z)] (upd H' T (.tup [.int (i : Nat), .int z])) (.int ((i % m : Nat) : Int)) := ev_is (ev_op (ev_var rfl) (ev_var rfl) (rv_I (show (m : Int) ≠ 0 by omega))) (by rw [fmod_nat])
      refine s_setL (j := i % m) h2 (ev_op (ev_op (ev_var rfl) eI (rv_ixL (sq_of h2) (atI_nat hg))) (ev_op (ev_var rfl) (ev_op (ev_var rfl) ev_c rv_I0) (rv_I (.inr ?_))) rv_I0) (ev_var rfl) eI (by rw [List.length_map]; exact hj) fun H3 e3 => ?_
      · have : zs.length ≤ 63 := by omega
        exact ⟨by omega, by omega⟩
      · refine ⟨some (.int (i : Nat)), some (.int z), ms.set (i % m) (ms[i % m] + z * ((i : Int) + 2)), rfl, by rw [List.length_set]; exact p1, ?_, ?_, ?_, p5⟩
        · rw [upd_same, List.map_set]
        · rw [upd_ne (Ne.symm p5)]
          exact e3 _ _ (Ex.new hT _ _ p3)
        · exact Ex.mut ((p4.trans (Ex.new hT)).trans e3) hl
    · obtain ⟨y3, y4, ms, rfl, p1, p2, p3, p4, p5⟩ := p
      exact s_ret (ev_var rfl) fun H2 e2 => q l H2 ms hl (p4.trans e2) (by omega) (e2 _ _ p2)
theorem ok_law_same {f : Addr} {fd : FuncData} (F : FnP K "_law_same" s_law_same f fd) (g : mg "_law_same" = some (.ref f)) (b : Binds K fd ["_law_found", "_law_due"] []) (m_isinstance : mg "isinstance" = none) (m_list : mg "list" = none) (m_tuple : mg "tuple" = none) (m_bool : mg "bool" = none) (m_str : mg "str" = none) (m_int : mg "int" = none) (m_len : mg "len" = none) (m_all : mg "all" = none) (m_zip : mg "zip" = none) :
    ∀ d, Has P w K mg base d "_law_same" ["_law_found", "_law_due"] (spSame K d) f fd
  | 0 => ⟨has_none, g, F.kp, b⟩
  | d + 1 => by
    have h_law_same := ok_law_same F g b m_isinstance m_list m_tuple m_bool m_str m_int m_len m_all m_zip d
    refine ⟨F.ok sc_law_same (fun vs H Q E h => ?_) (fun cdv A outer s H vs Q E hr h => ?_), g, F.kp, b⟩
    · obtain ⟨x, y, rfl, _⟩ := h
      rfl
    · obtain ⟨x, y, rfl, hA, q⟩ := h
      refine ⟨_, PSs.nox (pss_cons (ps_if (pt_val (pe_callB call_isiT (by rfl) m_isinstance (by decide +kernel) (pa_cons (pv 1) (pa_cons (pe_tup (pa_cons (pe_bltn (v := .ty "list") (by rfl) m_list (by decide +kernel) rfl) (pa_cons (pe_bltn (v := .ty "tuple") (by rfl) m_tuple (by decide +kernel) rfl) pa_nil))) pa_nil)))) (pss_cons (ps_if (PW.pt (pw_or (pt_cmpR op_ne (pe_callB call_isi (by rfl) m_isinstance (by decide +kernel) (pa_cons (pv 0) (pa_cons (pe_bltn (v := .ty "list") (by rfl) m_list (by decide +kernel) rfl) pa_nil))) (pe_callB call_isi (by rfl) m_isinstance (by decide +kernel) (pa_cons (pv 1) (pa_cons (pe_bltn (v := .ty "list") (by rfl) m_list (by decide +kernel) rfl) pa_nil))) (nomark _)) (pw_or1 (pt_cmpR op_ne (pe_callB call_isi (by rfl) m_isinstance (by decide +kernel) (pa_cons (pv 0) (pa_cons (pe_bltn (v := .ty "tuple") (by rfl) m_tuple (by decide +kernel) rfl) pa_nil))) (pe_callB call_isi (by rfl) m_isinstance (by decide +kernel) (pa_cons (pv 1) (pa_cons (pe_bltn (v := .ty "tuple") (by rfl) m_tuple (by decide +kernel) rfl) pa_nil))) (nomark _))))) (pss_one (ps_ret pe_bl)) pss_nil)
      (pss_one (ps_ret (pe_and (pe_cmpR op_eq (pe_callB call_len_seq (by rfl) m_len PySem.boot_len (pa_cons (pv 0) pa_nil)) (pe_callB call_len_seq (by rfl) m_len PySem.boot_len (pa_cons (pv 1) pa_nil)) (nomark _)) (pe_one (pe_callB (cr_all rfl) (by rfl) m_all (by decide +kernel) (pa_cons (pe_lc (own := [("_law_one", 2), ("_law_two", 3)]) (g := gTup K 2 (gCons (gName 2) (gCons (gName 3) gNil))) (by rfl) sc_law_same.nd (pi_zipA (by rfl) m_zip (pa_cons (pv 0) (pa_cons (pv 1) pa_nil))) (blkOk_by (own := [("_law_one", 2), ("_law_two", 3)]) (N := ["_law_found", "_law_due", "_law_one", "_law_two"]) (sc := defScope s_law_same) (by decide +kernel)) (fun _ _ _ _ _ => (pg_tup rfl (pgs_cons (pg_name (i := 2) sc_law_same.nd rfl (Or.inl rfl)) (pgs_cons (pg_name (i := 3) sc_law_same.nd rfl (Or.inl rfl)) pgs_nil)))) (fun _ _ _ _ _ => pts_nil) (fun _ _ _ _ _ => (pe_call h_law_same.G hr (by rfl) h_law_same.g h_law_same.kp h_law_same.b .nil pass0 (pa_cons (pv 2) (pa_cons (pv 3) pa_nil))))) pa_nil))))))) pss_nil)
      (pss_cons (ps_if (PW.pt (pw_or (pt_cmpR op_isN (pv 1) pe_non (nomark _)) (pw_or1 (pt_cmpR op_isN (pv 0) pe_non (nomark _))))) (pss_one (ps_ret (pe_and (pe_cmpR op_isN (pv 1) pe_non (nomark _)) (pe_one (pe_cmpR op_isN (pv 0) pe_non (nomark _)))))) pss_nil)
      (pss_cons (ps_if (PW.pt (pw_or (pt_val (pe_callB call_isi (by rfl) m_isinstance (by decide +kernel) (pa_cons (pv 1) (pa_cons (pe_bltn (v := .ty "bool") (by rfl) m_bool (by decide +kernel) rfl) pa_nil)))) (pw_or1 (pt_val (pe_callB call_isi (by rfl) m_isinstance (by decide +kernel) (pa_cons (pv 1) (pa_cons (pe_bltn (v := .ty "str") (by rfl) m_str (by decide +kernel) rfl) pa_nil))))))) (pss_one (ps_ret (pe_and (pe_cmpR op_eq (pe_callB call_isi (by rfl) m_isinstance (by decide +kernel) (pa_cons (pv 0) (pa_cons (pe_bltn (v := .ty "bool") (by rfl) m_bool (by decide +kernel) rfl) pa_nil))) (pe_callB call_isi (by rfl) m_isinstance (by decide +kernel) (pa_cons (pv 1) (pa_cons (pe_bltn (v := .ty "bool") (by rfl) m_bool (by decide +kernel) rfl) pa_nil))) (nomark _)) (pe_one (pe_cmpR op_eq (pv 0) (pv 1) (nomark _)))))) pss_nil)
      (pss_one (ps_ret (pe_and (pe_callB call_isi (by rfl) m_isinstance (by decide +kernel) (pa_cons (pv 0) (pa_cons (pe_bltn (v := .ty "int") (by rfl) m_int (by decide +kernel) rfl) pa_nil))) (pe_and (pe_not (pe_callB call_isi (by rfl) m_isinstance (by decide +kernel) (pa_cons (pv 0) (pa_cons (pe_bltn (v := .ty "bool") (by rfl) m_bool (by decide +kernel) rfl) pa_nil)))) (pe_one (pe_cmpR op_eq (pv 0) (pv 1) (nomark _)))))))))), ?_⟩
      rcases hA with ⟨rfl, hf⟩ | ⟨a, c, xs, ys, rfl, rfl, h3, h4, h5, h6⟩
      · cases x with
        | int i =>
          refine q_when (et_B (ev_isiT (ev_var rfl) (.int i) kit_int)) (fun hd => by cases hd) fun _ H1 e1 => ?_
          refine q_when (b := false) (et_or (a := false) (b := false) (et_test (ev_op (ev_var rfl) ev_c (rv_isN2 rfl))) fun _ => et_test (ev_op (ev_var rfl) ev_c (rv_isN2 rfl))) (fun hd => by cases hd) fun _ H2 e2 => ?_
          refine q_when (b := false) (et_or (a := false) (b := false) (et_B (ev_isi (T := "int") (C := "bool") (ev_var rfl) (.int i) (by decide +kernel))) fun _ => et_B (ev_isi (T := "int") (C := "str") (ev_var rfl) (.int i) (by decide +kernel))) (fun hd => by cases hd) fun _ H3 e3 => ?_
          refine s_ret (v := .bl true) (ev_andV (a := true) (b := true) (ev_isi (T := "int") (C := "int") (b := true) (ev_var rfl) (.int i) (by decide +kernel)) fun _ => ev_andV (a := true) (b := true) (ev_notV (ev_isi (T := "int") (C := "bool") (b := false) (ev_var rfl) (.int i) (by decide +kernel))) fun _ => ev_is (ev_op (ev_var rfl) (ev_var rfl) (rv_eq rfl)) (by rw [decide_eq_true rfl])) fun H4 e4 => q H4 (((e1.trans e2).trans e3).trans e4)
        | bl i =>
          refine q_when (et_B (ev_isiT (ev_var rfl) (.bl i) kit_bool)) (fun hd => by cases hd) fun _ H1 e1 => ?_
          refine q_when (b := false) (et_or (a := false) (b := false) (et_test (ev_op (ev_var rfl) ev_c (rv_isN2 rfl))) fun _ => et_test (ev_op (ev_var rfl) ev_c (rv_isN2 rfl))) (fun hd => by cases hd) fun _ H2 e2 => ?_
          refine q_when (b := true) (et_or (a := true) (b := true) (et_B (ev_isi (T := "bool") (C := "bool") (ev_var rfl) (.bl i) (by decide +kernel))) fun hd => by cases hd) (fun _ H3 e3 => ?_) (fun hd => by cases hd)
          refine s_ret (v := .bl true) (ev_andV (a := true) (b := true) (ev_op (ev_isi (T := "bool") (C := "bool") (b := true) (ev_var rfl) (.bl i) (by decide +kernel)) (ev_isi (T := "bool") (C := "bool") (b := true) (ev_var rfl) (.bl i) (by decide +kernel)) (rv_eq rfl)) fun _ => ev_is (ev_op (ev_var rfl) (ev_var rfl) (rv_eq rfl)) (by rw [decide_eq_true rfl])) fun H4 e4 => q H4 (((e1.trans e2).trans e3).trans e4)
        | str i =>
          refine q_when (et_B (ev_isiT (ev_var rfl) (.str i) kit_str)) (fun hd => by cases hd) fun _ H1 e1 => ?_
          refine q_when (b := false) (et_or (a := false) (b := false) (et_test (ev_op (ev_var rfl) ev_c (rv_isN2 rfl))) fun _ => et_test (ev_op (ev_var rfl) ev_c (rv_isN2 rfl))) (fun hd => by cases hd) fun _ H2 e2 => ?_
          refine q_when (b := true) (et_or (a := false) (b := true) (et_B (ev_isi (T := "str") (C := "bool") (b := false) (ev_var rfl) (.str i) (by decide +kernel))) fun _ => et_B (ev_isi (T := "str") (C := "str") (b := true) (ev_var rfl) (.str i) (by decide +kernel))) (fun _ H3 e3 => ?_) (fun hd => by cases hd)
          refine s_ret (v := .bl true) (ev_andV (a := true) (b := true) (ev_op (ev_isi (T := "str") (C := "bool") (b := false) (ev_var rfl) (.str i) (by decide +kernel)) (ev_isi (T := "str") (C := "bool") (b := false) (ev_var rfl) (.str i) (by decide +kernel)) (rv_eq rfl)) fun _ => ev_is (ev_op (ev_var rfl) (ev_var rfl) (rv_eq rfl)) (by rw [decide_eq_true rfl])) fun H4 e4 => q H4 (((e1.trans e2).trans e3).trans e4)
        | non =>
          refine q_when (et_B (ev_isiT (ev_var rfl) .non kit_non)) (fun hd => by cases hd) fun _ H1 e1 => ?_
          refine q_when (b := true) (et_or (a := true) (b := true) (et_test (ev_op (ev_var rfl) ev_c (rv_isN2 rfl))) fun _ => et_test (ev_op (ev_var rfl) ev_c (rv_isN2 rfl))) (fun _ H2 e2 => ?_) (fun hd => by cases hd)
          refine s_ret (v := .bl true) (ev_andV (a := true) (b := true) (ev_op (ev_var rfl) ev_c (rv_isN2 rfl)) fun _ => ev_op (ev_var rfl) ev_c (rv_isN2 rfl)) fun H4 e4 => q H4 ((e1.trans e2).trans e4)
        | byt _ => exact hf.elim
        | flt _ => exact hf.elim
        | ref _ => exact hf.elim
        | ty _ => exact hf.elim
      · rcases h3 with ⟨ha, hc⟩ | ⟨ha, hc⟩
        · refine q_when (et_B (ev_isiT (ev_var rfl) (.lst hc) kit_list)) (fun _ H1 e1 => ?_) (fun hd => by cases hd)
          refine q_when (b := false) (et_or (et_test (ev_op (ev_isi (T := "list") (b := true) (ev_var rfl) (.lst (ex_l e1 ha)) (by decide +kernel)) (ev_isi (T := "list") (b := true) (ev_var rfl) (.lst (ex_l e1 hc)) (by decide +kernel)) (rv_ne rfl))) fun _ => et_test (ev_op (ev_isi (T := "list") (b := false) (ev_var rfl) (.lst (ex_l e1 ha)) (by decide +kernel)) (ev_isi (T := "list") (b := false) (ev_var rfl) (.lst (ex_l e1 hc)) (by decide +kernel)) (rv_ne rfl))) (fun hd => by cases hd) fun _ H2 e2 => ?_
          have e12 := e1.trans e2
          refine s_ret (v := .bl true) (ev_andV (a := true) (b := true) (ev_is (ev_op (ev_lenA (ev_var rfl) (.inl (ex_l e12 ha))) (ev_lenA (ev_var rfl) (.inl (ex_l e12 hc))) (rv_eq rfl)) (by rw [h4, decide_eq_true rfl])) fun _ => ev_allT (el_same h4 h5 (.inl ⟨ex_l e12 ha, ex_l e12 hc⟩) fun i u v hu hv => (h6 i u v hu hv).ex e12)) fun H4 e4 => q H4 (e12.trans e4)
        · refine q_when (et_B (ev_isiT (ev_var rfl) (.tup hc) kit_tuple)) (fun _ H1 e1 => ?_) (fun hd => by cases hd)
          refine q_when (b := false) (et_or (et_test (ev_op (ev_isi (T := "tuple") (b := false) (ev_var rfl) (.tup (ex_t e1 ha)) (by decide +kernel)) (ev_isi (T := "tuple") (b := false) (ev_var rfl) (.tup (ex_t e1 hc)) (by decide +kernel)) (rv_ne rfl))) fun _ => et_test (ev_op (ev_isi (T := "tuple") (b := true) (ev_var rfl) (.tup (ex_t e1 ha)) (by decide +kernel)) (ev_isi (T := "tuple") (b := true) (ev_var rfl) (.tup (ex_t e1 hc)) (by decide +kernel)) (rv_ne rfl))) (fun hd => by cases hd) fun _ H2 e2 => ?_
          have e12 := e1.trans e2
          refine s_ret (v := .bl true) (ev_andV (a := true) (b := true) (ev_is (ev_op (ev_lenA (ev_var rfl) (.inr (ex_t e12 ha))) (ev_lenA (ev_var rfl) (.inr (ex_t e12 hc))) (rv_eq rfl)) (by rw [h4, decide_eq_true rfl])) fun _ => ev_allT (el_same h4 h5 (.inr ⟨ex_t e12 ha, ex_t e12 hc⟩) fun i u v hu hv => (h6 i u v hu hv).ex e12)) fun H4 e4 => q H4 (e12.trans e4)
end
end K67
set_option maxHeartbeats 4000000
namespace K67
open PySem PySem.Spec PyProof.Rows L2 Evl HH RZ
section
variable {P : Program} {w : World} {K : PySem.W.Frag} {mg : Str → Option Value} {base : Heap}
theorem ok_can_pass {f : Addr} {fd : FuncData} (F : FnP K "can_pass" s_can_pass f fd) (g : mg "can_pass" = some (.ref f)) (b : Binds K fd ["row", "place"] []) (m_len : mg "len" = none) : Has P w K mg base 1 "can_pass" ["row", "place"] (spCanPass K) f fd := by
  refine ⟨F.ok sc_can_pass (fun vs H Q E h => ?_) (fun cdv A outer s H vs Q E hr h => ?_), g, F.kp, b⟩
  · obtain ⟨v, rs, p, rfl, _⟩ := h
    rfl
  · obtain ⟨v, rs, p, rfl, hv, hp, q⟩ := h
    refine ⟨_, PSs.nox (pss_cons (ps_if (PW.pt (pw_or (pt_cmpR op_lt (pv 1) pe_int (nomark _)) (pw_or1 (pt_cmpR op_ge (pv 1) (pe_callB call_len_seq (by rfl) m_len PySem.boot_len (pa_cons (pv 0) pa_nil)) (nomark _))))) (pss_one (ps_ret pe_bl)) pss_nil)
      (pss_cons (ps_asg (pe_ix ix_tup (pv 0) (pe_op op_sub (pv 1) pe_int) (fun _ _ => rfl)) (pg_tup rfl (pgs_cons (pg_name (i := 2) sc_can_pass.nd rfl (Or.inl rfl)) (pgs_cons (pg_name (i := 3) sc_can_pass.nd rfl (Or.inl rfl)) pgs_nil))))
      (pss_one (ps_ret (pe_cmpR op_gt (pe_op op_sub (pe_ix ix_tup (pe_ix ix_tup (pv 0) (pv 1) (fun _ _ => rfl)) pe_int (fun _ _ => rfl)) (pv 3)) (pv 2) (nomark _)))))), ?_⟩
    refine q_when (b := decide ((p : Int) < 1) || decide ((p : Int) ≥ (rs.length : Int))) (et_or (et_B (ev_op (ev_var rfl) ev_c rv_I0)) fun _ => et_B (ev_op (ev_var rfl) (ev_lenR (ev_var rfl) hv) rv_I0)) (fun hb H1 e1 => ?_) (fun hb H1 e1 => ?_)
    · refine s_ret ev_c fun H2 e2 => ?_
      have hp0 : p = 0 := by
        rcases (Bool.or_eq_true _ _).mp hb with h | h
        · have := of_decide_eq_true h
          omega
        · have := of_decide_eq_true h
          omega
      subst hp0
      exact q H2 (e1.trans e2)
    · have hp0 : 0 < p := by
        have := (Bool.or_eq_false_iff.mp hb).1
        have := of_decide_eq_false this
        omega
      obtain ⟨a, h1, h2⟩ := ev_beast (te := tVar 0) (ti := tOp (rI0 fun i j => .int (i - j)) (tVar 1) (tC (.int 1))) (σ := start ["row", "place", "strength", "toll"] [v, .int (p : Int)]) (ev_var rfl) (hv.ex e1) (ev_op (ev_var rfl) ev_c rv_I0) (show (p : Int) - 1 = ((p - 1 : Nat) : Int) by omega) (row_get (i := p - 1) (by omega))
      refine q_asgT2 h1 h2 fun H2 e2 => ?_
      refine s_ret (ev_op (ev_op (ev_str (ev_var rfl) (hv.ex (e1.trans e2)) (ev_var rfl) rfl (row_get hp)) (ev_var rfl) rv_I0) (ev_var rfl) rv_I0) fun H3 e3 => ?_
      have e : letsN rs p = decide (sS rs p - tS rs (p - 1) > sS rs (p - 1)) := by
        unfold letsN
        rw [decide_eq_true hp0, Bool.true_and]
      rw [e] at q
      exact q H3 ((e1.trans e2).trans e3)
theorem ok_may_pass {f f1 : Addr} {fd fd1 : FuncData} (F : FnP K "may_pass" s_may_pass f fd) (g : mg "may_pass" = some (.ref f)) (b : Binds K fd ["row"] []) (h_can_pass : Has P w K mg base 1 "can_pass" ["row", "place"] (spCanPass K) f1 fd1) (m_len : mg "len" = none) (m_range : mg "range" = none) :
    Has P w K mg base 2 "may_pass" ["row"] (spMay K passL) f fd := by
  refine ⟨F.ok sc_may_pass (fun vs H Q E h => ?_) (fun cdv A outer s H vs Q E hr h => ?_), g, F.kp, b⟩
  · obtain ⟨v, rs, rfl, _⟩ := h
    rfl
  · obtain ⟨v, rs, rfl, hv, hl, q⟩ := h
    refine ⟨_, PSs.nox (pss_one (ps_ret (pe_lc (own := [("place", 1)]) (g := gName 1) (by rfl) sc_may_pass.nd (pi_range1 (by rfl) m_range (pa_cons (pe_callB call_len_seq (by rfl) m_len PySem.boot_len (pa_cons (pv 0) pa_nil)) pa_nil)) (blkOk_by (own := [("place", 1)]) (N := ["row", "place"]) (sc := defScope s_may_pass) (by decide +kernel)) (fun _ _ _ _ _ => (pg_name (i := 1) sc_may_pass.nd rfl (Or.inl rfl))) (fun _ _ _ _ _ => (pts_one (pt_val (pe_call h_can_pass.G (hr.mono (by decide)) (by rfl) h_can_pass.g h_can_pass.kp h_can_pass.b .nil pass0 (pa_cons (pv 0) (pa_cons (pv 1) pa_nil)))))) (fun _ _ _ _ _ => (pv 1))))), ?_⟩
    refine s_retL (el_lcR1 (letsN rs) (fun i => .int (i : Int)) (ea_cons (ev_lenR (ev_var rfl) hv) ea_nil) (by omega) (fun x => rfl) (fun i H1 e1 hi => ?_) (fun i H1 e1 hi _ => ev_var rfl)) fun p H1 hp e1 h1 => ?_
    · exact et_B (ev_call (ea_cons (ev_var rfl) (ea_cons (ev_var rfl) ea_nil)) (sv_can_pass (hv.ex e1) (by omega)))
    · exact q p H1 hp e1 h1
theorem ok_law_take {f : Addr} {fd : FuncData} (F : FnP K "_law_take" s_law_take f fd) (g : mg "_law_take" = some (.ref f)) (b : Binds K fd ["_law_box", "_law_many"] []) : Has P w K mg base 1 "_law_take" ["_law_box", "_law_many"] spTake f fd := by
  refine ⟨F.ok sc_law_take (fun vs H Q E h => ?_) (fun cdv A outer s H vs Q E hr h => ?_), g, F.kp, b⟩
  · obtain ⟨p, m, n, rfl, _⟩ := h
    rfl
  · obtain ⟨p, m, n, rfl, hm, hm2, ⟨a, b, c, hb, ha, hb0, hb1, hc0, hc1⟩, hn, q⟩ := h
    refine ⟨_, PSs.nox (pss_cons (ps_if (pt_cmpR op_gt (pe_ix ix_list (pv 0) pe_int (fun _ _ => rfl)) pe_int (nomark _)) (pss_cons (ps_set (i := 2) sc_law_take.nd rfl (.inl rfl) (pe_op op_modN (pe_ix ix_list (pv 0) pe_int (fun _ _ => rfl)) (pv 1)))
      (pss_cons (ps_asg (pe_op op_fdivW (pe_ix ix_list (pv 0) pe_int (fun _ _ => rfl)) (pv 1)) (pg_sub (pv 0) pe_int set_list))
      (pss_one (ps_ret (pv 2))))) pss_nil)
      (pss_cons (ps_asg (pe_op op_add (pe_ix ix_list (pv 0) pe_int (fun _ _ => rfl)) pe_int) (pg_sub (pv 0) pe_int set_list))
      (pss_cons (ps_set (i := 3) sc_law_take.nd rfl (.inl rfl) (pe_op op_modN (pe_op op_powW (pe_op op_add (pe_ix ix_list (pv 0) pe_int (fun _ _ => rfl)) (pe_op op_mul pe_int (pe_ix ix_list (pv 0) pe_int (fun _ _ => rfl)))) pe_int) pe_int))
      (pss_cons (ps_set (i := 4) sc_law_take.nd rfl (.inl rfl) (pe_op op_modN (pe_op op_mulW (pe_op op_add (pe_op op_add (pv 3) (pe_ix ix_list (pv 0) pe_int (fun _ _ => rfl))) (pe_op op_fdivW (pe_ix ix_list (pv 0) pe_int (fun _ _ => rfl)) pe_int)) (pe_op op_add (pe_op op_add (pe_op op_modN (pv 3) pe_int) pe_int) (pe_ix ix_list (pv 0) pe_int (fun _ _ => rfl)))) pe_int))
      (pss_one (ps_ret (pe_op op_modN (pe_op op_fdivW (pe_op op_modN (pe_op op_add (pe_op op_mul (pv 4) pe_int) (pv 3)) pe_int) pe_int) (pv 1)))))))), ?_⟩
    refine q_when (b := decide (a > 0)) (et_B (ev_op (ev_op (ev_var rfl) ev_c (rv_ixL (sq_of hb) rfl)) ev_c rv_I0)) (fun hd H1 e1 => ?_) (fun hd H1 e1 => ?_)
    · have hb1' := e1 _ _ hb
      refine q_asg (ev_op (ev_op (ev_var rfl) ev_c (rv_ixL (sq_of hb1') rfl)) (ev_var rfl) (rv_I (show m ≠ 0 by omega))) fun H2 e2 => ?_
      have hb2' := e2 _ _ hb1'
      refine q_setL (j := 0) hb2' (ev_op (ev_op (ev_var rfl) ev_c (rv_ixL (sq_of hb2') rfl)) (ev_var rfl) (rv_I (divW_ok hm hm2))) (ev_var rfl) ev_c (by show 0 < 3; decide) fun H3 e3 => ?_
      refine s_ret (ev_var rfl) fun H4 e4 => ?_
      refine q _ H4 (fmod_lo hm) (fmod_hi hm) (((ExB.of ((e1.trans e2).trans e3)).upd).trans (.of e4)) ⟨a / m, b, c, e4 _ _ upd_same, Int.ediv_nonneg ha (by omega), hb0, hb1, hc0, by omega⟩
    · have hb1' := e1 _ _ hb
      refine q_setL (j := 2) hb1' (ev_op (ev_op (ev_var rfl) ev_c (rv_ixL (sq_of hb1') rfl)) ev_c rv_I0) (ev_var rfl) ev_c (by show 2 < 3; decide) fun H2 e2 => ?_
      have hx : upd H2 p (.lst ([V.int a, .int b, .int c].set 2 (.int (c + 1)))) p = some (.lst [V.int a, .int b, .int (c + 1)]) := upd_same
      have eb : ExB p H (upd H2 p (.lst ([V.int a, .int b, .int c].set 2 (.int (c + 1))))) := (ExB.of (e1.trans e2)).upd
      generalize upd H2 p (.lst ([V.int a, .int b, .int c].set 2 (.int (c + 1)))) = H3 at hx eb ⊢
      have hlim : c + 1 ≤ (Lim : Int) + 1 := by omega
      have g1 : CPowW (b + 39373 * (c + 1)) 5 := pow_ok (big_of (by omega) hlim 39373 b (by decide) (by decide) hb0 (by omega))
      have r1 := fmod_lo (a := (b + 39373 * (c + 1)) ^ (5 : Int).toNat) (show (0 : Int) < 2147483647 by decide)
      have r2 := fmod_hi (a := (b + 39373 * (c + 1)) ^ (5 : Int).toNat) (show (0 : Int) < 2147483647 by decide)
      refine q_asg (v := .int (((b + 39373 * (c + 1)) ^ (5 : Int).toNat).fmod 2147483647)) (ev_op (ev_op (ev_op (ev_op (ev_var rfl) ev_c (rv_ixL (sq_of hx) rfl)) (ev_op ev_c (ev_op (ev_var rfl) ev_c (rv_ixL (sq_of hx) rfl)) (rv_I (.inl ⟨by decide, by decide⟩))) rv_I0) ev_c (rv_I g1)) ev_c (rv_I (by decide))) fun H4 e4 => ?_
      generalize ((b + 39373 * (c + 1)) ^ (5 : Int).toNat).fmod 2147483647 = o at r1 r2 ⊢
      have hx4 := e4 _ _ hx
      have d0 : 0 ≤ b / 1000003 := by omega
      have d1 : b / 1000003 ≤ b := by omega
      have g2 : CMulW (o + (c + 1) + b / 1000003) (o.fmod 40009 + 7 + (c + 1)) := by
        have s1 := fmod_lo (a := o) (show (0 : Int) < 40009 by decide)
        have s2 := fmod_hi (a := o) (show (0 : Int) < 40009 by decide)
        have e1 : o + (c + 1) + b / 1000003 = (o + b / 1000003) + 1 * (c + 1) := by omega
        have e2 : o.fmod 40009 + 7 + (c + 1) = (o.fmod 40009 + 7) + 1 * (c + 1) := by omega
        rw [e1, e2]
        exact mulW_ok (big_of (by omega) hlim 1 _ (by decide) (by decide) (by omega) (by omega)) (big_of (by omega) hlim 1 _ (by decide) (by decide) (by omega) (by omega))
      refine q_asg (ev_op (ev_op (ev_op (ev_op (ev_var rfl) (ev_op (ev_var rfl) ev_c (rv_ixL (sq_of hx4) rfl)) rv_I0) (ev_op (ev_op (ev_var rfl) ev_c (rv_ixL (sq_of hx4) rfl)) ev_c (rv_I (divW_ok (by decide) (by decide)))) rv_I0) (ev_op (ev_op (ev_op (ev_var rfl) ev_c (rv_I (by decide))) ev_c rv_I0) (ev_op (ev_var rfl) ev_c (rv_ixL (sq_of hx4) rfl)) rv_I0) (rv_I g2)) ev_c (rv_I (by decide))) fun H5 e5 => ?_
      refine s_ret (ev_op (ev_op (ev_op (ev_op (ev_op (ev_var rfl) ev_c (rv_I (.inr ⟨by decide, by decide⟩))) (ev_var rfl) rv_I0) ev_c (rv_I (by decide))) ev_c (rv_I (divW_ok (by decide) (by decide)))) (ev_var rfl) (rv_I (show m ≠ 0 by omega))) fun H6 e6 => ?_
      refine q _ H6 (fmod_lo hm) (fmod_hi hm) (eb.trans (.of ((e4.trans e5).trans e6))) ⟨a, b, c + 1, e6 _ _ (e5 _ _ hx4), ha, hb0, hb1, by omega, by omega⟩
theorem ok_law_of {f f1 : Addr} {fd fd1 : FuncData} (F : FnP K "_law_of" s_law_of f fd) (g : mg "_law_of" = some (.ref f)) (b : Binds K fd ["_law_box", "_law_pool"] []) (h_law_take : Has P w K mg base 1 "_law_take" ["_law_box", "_law_many"] spTake f1 fd1) (m_len : mg "len" = none) :
    Has P w K mg base 2 "_law_of" ["_law_box", "_law_pool"] (spOf K) f fd := by
  refine ⟨F.ok sc_law_of (fun vs H Q E h => ?_) (fun cdv A outer s H vs Q E hr h => ?_), g, F.kp, b⟩
  · obtain ⟨p, l, xs, n, rfl, _⟩ := h
    rfl
  · obtain ⟨p, l, xs, n, rfl, hl, h0, h1, hne, hb, hn, q⟩ := h
    refine ⟨_, PSs.nox (pss_one (ps_ret (pe_ix ix_list (pv 1) (pe_call h_law_take.G (hr.mono (by decide)) (by rfl) h_law_take.g h_law_take.kp h_law_take.b .nil pass0 (pa_cons (pv 0) (pa_cons (pe_callB call_len_seq (by rfl) m_len PySem.boot_len (pa_cons (pv 1) pa_nil)) pa_nil))) (fun _ _ => rfl)))), ?_⟩
    refine ⟨.ref l, rfl, .ref p, rfl, .ref l, rfl, l, xs, rfl, .inl hl, p, (xs.length : Int), n, rfl, by omega, by omega, hb, hn, fun r H1 r0 r1 e1 hb1 => ?_⟩
    obtain ⟨k, rfl⟩ := Int.eq_ofNat_of_zero_le r0
    have hk : k < xs.length := by omega
    exact ⟨l, xs, k, xs[k], rfl, rfl, e1.l hne hl, atI_nat (List.getElem?_eq_getElem hk), q k _ H1 (List.getElem?_eq_getElem hk) e1 hb1⟩
theorem ok_law_row {f f1 f2 : Addr} {fd fd1 fd2 : FuncData} (F : FnP K "_law_row" s_law_row f fd) (g : mg "_law_row" = some (.ref f)) (b : Binds K fd ["_law_box", "_law_most"] []) (h_law_take : Has P w K mg base 1 "_law_take" ["_law_box", "_law_many"] spTake f1 fd1) (h_law_of : Has P w K mg base 2 "_law_of" ["_law_box", "_law_pool"] (spOf K) f2 fd2) (m_range : mg "range" = none) (m_tuple : mg "tuple" = none) :
    Has P w K mg base 3 "_law_row" ["_law_box", "_law_most"] (spRow K) f fd := by
  refine ⟨F.ok sc_law_row (fun vs H Q E h => ?_) (fun cdv A outer s H vs Q E hr h => ?_), g, F.kp, b⟩
  · obtain ⟨p, m, n, rfl, _⟩ := h
    rfl
  · obtain ⟨p, m, n, rfl, hm, hm2, hb, hn, q⟩ := h
    refine ⟨_, PSs.nox (pss_cons (ps_par3 (i := 2) (j := 3) (l := 4) (by rfl) sc_law_row.nd rfl rfl rfl (by decide) (by decide) (by decide) rfl rfl rfl (pa_cons (pe_op op_add pe_int (pe_call h_law_take.G (hr.mono (by decide)) (by rfl) h_law_take.g h_law_take.kp h_law_take.b .nil pass0 (pa_cons (pv 0) (pa_cons (pv 1) pa_nil)))) (pa_cons (pe_call h_law_take.G (hr.mono (by decide)) (by rfl) h_law_take.g h_law_take.kp h_law_take.b .nil pass0 (pa_cons (pv 0) (pa_cons pe_int pa_nil))) (pa_cons (pe_call h_law_of.G (hr.mono (by decide)) (by rfl) h_law_of.g h_law_of.kp h_law_of.b .nil pass0 (pa_cons (pv 0) (pa_cons (pe_lst (pa_cons pe_int (pa_cons pe_int (pa_cons pe_int (pa_cons pe_int pa_nil))))) pa_nil))) pa_nil))) (by rfl))
      (pss_cons (ps_par (i := 5) (j := 6) (by rfl) sc_law_row.nd rfl rfl (by decide) rfl rfl (pa_cons (pe_ix ix_list (pe_lst (pa_cons pe_int (pa_cons pe_int (pa_cons pe_int (pa_cons pe_int (pa_cons pe_int (pa_cons pe_int pa_nil))))))) (pv 3) (fun _ _ => rfl)) (pa_cons (pe_ix ix_list (pe_lst (pa_cons pe_int (pa_cons pe_int (pa_cons pe_int (pa_cons pe_int (pa_cons pe_int (pa_cons pe_int pa_nil))))))) (pv 3) (fun _ _ => rfl)) pa_nil)) (by rfl))
      (Evl.pss_cut (ps_par (i := 7) (j := 8) (by rfl) sc_law_row.nd rfl rfl (by decide) rfl rfl (pa_cons (pe_ix ix_list (pe_lst (pa_cons pe_int (pa_cons (pe_un un_neg pe_int) (pa_cons (pe_un un_neg pe_int) (pa_cons pe_int (pa_cons (pe_op op_sub (pe_op op_pow pe_int pe_int) pe_int) (pa_cons (pe_un un_neg pe_int) pa_nil))))))) (pv 3) (fun _ _ => rfl)) (pa_cons (pe_ifExp (pt_cmpR op_eq (pv 3) pe_int (nomark _)) (pe_call h_law_take.G (hr.mono (by decide)) (by rfl) h_law_take.g h_law_take.kp h_law_take.b .nil pass0 (pa_cons (pv 0) (pa_cons pe_int pa_nil))) pe_int) pa_nil)) (by rfl))
      (pss_cons (ps_set (i := 9) sc_law_row.nd rfl (.inl rfl) (pe_lst pa_nil))
      (pss_cons (ps_for PassesOwn.never rfl (pi_range1 (by rfl) m_range (pa_cons (pv 2) pa_nil)) (pg_name (i := 10) sc_law_row.nd rfl (Or.inl rfl))
        (pss_one (ps_expr (pe_bm PySem.F.plainAttrs_list PySem.F.slot_list_append PySem.F.type_list_append mt_append (pv 9) (pa_cons (pe_tup (pa_cons (pe_op op_add (pe_op op_add (pv 7) (pe_op op_mul (pv 4) (pv 10))) (pe_call h_law_take.G (hr.mono (by decide)) (by rfl) h_law_take.g h_law_take.kp h_law_take.b .nil pass0 (pa_cons (pv 0) (pa_cons (pv 5) pa_nil)))) (pa_cons (pe_op op_add (pv 8) (pe_call h_law_take.G (hr.mono (by decide)) (by rfl) h_law_take.g h_law_take.kp h_law_take.b .nil pass0 (pa_cons (pv 0) (pa_cons (pv 6) pa_nil)))) pa_nil))) pa_nil)))))
      (pss_one (ps_ret (pe_tupleOf (by rfl) m_tuple (pv 9))))))))), ?_⟩
    refine ⟨.ref p, rfl, .int (m : Int), rfl, p, (m : Int), n, rfl, by omega, by omega, hb, by omega, fun r1 H1 r10 r11 e1 hb1 => ?_⟩
    refine ⟨1, r1, rfl, rfl, .ref p, rfl, p, 6, n + 1, rfl, by decide, by decide, hb1, by omega, fun way H2 w0 w1 e2 hb2 => ?_⟩
    refine ⟨.ref p, rfl, by show 4 ≤ sizeLine; decide, fun l hl => ?_⟩
    refine ⟨p, l, _, n + 2, rfl, sq_of upd_same, by show 0 < 4; decide, by show 4 < 100000; decide, (hb2.ne hl).symm, hb2.ex (Ex.new hl), by omega, fun k x H3 hx e3 hb3 => ?_⟩
    obtain ⟨rise, rfl, hr0, hr1⟩ : ∃ rise : Int, x = .int rise ∧ 0 ≤ rise ∧ rise ≤ 3 := by
      match k, hx with
      | 0, hx => cases hx; exact ⟨0, rfl, by decide, by decide⟩
      | 1, hx => cases hx; exact ⟨0, rfl, by decide, by decide⟩
      | 2, hx => cases hx; exact ⟨1, rfl, by decide, by decide⟩
      | 3, hx => cases hx; exact ⟨3, rfl, by decide, by decide⟩
      | k + 4, hx => cases hx
    have eb3 : ExB p H H3 := ((e1.trans e2).trans (.of (Ex.new hl))).trans e3
    clear e1 e2 e3 hb1 hb2
    refine ⟨_, _, _, rfl, ?_⟩
    obtain ⟨high, hh, ah⟩ := at_ints (zs := [9, 9, 30, 60, 25, 200]) w0 w1
    obtain ⟨dear, hd, ad⟩ := at_ints (zs := [3, 1, 1, 10, 4, 40]) w0 w1
    have hh0 : 0 < high ∧ high ≤ 200 := by
      simp only [List.mem_cons, List.not_mem_nil, or_false] at hh
      omega
    have hd0 : 0 < dear ∧ dear ≤ 40 := by
      simp only [List.mem_cons, List.not_mem_nil, or_false] at hd
      omega
    refine ⟨by show 6 ≤ sizeLine; decide, fun l2 hl2 => ⟨.int way, rfl, l2, _, way, .int high, rfl, rfl, sq_of upd_same, ah, ?_⟩⟩
    refine ⟨by show 6 ≤ sizeLine; decide, fun l3 hl3 => ⟨.int way, rfl, l3, _, way, .int dear, rfl, rfl, sq_of upd_same, ad, _, _, rfl, ?_⟩⟩
    have eb4 := (eb3.new (o := .lst [.int 9, .int 9, .int 30, .int 60, .int 25, .int 200]) hl2).new (o := .lst [.int 3, .int 1, .int 1, .int 10, .int 4, .int 40]) hl3
    have hb4 := (hb3.ex (Ex.new (o := .lst [.int 9, .int 9, .int 30, .int 60, .int 25, .int 200]) hl2)).ex (Ex.new (o := .lst [.int 3, .int 1, .int 1, .int 10, .int 4, .int 40]) hl3)
    clear eb3 hb3
    obtain ⟨bs, hbs, abs⟩ := at_ints (zs := [0, -4, -15, 0, 10 ^ (12 : Int).toNat - 1000, -100]) w0 w1
    have hbs0 : -100 ≤ bs ∧ bs ≤ 999999999000 := by
      have e12 : (10 : Int) ^ (12 : Int).toNat - 1000 = 999999999000 := by decide
      rw [e12] at hbs
      simp only [List.mem_cons, List.not_mem_nil, or_false] at hbs
      omega
    refine q_cut (M := fun σ' H' => ∃ toll : Int, σ' = [some (.ref p), some (.int (m : Int)), some (.int (1 + r1)), some (.int way), some (.int rise), some (.int high), some (.int dear), some (.int bs), some (.int toll), none, none] ∧ 0 ≤ toll ∧ toll ≤ 6 ∧ ExB p H H' ∧ Bx H' p (n + 4)) ?_ (fun σ' H5 hM => ?_)
    · refine ⟨4, rfl, 15, rfl, 10, 12, rfl, rfl, ⟨by decide, by decide, by decide⟩, _, 1000, rfl, rfl, 100, rfl, by show 6 ≤ sizeLine; decide, fun l4 hl4 => ⟨.int way, rfl, l4, _, way, .int bs, rfl, rfl, sq_of upd_same, abs, ?_⟩⟩
      refine ⟨.int way, rfl, rfl, _, rfl, ite2 (fun e => ?_) (fun e => ?_)⟩
      · refine ⟨.ref p, rfl, p, 6, n + 3, rfl, by decide, by decide, hb4.ex (Ex.new hl4), by omega, fun r H5 r0 r1 e5 hb5 => ⟨_, _, rfl, r, rfl, r0, by omega, (eb4.new hl4).trans e5, hb5⟩⟩
      · exact ⟨_, _, rfl, 0, rfl, by decide, by decide, eb4.new hl4, (hb4.ex (Ex.new hl4)).le (by omega)⟩
    · obtain ⟨toll, rfl, t0, t1, eb5, hb5⟩ := hM
      refine q_asgL (el_lst ea_nil (by show 0 ≤ 100000; decide)) fun l5 H6 hl5 e6 h6 => ?_
      have hpl : p ≠ l5 := hb5.ne hl5
      have hl5H : H l5 = none := eb5.back hl5 (Ne.symm hpl)
      refine q_forR1 (n := 1 + r1) (ea_cons (ev_var rfl) ea_nil) (by omega) (fun i σ' H' => ∃ (y : Option V) (vs : List V) (rs : HH.Row), σ' = [some (.ref p), some (.int (m : Int)), some (.int (1 + r1)), some (.int way), some (.int rise), some (.int high), some (.int dear), some (.int bs), some (.int toll), some (.ref l5), y] ∧ rs.length = i ∧ H' l5 = some (.lst vs) ∧ Beasts K H' vs rs ∧ (∀ b ∈ rs, Tame b) ∧ Bx H' p (n + 4 + 2 * i) ∧ ExB p H H') (fun H7 e7 => ?_) (fun i σ' H7 hi hp => ?_) (fun σ' H7 hp => ?_)
      · exact ⟨none, [], [], rfl, rfl, e7 _ _ h6, Beasts.nil, (fun b h => by cases h), (hb5.ex (e6.trans e7)).le (by omega), eb5.trans (.of (e6.trans e7))⟩
      · obtain ⟨y, vs, rs, rfl, p1, p2, p3, p4, p5, p6⟩ := hp
        have hri := mul_bd hr0 hr1 (Int.natCast_nonneg i) (show (i : Int) ≤ 40 by omega)
        refine ⟨.ref l5, rfl, .inl ⟨rfl, _, sq_of p2⟩, .int bs, rfl, .int rise, rfl, .int (i : Int), rfl, rise, (i : Int), rfl, rfl, .inl ⟨by omega, by omega⟩, bs, rise * (i : Int), rfl, rfl, .ref p, rfl, .int high, rfl, p, high, n + 4 + 2 * i, rfl, by omega, by omega, p5, by omega, fun s1 H8 s10 s11 e8 hb8 => ?_⟩
        refine ⟨_, _, rfl, rfl, .int toll, rfl, .ref p, rfl, .int dear, rfl, p, dear, n + 4 + 2 * i + 1, rfl, by omega, by omega, hb8, by omega, fun s2 H9 s20 s21 e9 hb9 => ?_⟩
        refine ⟨toll, s2, rfl, rfl, by show 2 ≤ sizeLine; decide, fun T hT => ?_⟩
        have q8 := e8 _ _ (Ne.symm hpl) p2
        have q9 := e9 _ _ (Ne.symm hpl) q8
        have hlT : l5 ≠ T := ne_of_none q9 hT
        have q10 : (upd H9 T (.tup [.int (bs + rise * (i : Int) + s1), .int (toll + s2)])) l5 = some (.lst vs) := by
          rw [upd_ne hlT]
          exact q9
        obtain ⟨xs8, hx8⟩ := p5.lst
        obtain ⟨xs9, hx9⟩ := hb8.lst
        have b10 : Beasts K (upd H9 T (.tup [.int (bs + rise * (i : Int) + s1), .int (toll + s2)])) vs rs := ((p3.exB e8 hx8).exB e9 hx9).ex (Ex.new hT)
        have bt : BeastAt K (upd H9 T (.tup [.int (bs + rise * (i : Int) + s1), .int (toll + s2)])) (.ref T) (bs + rise * (i : Int) + s1, toll + s2) := ⟨T, rfl, st_of upd_same⟩
        refine ⟨l5, vs, .ref T, rfl, rfl, q10, sz_lt (by rw [p3.1]; omega), some (.int (i : Int)), vs ++ [.ref T], rs ++ [(bs + rise * (i : Int) + s1, toll + s2)], rfl, ?_, upd_same, ?_, ?_, ?_, ?_⟩
        · rw [List.length_append, p1]
          rfl
        · exact (b10.app (Beasts.one bt)).exB (ExB.refl _ _).upd q10
        · intro b hb
          rcases List.mem_append.mp hb with h | h
          · exact p4 b h
          · have e := List.mem_singleton.mp h
            subst e
            have e12 : (10 : Int) ^ 12 = 1000000000000 := by decide
            unfold Tame
            rw [e12]
            refine ⟨?_, ?_, ?_, ?_⟩ <;> dsimp only <;> omega
        · exact (((hb9.ex (Ex.new hT)).mut hpl).le (by omega))
        · exact ((((p6.trans e8).trans e9).new hT).mut hl5H)
      · obtain ⟨y, vs, rs, rfl, p1, p2, p3, p4, p5, p6⟩ := hp
        refine ⟨.ref l5, rfl, .inl ⟨l5, vs, rfl, sq_of p2, fun T hT => ?_⟩⟩
        exact q _ _ rs (p6.new hT) ((p5.ex (Ex.new hT)).le (by omega)) ⟨T, vs, rfl, st_of upd_same, p3.ex (Ex.new hT)⟩ (by omega) (by omega) p4
theorem ok_law_lets {f : Addr} {fd : FuncData} (F : FnP K "_law_lets" s_law_lets f fd) (g : mg "_law_lets" = some (.ref f)) (b : Binds K fd ["_law_row_here", "_law_place"] []) : Has P w K mg base 1 "_law_lets" ["_law_row_here", "_law_place"] (spCanPass K) f fd := by
  refine ⟨F.ok sc_law_lets (fun vs H Q E h => ?_) (fun cdv A outer s H vs Q E hr h => ?_), g, F.kp, b⟩
  · obtain ⟨v, rs, p, rfl, _⟩ := h
    rfl
  · obtain ⟨v, rs, p, rfl, hv, hp, q⟩ := h
    refine ⟨_, PSs.nox (pss_one (ps_ret (pe_and (pe_cmpR op_gt (pv 1) pe_int (nomark _)) (pe_one (pe_cmpR op_gt (pe_op op_sub (pe_ix ix_tup (pe_ix ix_tup (pv 0) (pv 1) (fun _ _ => rfl)) pe_int (fun _ _ => rfl)) (pe_ix ix_tup (pe_ix ix_tup (pv 0) (pe_op op_sub (pv 1) pe_int) (fun _ _ => rfl)) pe_int (fun _ _ => rfl))) (pe_ix ix_tup (pe_ix ix_tup (pv 0) (pe_op op_sub (pv 1) pe_int) (fun _ _ => rfl)) pe_int (fun _ _ => rfl)) (nomark _)))))), ?_⟩
    refine s_ret (v := .bl (decide ((p : Int) > 0) && decide (sS rs p - tS rs (p - 1) > sS rs (p - 1)))) (ev_andV (ev_op (ev_var rfl) ev_c rv_I0) fun hb => ?_) fun H1 e1 => ?_
    · have hp0 : 0 < p := by
        have := of_decide_eq_true hb
        omega
      refine ev_op (ev_op (ev_str (ev_var rfl) hv (ev_var rfl) rfl (row_get hp)) (ev_tol (ev_var rfl) hv (ev_op (ev_var rfl) ev_c rv_I0) (show (p : Int) - 1 = ((p - 1 : Nat) : Int) by omega) (row_get (by omega))) rv_I0) (ev_str (ev_var rfl) hv (ev_op (ev_var rfl) ev_c rv_I0) (show (p : Int) - 1 = ((p - 1 : Nat) : Int) by omega) (row_get (by omega))) rv_I0
    · have e : letsN rs p = (decide ((p : Int) > 0) && decide (sS rs p - tS rs (p - 1) > sS rs (p - 1))) := by
        unfold letsN
        congr 1
        exact decide_eq_decide.mpr (by omega)
      rw [← e]
      exact q H1 e1
theorem ok_law_passed {f : Addr} {fd : FuncData} (F : FnP K "_law_passed" s_law_passed f fd) (g : mg "_law_passed" = some (.ref f)) (b : Binds K fd ["_law_row_here", "_law_place"] []) : Has P w K mg base 1 "_law_passed" ["_law_row_here", "_law_place"] (spPassed K) f fd := by
  refine ⟨F.ok sc_law_passed (fun vs H Q E h => ?_) (fun cdv A outer s H vs Q E hr h => ?_), g, F.kp, b⟩
  · obtain ⟨v, rs, p, rfl, _⟩ := h
    rfl
  · obtain ⟨v, rs, p, rfl, hv, hl, ⟨h0, hp⟩, q⟩ := h
    refine ⟨_, PSs.nox (pss_cons (ps_asg (pe_tup (pa_cons (pe_ix ix_tup (pv 0) (pe_op op_sub (pv 1) pe_int) (fun _ _ => rfl)) (pa_cons (pe_ix ix_tup (pv 0) (pv 1) (fun _ _ => rfl)) pa_nil))) (pg_tup rfl (pgs_cons (pg_name (i := 2) sc_law_passed.nd rfl (Or.inl rfl)) (pgs_cons (pg_tup rfl (pgs_cons (pg_name (i := 3) sc_law_passed.nd rfl (Or.inl rfl)) (pgs_cons (pg_name (i := 4) sc_law_passed.nd rfl (Or.inl rfl)) pgs_nil))) pgs_nil))))
      (pss_one (ps_ret (pe_op op_catA (pe_op op_catA (pe_slice sl_tupA (pv 0) po_none (po_some (pe_op op_sub (pv 1) pe_int))) (pe_tup (pa_cons (pe_tup (pa_cons (pe_op op_sub (pv 3) (pe_ix ix_tup (pv 2) pe_int (fun _ _ => rfl))) (pa_cons (pv 4) pa_nil))) (pa_cons (pv 2) pa_nil)))) (pe_slice sl_tupA (pv 0) (po_some (pe_op op_add (pv 1) pe_int)) po_none))))), ?_⟩
    obtain ⟨a, h1, h2⟩ := ev_beast (te := tVar 0) (ti := tOp (rI0 fun i j => .int (i - j)) (tVar 1) (tC (.int 1))) (σ := start ["_law_row_here", "_law_place", "_law_ahead", "_law_strength", "_law_toll"] [v, .int (p : Int)]) (ev_var rfl) hv (ev_op (ev_var rfl) ev_c rv_I0) (show (p : Int) - 1 = ((p - 1 : Nat) : Int) by omega) (row_get (i := p - 1) (by omega))
    obtain ⟨c, g1, g2⟩ := ev_beast (te := tVar 0) (ti := tVar 1) (σ := start ["_law_row_here", "_law_place", "_law_ahead", "_law_strength", "_law_toll"] [v, .int (p : Int)]) (ev_var rfl) hv (ev_var rfl) rfl (row_get hp)
    refine q_asg12 h1 g1 g2 fun H1 e1 => ?_
    refine s_retR (rs := passR rs p) (er_cat (er_cat (er_to (er_val (ev_var rfl) (hv.ex e1)) (ev_op (ev_var rfl) ev_c rv_I0) (show (p : Int) - 1 = ((p - 1 : Nat) : Int) by omega)) (er_two (eb_tup (ev_op (ev_var rfl) (ev_op (ev_var rfl) ev_c (rv_ixT (ex_t e1 h2) rfl)) rv_I0) (ev_var rfl)) (eb_val (ev_var rfl) ⟨a, rfl, ex_t e1 h2⟩)) ?_) (er_from (er_val (ev_var rfl) (hv.ex e1)) (ev_op (ev_var rfl) ev_c rv_I0) (show (p : Int) + 1 = ((p + 1 : Nat) : Int) by omega)) ?_) fun v' H2 e2 h => q v' H2 (e1.trans e2) h
    · rw [List.length_take]
      show min (p - 1) rs.length + 2 ≤ 100000
      omega
    · rw [List.length_append, List.length_take, List.length_drop]
      show min (p - 1) rs.length + 2 + (rs.length - (p + 1)) ≤ 100000
      omega
theorem ok_law_ended {f f1 f2 f3 : Addr} {fd fd1 fd2 fd3 : FuncData} (F : FnP K "_law_ended" s_law_ended f fd) (g : mg "_law_ended" = some (.ref f)) (b : Binds K fd ["_law_box", "_law_row_here"] []) (h_law_of : Has P w K mg base 2 "_law_of" ["_law_box", "_law_pool"] (spOf K) f1 fd1) (h_law_lets : Has P w K mg base 1 "_law_lets" ["_law_row_here", "_law_place"] (spCanPass K) f2 fd2) (h_law_passed : Has P w K mg base 1 "_law_passed" ["_law_row_here", "_law_place"] (spPassed K) f3 fd3)
    (m_range : mg "range" = none) (m_tuple : mg "tuple" = none) (m_list : mg "list" = none) (m_len : mg "len" = none) : Has P w K mg base 3 "_law_ended" ["_law_box", "_law_row_here"] (spEnded K) f fd := by
  refine ⟨F.ok sc_law_ended (fun vs H Q E h => ?_) (fun cdv A outer s H vs Q E hr h => ?_), g, F.kp, b⟩
  · obtain ⟨p, v, rs, n, rfl, _⟩ := h
    rfl
  · obtain ⟨p, v, rs, n, rfl, hv, hl, ht, hb, hn, q⟩ := h
    refine ⟨_, PSs.nox (pss_cons (ps_par (i := 2) (j := 3) (by rfl) sc_law_ended.nd rfl rfl (by decide) rfl rfl (pa_cons (pe_listRg rfl (by rfl) m_list (prg_1 (by rfl) m_range (pe_callB call_len_seq (by rfl) m_len PySem.boot_len (pa_cons (pv 1) pa_nil)))) (pa_cons (pe_lst pa_nil) pa_nil)) (by rfl))
      (pss_cons (ps_setLc (i := 5) (own := [("_law_place", 4)]) (g := gName 4) (by rfl) sc_law_ended.nd rfl rfl (sw_true rfl rfl rfl (by decide +kernel)) (pi_range1 (by rfl) m_range (pa_cons (pe_callB call_len_seq (by rfl) m_len PySem.boot_len (pa_cons (pv 1) pa_nil)) pa_nil)) (blkOk_by (own := [("_law_place", 4)]) (N := ["_law_box", "_law_row_here", "_law_order", "_law_pairs", "_law_place", "_law_some"]) (sc := defScope s_law_ended) (by decide +kernel)) (fun _ _ _ _ _ => (pg_name (i := 4) sc_law_ended.nd rfl (Or.inl rfl))) (fun _ _ _ _ _ => (pts_one (pt_val (pe_call h_law_lets.G (hr.mono (by decide)) (by rfl) h_law_lets.g h_law_lets.kp h_law_lets.b .nil pass0 (pa_cons (pv 1) (pa_cons (pv 4) pa_nil)))))) (fun _ _ _ _ _ => (pv 4)))
      (pss_cons (ps_while PassesOwn.never (pt_cmpR (op_neD hr.units) (pv 5) (pe_lst pa_nil) (nomark _)) (pss_cons (ps_set (i := 4) sc_law_ended.nd rfl (.inl rfl) (pe_call h_law_of.G (hr.mono (by decide)) (by rfl) h_law_of.g h_law_of.kp h_law_of.b .nil pass0 (pa_cons (pv 0) (pa_cons (pv 5) pa_nil))))
      (pss_cons (ps_set (i := 1) sc_law_ended.nd rfl (.inr rfl) (pe_call h_law_passed.G (hr.mono (by decide)) (by rfl) h_law_passed.g h_law_passed.kp h_law_passed.b .nil pass0 (pa_cons (pv 1) (pa_cons (pv 4) pa_nil))))
      (pss_cons (ps_expr (pe_bm PySem.F.plainAttrs_list PySem.F.slot_list_append PySem.F.type_list_append mt_append (pv 3) (pa_cons (pe_tup (pa_cons (pe_ix ix_list (pv 2) (pe_op op_sub (pv 4) pe_int) (fun _ _ => rfl)) (pa_cons (pe_ix ix_list (pv 2) (pv 4) (fun _ _ => rfl)) pa_nil))) pa_nil)))
      (pss_cons (ps_asg (pe_lst (pa_cons (pe_ix ix_list (pv 2) (pv 4) (fun _ _ => rfl)) (pa_cons (pe_ix ix_list (pv 2) (pe_op op_sub (pv 4) pe_int) (fun _ _ => rfl)) pa_nil))) (pg_sl (pv 2) (pe_op op_sub (pv 4) pe_int) (pe_op op_add (pv 4) pe_int)))
      (pss_one (ps_setLc (i := 5) (own := [("_law_place", 4)]) (g := gName 4) (by rfl) sc_law_ended.nd rfl rfl (sw_true rfl rfl rfl (by decide +kernel)) (pi_range1 (by rfl) m_range (pa_cons (pe_callB call_len_seq (by rfl) m_len PySem.boot_len (pa_cons (pv 1) pa_nil)) pa_nil)) (blkOk_by (own := [("_law_place", 4)]) (N := ["_law_box", "_law_row_here", "_law_order", "_law_pairs", "_law_place", "_law_some"]) (sc := defScope s_law_ended) (by decide +kernel)) (fun _ _ _ _ _ => (pg_name (i := 4) sc_law_ended.nd rfl (Or.inl rfl))) (fun _ _ _ _ _ => (pts_one (pt_val (pe_call h_law_lets.G (hr.mono (by decide)) (by rfl) h_law_lets.g h_law_lets.kp h_law_lets.b .nil pass0 (pa_cons (pv 1) (pa_cons (pv 4) pa_nil)))))) (fun _ _ _ _ _ => (pv 4)))))))))
      (pss_one (ps_ret (pe_tup (pa_cons (pv 1) (pa_cons (pe_tupleOf (by rfl) m_tuple (pv 2)) (pa_cons (pv 3) pa_nil))))))))), ?_⟩
    have hv0 := hv
    obtain ⟨a, vs, rfl, hta, hbs⟩ := hv0
    refine ⟨.ref a, rfl, a, vs, rfl, .inr hta, _, rfl, RgOk.of_le (by decide) (by rw [hbs.1]; omega) (by decide) (by omega), fun lo hlo => ⟨by show 0 ≤ sizeLine; decide, fun lp hlp => ⟨_, _, rfl, ?_⟩⟩⟩
    rw [hbs.1, ord_tag] at hlp ⊢
    have e1 : Ex H (upd H lo (.lst (ordL (tag 0 rs)))) := Ex.new hlo
    have hlpH : H lp = none := fresh_back e1 hlp
    have hlolp : lo ≠ lp := fun z => by
      subst z
      rw [upd_same] at hlp
      cases hlp
    have e2 : Ex H (upd (upd H lo (.lst (ordL (tag 0 rs)))) lp (.lst [])) := e1.trans (Ex.new hlp)
    have hlo2 : (upd (upd H lo (.lst (ordL (tag 0 rs)))) lp (.lst [])) lo = some (.lst (ordL (tag 0 rs))) := by
      rw [upd_ne hlolp, upd_same]
    have hlp2 : (upd (upd H lo (.lst (ordL (tag 0 rs)))) lp (.lst [])) lp = some (.lst []) := upd_same
    generalize upd (upd H lo (.lst (ordL (tag 0 rs)))) lp (.lst []) = H2 at e2 hlo2 hlp2 ⊢
    refine q_asgL (el_lcR1 (letsN rs) (fun i => .int (i : Int)) (ea_cons (ev_lenR (ev_var rfl) (hv.ex e2)) ea_nil) (by omega) (fun x => rfl) (fun i H1 e1 hi => et_B (ev_call (ea_cons (ev_var rfl) (ea_cons (ev_var rfl) ea_nil)) (sv_can_pass (hv.ex (e2.trans e1)) (by omega)))) (fun i H1 e1 hi _ => ev_var rfl)) fun ls H3 hls e3 h3 => ?_
    refine q_while (fun m σ' H' => ∃ (v' : V) (y4 : Option V) (ls : Addr) (L : List Cow) (ps : List (Int × Int)) (pvs : List V) (c : Nat), σ' = [some (.ref p), some v', some (.ref lo), some (.ref lp), y4, some (.ref ls)] ∧ m = asc (L.map (·.1)) ∧ RowAt K H' v' (HH.rowsOf L) ∧ PRun (tag 0 rs) L ps ∧ Facts rs.length L ps ∧ PInv L ∧ H' lo = some (.lst (ordL L)) ∧ H' lp = some (.lst pvs) ∧ Beasts K H' pvs ps ∧ H' ls = some (.lst (HH.passL (HH.rowsOf L))) ∧ ls ≠ p ∧ Bx H' p c ∧ c + m ≤ n + 900 ∧ ExB p H H') (asc ((tag 0 rs).map (·.1))) ?_ (fun m σ' H' hW => ?_)
    · have hf := facts_tag ht
      have hfew := hf.few
      have hll : rs.length * rs.length ≤ 30 * 30 := Nat.mul_le_mul hl hl
      have e23 := e2.trans e3
      refine ⟨_, none, ls, tag 0 rs, [], [], n, rfl, rfl, ?_, .nil, hf, pinv_tag 0 rs, e3 _ _ hlo2, e3 _ _ hlp2, Beasts.nil, ?_, ((hb.ex e2).ne hls).symm, hb.ex e23, ?_, .of e23⟩
      · rw [show HH.rowsOf (tag 0 rs) = rs from tag_snd 0 rs]
        exact hv.ex e23
      · rw [show HH.rowsOf (tag 0 rs) = rs from tag_snd 0 rs]
        exact h3
      · have : ([] : List (Int × Int)).length = 0 := rfl
        omega
    · obtain ⟨v', y4, ls, L, ps, pvs, c, rfl, rfl, w1, w2, w3, w4, w5, w6, w7, w8, hlsp, w9, w10, w11⟩ := hW
      have hLl : (HH.rowsOf L).length = rs.length := by rw [cow_len, w3.len]
      obtain ⟨ns, hns⟩ : ∃ ns : List Int, HH.passL (HH.rowsOf L) = ns.map V.int := by
        refine ⟨((List.range (HH.rowsOf L).length).filter (letsN (HH.rowsOf L))).map fun (i : Nat) => (i : Int), ?_⟩
        unfold HH.passL given
        rw [List.map_map]
        rfl
      have w8' := w8
      rw [hns] at w8'
      refine ⟨!(HH.passL (HH.rowsOf L)).isEmpty, by rw [hns]; exact et_neNil (ev_var rfl) (sq_of w8') (dp_ints ns) (nice_ints ns) (by decide), fun hd H1 e1 => ?_, fun hd H1 e1 => ?_⟩
      · have hne : 0 < (HH.passL (HH.rowsOf L)).length := by
          cases hz : HH.passL (HH.rowsOf L) with
          | nil =>
            rw [hz] at hd
            cases hd
          | cons x r => exact Nat.succ_pos _
        have hshort : (HH.passL (HH.rowsOf L)).length ≤ rs.length := by
          rw [← hLl]
          exact given_len ..
        refine ⟨fun σ2 H2 => ∃ m', m' < asc (L.map (·.1)) ∧ ∃ (v' : V) (y4 : Option V) (ls : Addr) (L : List Cow) (ps : List (Int × Int)) (pvs : List V) (c : Nat), σ2 = [some (.ref p), some v', some (.ref lo), some (.ref lp), y4, some (.ref ls)] ∧ m' = asc (L.map (·.1)) ∧ RowAt K H2 v' (HH.rowsOf L) ∧ PRun (tag 0 rs) L ps ∧ Facts rs.length L ps ∧ PInv L ∧ H2 lo = some (.lst (ordL L)) ∧ H2 lp = some (.lst pvs) ∧ Beasts K H2 pvs ps ∧ H2 ls = some (.lst (HH.passL (HH.rowsOf L))) ∧ ls ≠ p ∧ Bx H2 p c ∧ c + m' ≤ n + 900 ∧ ExB p H H2, fun σ2 H2 h => h, ?_⟩
        refine ⟨.ref p, rfl, .ref ls, rfl, p, ls, HH.passL (HH.rowsOf L), c, rfl, sq_of (e1 _ _ w8), hne, by omega, hlsp, w9.ex e1, by omega, fun r x H2 hx e2 hb2 => ?_⟩
        obtain ⟨k, rfl, hk, hlet⟩ := given_get hx
        obtain ⟨pre, post, ca, cb, rfl, rfl, hpp, hpr⟩ := cow_pass hk hlet
        have x2 : ExB p H' H2 := (ExB.of e1).trans e2
        obtain ⟨ys9, hys9⟩ := w9.lst
        have hplo : lo ≠ p := (hb.ne hlo).symm
        have hplp : lp ≠ p := (hb.ne hlpH).symm
        have r2 := w1.exB x2 w9
        have lo2 := x2 _ _ hplo w5
        have lp2 := x2 _ _ hplp w6
        have bs2 := w7.exB x2 hys9
        refine ⟨v', rfl, .int ((pre.length + 1 : Nat) : Int), rfl, v', _, pre.length + 1, rfl, r2, by omega, ⟨by omega, hk⟩, fun v2 H3 e3 hv2 => ?_⟩
        rw [hpr] at hv2
        have lo3 := e3 _ _ lo2
        have lp3 := e3 _ _ lp2
        have bs3 := bs2.ex e3
        have hb3 := hb2.ex e3
        have x3 : ExB p H H3 := (w11.trans x2).trans (.of e3)
        have hkk : ((pre.length + 1 : Nat) : Int) - 1 = (pre.length : Int) := by omega
        have i1 : atI (ordL (pre ++ ca :: cb :: post)) (((pre.length + 1 : Nat) : Int) - 1) = some (.int (ca.1 : Int)) := by
          rw [hkk]
          exact atI_nat ord_get.1
        have i2 : atI (ordL (pre ++ ca :: cb :: post)) ((pre.length + 1 : Nat) : Int) = some (.int (cb.1 : Int)) := atI_nat ord_get.2
        obtain ⟨f1, f2, f3⟩ := facts_pass (q := ((ca.1 : Int), (cb.1 : Int))) w3 w4 hpp
        have hll : rs.length * rs.length ≤ 30 * 30 := Nat.mul_le_mul hl hl
        have hfew := w3.few
        refine q_appU lp3 (ev_var rfl) (eu_tup (ea_cons (ev_op (ev_var rfl) (ev_op (ev_var rfl) ev_c rv_I0) (rv_ixL (sq_of lo3) i1)) (ea_cons (ev_op (ev_var rfl) (ev_var rfl) (rv_ixL (sq_of lo3) i2)) ea_nil)) (by show 2 ≤ 100000; decide)) (by rw [w7.1]; omega) fun T H4 hT e4 h4 => ?_
        have lp4 := e4 _ _ lp3
        have x5 : ExB lp H4 (upd H4 lp (.lst (pvs ++ [.ref T]))) := (ExB.refl _ _).upd
        have r5 := (hv2.ex e4).exL x5 lp4
        have lo5 := x5 _ _ hlolp (e4 _ _ lo3)
        have lp5 : (upd H4 lp (.lst (pvs ++ [.ref T]))) lp = some (.lst (pvs ++ [.ref T])) := upd_same
        have bs5 := ((bs3.ex e4).app (Beasts.one (b := ((ca.1 : Int), (cb.1 : Int))) ⟨T, rfl, st_of h4⟩)).exB x5 lp4
        have hb5 := (hb3.ex e4).mut (o := .lst (pvs ++ [.ref T])) (Ne.symm hplp)
        have z5 : ExB p H (upd H4 lp (.lst (pvs ++ [.ref T]))) := (x3.trans (.of e4)).mut hlpH
        generalize upd H4 lp (.lst (pvs ++ [.ref T])) = H5 at r5 lo5 lp5 bs5 hb5 z5 ⊢
        refine q_sl (i := pre.length) (j := pre.length + 2) (el_lst (ea_cons (ev_op (ev_var rfl) (ev_var rfl) (rv_ixL (sq_of lo5) i2)) (ea_cons (ev_op (ev_var rfl) (ev_op (ev_var rfl) ev_c rv_I0) (rv_ixL (sq_of lo5) i1)) ea_nil)) (by show 2 ≤ 100000; decide)) (ev_var rfl) (ev_op (ev_var rfl) ev_c rv_I0) (ev_op (ev_var rfl) ev_c rv_I0) hkk (by omega) lo5 (by omega) (by rw [ord_len, List.length_append, List.length_cons, List.length_cons]; omega) (by rw [ord_len, w3.len]; show rs.length + 2 ≤ 100000; omega) fun H6 e6 => ?_
        rw [ord_swap (u := (cb.2.1 - ca.2.2, cb.2.2)) (v := ca.2)]
        have lo6 := e6 _ _ lo5
        have x7 : ExB lo H6 (upd H6 lo (.lst (ordL (pre ++ (cb.1, (cb.2.1 - ca.2.2, cb.2.2)) :: (ca.1, ca.2) :: post)))) := (ExB.refl _ _).upd
        have r7 := (r5.ex e6).exL x7 lo6
        have lp7 := x7 _ _ (Ne.symm hlolp) (e6 _ _ lp5)
        have lo7 : (upd H6 lo (.lst (ordL (pre ++ (cb.1, (cb.2.1 - ca.2.2, cb.2.2)) :: (ca.1, ca.2) :: post)))) lo = some (.lst (ordL (pre ++ (cb.1, (cb.2.1 - ca.2.2, cb.2.2)) :: (ca.1, ca.2) :: post))) := upd_same
        have bs7 := (bs5.ex e6).exB x7 lo6
        have hb7 := (hb5.ex e6).mut (o := .lst (ordL (pre ++ (cb.1, (cb.2.1 - ca.2.2, cb.2.2)) :: (ca.1, ca.2) :: post))) (Ne.symm hplo)
        have z7 : ExB p H (upd H6 lo (.lst (ordL (pre ++ (cb.1, (cb.2.1 - ca.2.2, cb.2.2)) :: (ca.1, ca.2) :: post)))) := (z5.trans (.of e6)).mut hlo
        generalize upd H6 lo (.lst (ordL (pre ++ (cb.1, (cb.2.1 - ca.2.2, cb.2.2)) :: (ca.1, ca.2) :: post))) = H7 at r7 lp7 lo7 bs7 hb7 z7 ⊢
        have hL7 : (HH.rowsOf (pre ++ (cb.1, (cb.2.1 - ca.2.2, cb.2.2)) :: ca :: post)).length = rs.length := by rw [cow_len, f1.len]
        refine s_asgL (el_lcR1 (letsN (HH.rowsOf (pre ++ (cb.1, (cb.2.1 - ca.2.2, cb.2.2)) :: ca :: post))) (fun i => .int (i : Int)) (ea_cons (ev_lenR (ev_var rfl) r7) ea_nil) (by omega) (fun x => rfl) (fun i H1 e1 hi => et_B (ev_call (ea_cons (ev_var rfl) (ea_cons (ev_var rfl) ea_nil)) (sv_can_pass (r7.ex e1) (by omega)))) (fun i H1 e1 hi _ => ev_var rfl)) fun ls8 H8 hls8 e8 h8 => ?_
        exact ⟨_, f3, v2, some (.int ((pre.length + 1 : Nat) : Int)), ls8, pre ++ (cb.1, (cb.2.1 - ca.2.2, cb.2.2)) :: ca :: post, ps ++ [((ca.1 : Int), (cb.1 : Int))], pvs ++ [.ref T], c + 1, rfl, rfl, r7.ex e8, .step w2 hpp, f1, f2, e8 _ _ lo7, e8 _ _ lp7, bs7.ex e8, h8, (hb7.ne hls8).symm, hb7.ex e8, by omega, z7.trans (.of e8)⟩
      · -- return
        have hnil : HH.passL (HH.rowsOf L) = [] := by
          cases hz : HH.passL (HH.rowsOf L) with
          | nil => rfl
          | cons x r =>
            rw [hz] at hd
            cases hd
        refine ⟨v', rfl, .ref lo, rfl, .inl ⟨lo, _, rfl, sq_of (e1 _ _ w5), fun ot hot => ⟨.ref lp, rfl, by show 3 ≤ sizeLine; decide, fun qq hqq => ?_⟩⟩⟩
        have ee := (e1.trans (Ex.new (o := .tup (ordL L)) hot)).trans (Ex.new (o := .tup [v', .ref ot, .ref lp]) hqq)
        refine q qq v' ot lp pvs L ps _ ⟨w11.trans (.of ee), (w9.ex ee).le (by omega), upd_same, w1.ex ee, ?_, ee _ _ w6, w7.ex ee⟩ w2 w3 hnil
        exact Ex.new hqq _ _ upd_same
end
end K67
set_option maxHeartbeats 4000000
namespace K67
open PySem PySem.Spec PyProof.Rows L2 Evl HH RZ
section
variable {P : Program} {w : World} {K : PySem.W.Frag} {mg : Str → Option Value} {base : Heap}
theorem ok_law_dear_right {f f1 f2 f3 f4 : Addr} {fd fd1 fd2 fd3 fd4 : FuncData} (F : FnP K "_law_dear_right" s_law_dear_right f fd) (g : mg "_law_dear_right" = some (.ref f)) (b : Binds K fd ["_law_box", "_law_many"] [])
    (h_law_take : Has P w K mg base 1 "_law_take" ["_law_box", "_law_many"] spTake f1 fd1) (h_law_same : Has P w K mg base 5 "_law_same" ["_law_found", "_law_due"] (spSame K 5) f2 fd2) (h_last : Has P w K mg base 2 "last" ["row"] (spLastF K) f3 fd3) (h_passings : Has P w K mg base 3 "passings" ["row"] (spPairsT K toLast) f4 fd4)
    (m_range : mg "range" = none) (m_tuple : mg "tuple" = none) (m_sorted : mg "sorted" = none) (m_len : mg "len" = none) (m_any : mg "any" = none) : Has P w K mg base 6 "_law_dear_right" ["_law_box", "_law_many"] (spMake K 23) f fd := by
  refine ⟨F.ok sc_law_dear_right (fun vs H Q E h => ?_) (fun cdv A outer s H vs Q E hr h => ?_), g, F.kp, b⟩
  · obtain ⟨p, n, m, rfl, _⟩ := h
    rfl
  · obtain ⟨p, n, m, rfl, n1, n23, bx, hm, q⟩ := h
    refine ⟨_, PSs.nox (pss_cons (ps_set (i := 2) sc_law_dear_right.nd rfl (.inl rfl) (pe_revL (pe_callB cr_sortedI (by rfl) m_sorted (by decide +kernel) (pa_cons (pe_lc (own := [("_law_place", 11)]) (g := gName 11) (by rfl) sc_law_dear_right.nd (pi_range1 (by rfl) m_range (pa_cons (pv 1) pa_nil)) (blkOk_by (own := [("_law_place", 11)]) (N := ["_law_box", "_law_many", "_law_strengths", "_law_strength", "_law_toll", "_law_row_here", "_law_free", "_law_order", "_law_ended_here", "_law_own", "_law_at", "_law_place", "_law_other", "_law_its"]) (sc := defScope s_law_dear_right) (by decide +kernel)) (fun _ _ _ _ _ => (pg_name (i := 11) sc_law_dear_right.nd rfl (Or.inl rfl))) (fun _ _ _ _ _ => pts_nil) (fun _ _ _ _ _ => (pe_call h_law_take.G (hr.mono (by decide)) (by rfl) h_law_take.g h_law_take.kp h_law_take.b .nil pass0 (pa_cons (pv 0) (pa_cons pe_int pa_nil))))) pa_nil))))
      (pss_cons (ps_asg (pe_tup (pa_cons (pe_call h_law_take.G (hr.mono (by decide)) (by rfl) h_law_take.g h_law_take.kp h_law_take.b .nil pass0 (pa_cons (pv 0) (pa_cons pe_int pa_nil))) (pa_cons (pe_call h_law_take.G (hr.mono (by decide)) (by rfl) h_law_take.g h_law_take.kp h_law_take.b .nil pass0 (pa_cons (pv 0) (pa_cons pe_int pa_nil))) pa_nil))) (pg_tup rfl (pgs_cons (pg_name (i := 3) sc_law_dear_right.nd rfl (Or.inr rfl)) (pgs_cons (pg_name (i := 4) sc_law_dear_right.nd rfl (Or.inr rfl)) pgs_nil))))
      (pss_cons (ps_set (i := 5) sc_law_dear_right.nd rfl (.inl rfl) (pe_op op_catA (pe_tup (pa_cons (pe_tup (pa_cons (pv 3) (pa_cons (pv 4) pa_nil))) pa_nil)) (pe_tupleOf (by rfl) m_tuple (pe_lc (own := [("_law_own", 9)]) (g := gName 9) (by rfl) sc_law_dear_right.nd (pi_list (pv 2)) (blkOk_by (own := [("_law_own", 9)]) (N := ["_law_box", "_law_many", "_law_strengths", "_law_strength", "_law_toll", "_law_row_here", "_law_free", "_law_order", "_law_ended_here", "_law_own", "_law_at", "_law_place", "_law_other", "_law_its"]) (sc := defScope s_law_dear_right) (by decide +kernel)) (fun _ _ _ _ _ => (pg_name (i := 9) sc_law_dear_right.nd rfl (Or.inl rfl))) (fun _ _ _ _ _ => pts_nil) (fun _ _ _ _ _ => (pe_tup (pa_cons (pv 9) (pa_cons (pe_call h_law_take.G (hr.mono (by decide)) (by rfl) h_law_take.g h_law_take.kp h_law_take.b .nil pass0 (pa_cons (pv 0) (pa_cons pe_int pa_nil))) pa_nil))))))))
      (pss_cons (ps_set (i := 6) sc_law_dear_right.nd rfl (.inl rfl) (pe_callB call_len_seq (by rfl) m_len PySem.boot_len (pa_cons (pe_lc (own := [("_law_own", 9)]) (g := gName 9) (by rfl) sc_law_dear_right.nd (pi_list (pv 2)) (blkOk_by (own := [("_law_own", 9)]) (N := ["_law_box", "_law_many", "_law_strengths", "_law_strength", "_law_toll", "_law_row_here", "_law_free", "_law_order", "_law_ended_here", "_law_own", "_law_at", "_law_place", "_law_other", "_law_its"]) (sc := defScope s_law_dear_right) (by decide +kernel)) (fun _ _ _ _ _ => (pg_name (i := 9) sc_law_dear_right.nd rfl (Or.inl rfl))) (fun _ _ _ _ _ => (pts_one (pt_cmpR op_gt (pv 9) (pe_op op_add (pv 3) (pv 4)) (nomark _)))) (fun _ _ _ _ _ => (pv 9))) pa_nil)))
      (pss_cons (ps_set (i := 7) sc_law_dear_right.nd rfl (.inl rfl) (pe_op op_catA (pe_op op_catA (pe_tupRg rfl (by rfl) m_tuple (prg_2 (by rfl) m_range pe_int (pe_op op_add (pv 6) pe_int))) (pe_tup (pa_cons pe_int pa_nil))) (pe_tupRg rfl (by rfl) m_tuple (prg_2 (by rfl) m_range (pe_op op_add (pv 6) pe_int) (pe_op op_add (pv 1) pe_int)))))
      (pss_cons (ps_set (i := 8) sc_law_dear_right.nd rfl (.inr rfl) (pe_op op_catA (pe_op op_catA (pe_tupleOf (by rfl) m_tuple (pe_lc (own := [("_law_own", 9), ("_law_its", 13)]) (g := gTup K 2 (gCons (gName 9) (gCons (gName 13) gNil))) (by rfl) sc_law_dear_right.nd (pi_tup (pe_slice sl_tupA (pv 5) (po_some pe_int) (po_some (pe_op op_add (pv 6) pe_int)))) (blkOk_by (own := [("_law_own", 9), ("_law_its", 13)]) (N := ["_law_box", "_law_many", "_law_strengths", "_law_strength", "_law_toll", "_law_row_here", "_law_free", "_law_order", "_law_ended_here", "_law_own", "_law_at", "_law_place", "_law_other", "_law_its"]) (sc := defScope s_law_dear_right) (by decide +kernel)) (fun _ _ _ _ _ => (pg_tup rfl (pgs_cons (pg_name (i := 9) sc_law_dear_right.nd rfl (Or.inl rfl)) (pgs_cons (pg_name (i := 13) sc_law_dear_right.nd rfl (Or.inl rfl)) pgs_nil)))) (fun _ _ _ _ _ => pts_nil) (fun _ _ _ _ _ => (pe_tup (pa_cons (pe_op op_sub (pv 9) (pv 4)) (pa_cons (pv 13) pa_nil)))))) (pe_slice sl_tupA (pv 5) po_none (po_some pe_int))) (pe_slice sl_tupA (pv 5) (po_some (pe_op op_add (pv 6) pe_int)) po_none)))
      (pss_cons (ps_if (pt_val (pe_callB (cr_any rfl) (by rfl) m_any (by decide +kernel) (pa_cons (pe_lc (own := [("_law_at", 10)]) (g := gName 10) (by rfl) sc_law_dear_right.nd (pi_range1 (by rfl) m_range (pa_cons (pv 1) pa_nil)) (blkOk_by (own := [("_law_at", 10)]) (N := ["_law_box", "_law_many", "_law_strengths", "_law_strength", "_law_toll", "_law_row_here", "_law_free", "_law_order", "_law_ended_here", "_law_own", "_law_at", "_law_place", "_law_other", "_law_its"]) (sc := defScope s_law_dear_right) (by decide +kernel)) (fun _ _ _ _ _ => (pg_name (i := 10) sc_law_dear_right.nd rfl (Or.inl rfl))) (fun _ _ _ _ _ => pts_nil) (fun _ _ _ _ _ => (pe_cmpR op_gt (pe_op op_sub (pe_ix (ix_tupK (K := K)) (pe_ix (ix_tupK (K := K)) (pv 8) (pe_op op_add (pv 10) pe_int) (fun _ _ => rfl)) pe_int (fun _ _ => rfl)) (pe_ix (ix_tupK (K := K)) (pe_ix (ix_tupK (K := K)) (pv 8) (pv 10) (fun _ _ => rfl)) pe_int (fun _ _ => rfl))) (pe_ix (ix_tupK (K := K)) (pe_ix (ix_tupK (K := K)) (pv 8) (pv 10) (fun _ _ => rfl)) pe_int (fun _ _ => rfl)) (nomark _)))) pa_nil))) (pss_one (ps_ret pe_bl)) pss_nil)
      (pss_one (ps_ret (pe_call h_law_same.G (hr.mono (by decide)) (by rfl) h_law_same.g h_law_same.kp h_law_same.b .nil pass0 (pa_cons (pe_lst (pa_cons (pe_call h_last.G (hr.mono (by decide)) (by rfl) h_last.g h_last.kp h_last.b .nil pass0 (pa_cons (pv 5) pa_nil)) (pa_cons (pe_call h_passings.G (hr.mono (by decide)) (by rfl) h_passings.g h_passings.kp h_passings.b .nil pass0 (pa_cons (pv 5) pa_nil)) pa_nil))) (pa_cons (pe_lst (pa_cons (pe_tup (pa_cons (pv 8) (pa_cons (pv 7) pa_nil))) (pa_cons (pe_lc (own := [("_law_other", 12)]) (g := gName 12) (by rfl) sc_law_dear_right.nd (pi_range2 (by rfl) m_range (pa_cons pe_int (pa_cons (pe_op op_add (pv 6) pe_int) pa_nil))) (blkOk_by (own := [("_law_other", 12)]) (N := ["_law_box", "_law_many", "_law_strengths", "_law_strength", "_law_toll", "_law_row_here", "_law_free", "_law_order", "_law_ended_here", "_law_own", "_law_at", "_law_place", "_law_other", "_law_its"]) (sc := defScope s_law_dear_right) (by decide +kernel)) (fun _ _ _ _ _ => (pg_name (i := 12) sc_law_dear_right.nd rfl (Or.inl rfl))) (fun _ _ _ _ _ => pts_nil) (fun _ _ _ _ _ => (pe_tup (pa_cons pe_int (pa_cons (pv 12) pa_nil))))) pa_nil))) pa_nil)))))))))))), ?_⟩
    refine q_revSort (list_draw (n := n) (c := 1) (m := m) (P := fun _ => True) (ea_cons (ev_var rfl) ea_nil) (by omega) (by intro _; rfl) bx (by omega) (fun k => dr_weak (dr_take (p := p) (m := 90) rfl (fun H1 => ev_c) (by decide) (by decide)) fun _ _ => trivial) fun a H1 ns x1 b1 ga hl _ => sort_set ga fun ms dq H3 pm srt n3 hdq g3 => ?_)
    have dl : ms.reverse.length = n := by rw [List.length_reverse, pm.length_eq, hl]
    have dpw : ms.reverse.Pairwise fun a b => b ≤ a := List.pairwise_reverse.mpr srt
    generalize ms.reverse = ds at g3 dl dpw
    have b3 := b1.ex n3
    have x3 : ExB p H H3 := x1.trans (.of n3)
    have ndp : dq ≠ p := (b1.ne hdq).symm
    clear hdq
    refine s_at [some (.ref p), some (.int (n : Int)), some (.ref dq), none, none, none, none, none, none, none, none, none, none, none] rfl ?_
    refine q_asg0 ?_
    refine dr_take (p := p) (m := 40) (E := E0) (tm := tC (.int 40)) (ib := 0) rfl (fun H1 => ev_c) (by decide) (by decide) H3 _ b3 (by omega) _ fun S H4 hS x4 b4 => ?_
    refine dr_take (p := p) (m := 60) (E := E0) (tm := tC (.int 60)) (ib := 0) rfl (fun H1 => ev_c) (by decide) (by decide) H4 _ b4 (by omega) _ fun T H5 hT x5 b5 => ⟨by show 2 ≤ sizeLine; decide, fun tq htq => ⟨tq, _, rfl, st_of upd_same, rfl, _, _, rfl, _, _, rfl, rfl, ?_⟩⟩
    have nT := Ex.new (o := .tup [V.int S, .int T]) htq
    have g6 := nT _ _ ((x4.trans x5) _ _ ndp g3)
    have b6 := b5.ex nT
    have x6 : ExB p H (upd H5 tq (.tup [V.int S, .int T])) := x3.trans ((x4.trans x5).trans (.of nT))
    generalize upd H5 tq (.tup [V.int S, .int T]) = H6 at g6 b6 x6 ⊢
    try dsimp only
    refine s_at [some (.ref p), some (.int (n : Int)), some (.ref dq), some (.int S), some (.int T), none, none, none, none, none, none, none, none, none] rfl ?_
    refine q_asg0 ?_
    refine (er_one (K := K) (eb_tup (ev_var rfl) (ev_var rfl))) H6 (Ex.refl _) _ fun u H7 e7 hu => ?_
    have g7 := e7 _ _ g6
    refine row_drawL (K := K) (p := p) (d := 1) (m := m + n * 1 + 1 + 1) (R := fun t => 0 ≤ t) (a := dq) (ns := ds) (ev_var rfl) g7 ndp (by omega) (by intro _; rfl) (by intro _; rfl) (b6.ex e7) (by omega) (fun k => dr_weak (dr_take (p := p) (m := 5) rfl (fun H1 => ev_c) (by decide) (by decide)) fun r hr => hr.1) fun v2 H8 qs x8 b8 hv2 hqs hR => ?_
    obtain ⟨bl, hbl⟩ := (b6.ex e7).lst
    have lq : qs.length = n := by
      have := congrArg List.length hqs
      rw [List.length_map] at this
      omega
    refine cat_rows (K := K) (hu.exL x8 hbl) hv2 (by show 1 + qs.length ≤ 100000; omega) fun v H9 e9 hv => ?_
    have hv : RowAt K H9 v ((S, T) :: qs) := hv
    have g9 := e9 _ _ (x8 _ _ ndp g7)
    have x9 : ExB p H H9 := x6.trans ((ExB.of e7).trans (x8.trans (.of e9)))
    have b9 := b8.ex e9
    refine g_at [some (.ref p), some (.int (n : Int)), some (.ref dq), some (.int S), some (.int T), some v, none, none, none, none, none, none, none, none] rfl ?_
    clear hbl
    obtain ⟨fr1, fr2⟩ := filt_desc (c := S + T) dpw
    refine q_asg (v := .int (((ds.filter fun x => decide (x > S + T)).length : Nat) : Int)) (ev_is (ev_lenNL (el_filtI (K := K) (j := 9) (vs := [9]) (fun x => decide (x > S + T)) (ev_var rfl) g9 (by omega) (by intro _; rfl) (by intro _; rfl) (fun x H10 e10 hx => et_test (ev_op (ev_var rfl) (ev_op (ev_var rfl) (ev_var rfl) rv_I0) rv_I0)))) (by rw [List.length_map])) fun H10 e10 => ?_
    have fl : (ds.filter fun x => decide (x > S + T)).length ≤ n := by
      have := List.length_filter_le (fun x => decide (x > S + T)) ds
      omega
    have tl : ∀ b ∈ qs, 0 ≤ b.2 := hR
    have srt2 : qs.Pairwise fun a b => b.1 ≤ a.1 := by
      have : (qs.map (·.1)).Pairwise fun a b => b ≤ a := by rw [hqs]; exact dpw
      exact List.pairwise_map.mp this
    have h1 : ∀ b ∈ qs.take (ds.filter fun x => decide (x > S + T)).length, b.1 > S + T := fun b hb => by
      have z : b.1 ∈ (qs.map (·.1)).take (ds.filter fun x => decide (x > S + T)).length := by
        rw [← List.map_take]
        exact List.mem_map.mpr ⟨b, hb, rfl⟩
      rw [hqs] at z
      exact fr1 _ z
    have h2 : ∀ b ∈ qs.drop (ds.filter fun x => decide (x > S + T)).length, b.1 ≤ S + T := fun b hb => by
      have z : b.1 ∈ (qs.map (·.1)).drop (ds.filter fun x => decide (x > S + T)).length := by
        rw [← List.map_drop]
        exact List.mem_map.mpr ⟨b, hb, rfl⟩
      rw [hqs] at z
      exact fr2 _ z
    generalize (ds.filter fun x => decide (x > S + T)).length = k at fr1 fr2 fl h1 h2 ⊢
    refine s_at [some (.ref p), some (.int (n : Int)), some (.ref dq), some (.int S), some (.int T), some v, some (.int (k : Int)), none, none, none, none, none, none, none] rfl ?_
    obtain ⟨L, sL, nL, rL, eL⟩ := dear_end hT.1 tl srt2 h1 h2
    have iL : L.map (·.1) = (List.range k).map (1 + ·) ++ 0 :: (List.range (n - k)).map (1 + k + ·) := by
      rw [eL, dear_ids (by omega), lq]
    have prs := dear_pairs hT.1 (by omega) tl srt2 h1 h2
    have lenL : L.length = n + 1 := by
      have := congrArg List.length iL
      rw [List.length_map, List.length_append, List.length_cons, List.length_map, List.length_map, List.length_range, List.length_range] at this
      omega
    refine q_asgU (xs := natsV (L.map (·.1))) (by
      have u1 := eu_catU (K := K) (eu_catU (K := K) (eu_tupRg2 (σ := [some (.ref p), some (.int (n : Int)), some (.ref dq), some (.int S), some (.int T), some v, some (.int (k : Int)), none, none, none, none, none, none, none]) (H := H10) (ta := tC (.int 1)) (tb := tOp (rI0 fun i j => .int (i + j)) (tVar 6) (tC (.int 1))) (a := 1) (b := k + 1) ev_c (ev_op (ev_var rfl) ev_c rv_I0) rfl rfl (by omega) (by omega)) (fun H11 e11 => eu_tup (ta := tCons (tC (.int 0)) tNil) (vs := natsV [0]) (ea_cons ev_c ea_nil) (by show 1 ≤ 100000; decide)) (by rw [natsV_len, List.length_map, List.length_range]; show _ + 1 ≤ _; omega)) (fun H11 e11 => eu_tupRg2 (ta := tOp (rI0 fun i j => .int (i + j)) (tVar 6) (tC (.int 1))) (tb := tOp (rI0 fun i j => .int (i + j)) (tVar 1) (tC (.int 1))) (a := k + 1) (b := n + 1) (ev_op (ev_var rfl) ev_c rv_I0) (ev_op (ev_var rfl) ev_c rv_I0) rfl rfl (by omega) (by omega)) (by rw [List.length_append, natsV_len, natsV_len, natsV_len, List.length_map, List.length_range, List.length_map, List.length_range]; show _ + 1 + _ ≤ _; omega)
      have e : natsV ((List.range (k + 1 - 1)).map (1 + ·)) ++ natsV [0] ++ natsV ((List.range (n + 1 - (k + 1))).map (k + 1 + ·)) = natsV (L.map (·.1)) := by
        rw [iL, show k + 1 - 1 = k by omega, show n + 1 - (k + 1) = n - k by omega, show 1 + k = k + 1 by omega]
        unfold natsV
        rw [List.map_append, List.map_cons, List.append_assoc]
        rfl
      rw [e] at u1
      exact u1) fun oq H11 hoq e11 go => ?_
    refine s_at [some (.ref p), some (.int (n : Int)), some (.ref dq), some (.int S), some (.int T), some v, some (.int (k : Int)), some (.ref oq), none, none, none, none, none, none] rfl ?_
    have hv11 := (hv.ex e10).ex e11
    refine q_asg0 ((er_cat (K := K) (er_cat (K := K) (er_tupB (K := K) (ep_mapTR (K := K) (i := 9) (j := 13) (vs := [9, 13]) (rs := pieceR ((S, T) :: qs) 1 (k + 1)) (fun b => (b.1 - T, b.2)) (er_mid (K := K) (b := 1) (e := k + 1) (er_val (ev_var rfl) hv11) ev_c (ev_op (ev_var rfl) ev_c rv_I0) (by omega) (by rw [List.length_cons]; omega)) (by
      have := pieceR_len (rs := (S, T) :: qs) (b := 1) (e := k + 1) (by rw [List.length_cons]; omega)
      omega) (by intros; rfl) (fun b H12 e12 hb => ev_op (ev_var rfl) (ev_var rfl) rv_I0) (fun b H12 e12 hb => ev_var rfl))) (er_to (K := K) (j := 1) (er_val (ev_var rfl) hv11) ev_c rfl) (by
      have := pieceR_len (rs := (S, T) :: qs) (b := 1) (e := k + 1) (by rw [List.length_cons]; omega)
      rw [List.length_map, List.length_take]
      omega)) (er_from (K := K) (j := k + 1) (er_val (ev_var rfl) hv11) (ev_op (ev_var rfl) ev_c rv_I0) rfl) (by
      have := pieceR_len (rs := (S, T) :: qs) (b := 1) (e := k + 1) (by rw [List.length_cons]; omega)
      rw [List.length_append, List.length_map, List.length_take, List.length_drop, List.length_cons]
      omega)) H11 (Ex.refl _) _ fun ev H12 e12 hev => ?_)
    have eE : (pieceR ((S, T) :: qs) 1 (k + 1)).map (fun b => (b.1 - T, b.2)) ++ ((S, T) :: qs).take 1 ++ ((S, T) :: qs).drop (k + 1) = rowsOf L := by
      rw [rL, List.append_assoc]
      rfl
    rw [eE] at hev
    refine g_at [some (.ref p), some (.int (n : Int)), some (.ref dq), some (.int S), some (.int T), some v, some (.int (k : Int)), some (.ref oq), some ev, none, none, none, none, none] rfl ?_
    have hv12 := hv11.ex e12
    have lr : (rowsOf L).length = n + 1 := by unfold rowsOf; rw [List.length_map, lenL]
    have st : ∀ (H13 : Hp), Ex H12 H13 → ∀ (i : Nat) (x : Int) (σ : L2.St) (t : TE), σ[8]? = some (some ev) → Ev t σ H13 (.int x) → x = (i : Int) → i < n + 1 → Ev (tOp (rIxT K) (tOp (rIxT K) (tVar 8) t) (tC (.int 0))) σ H13 (.int (sS (rowsOf L) i)) ∧ Ev (tOp (rIxT K) (tOp (rIxT K) (tVar 8) t) (tC (.int 1))) σ H13 (.int (tS (rowsOf L) i)) := fun H13 e13 i x σ t h8 ht hx hi => ⟨ev_str (K := K) (b := (sS (rowsOf L) i, tS (rowsOf L) i)) (ev_var h8) (hev.ex e13) ht hx (row_get (by omega)), ev_tol (K := K) (b := (sS (rowsOf L) i, tS (rowsOf L) i)) (ev_var h8) (hev.ex e13) ht hx (row_get (by omega))⟩
    refine q_when (b := false) (et_is (et_B (ev_any (bs := (List.range n).map fun _ => false) (by
      rw [List.map_map]
      exact el_rngM (n := n) (j := 10) (vs := [10]) (fun _ => V.bl false) (ea_cons (ev_var rfl) ea_nil) (by omega) (by intro _; rfl) (fun i H13 e13 hi => ev_is (ev_op (ev_op (st H13 e13 (i + 1) _ _ _ rfl (ev_op (ev_var rfl) ev_c rv_I0) rfl (by omega)).1 (st H13 e13 i _ _ _ rfl (ev_var rfl) rfl (by omega)).2 rv_I0) (st H13 e13 i _ _ _ rfl (ev_var rfl) rfl (by omega)).1 rv_I0) (congrArg V.bl (decide_eq_false (by
        have := nfr_rows nL i (by omega)
        omega))))))) (by
      rw [List.any_map, List.any_eq_false]
      intro x _ z
      cases z)) (fun z => by cases z) fun _ H13 e13 => ?_
    have tls : ∀ b ∈ (S, T) :: qs, 0 ≤ b.2 := fun b hb => by
      rcases List.mem_cons.mp hb with rfl | hb
      · exact hT.1
      · exact tl b hb
    have hv13 := hv12.ex e13
    have rl : ((S, T) :: qs).length = n + 1 := by rw [List.length_cons, lq]
    have tD : tabD L ((S, T) :: qs).length = .list (((List.range k).map fun i => ((0 : Int), ((1 + i : Nat) : Int))).map beastD) := by
      unfold tabD
      rw [tab_passT tls sL (nfr_nf nL), prs]
    refine s_ret (D := { nx := fun _ H' => Q .non H', rt := Q }) (ev_sameX (K := K) (k := 4) (d := .list [lastD L, .list (((List.range k).map fun i => ((0 : Int), ((1 + i : Nat) : Int))).map beastD)]) (ex_lst (xs_cons (ex_last (ev_var rfl) hv13 (by omega) tls sL nL) (xs_cons ?_ xs_nil)) (by show 2 ≤ 100000; decide)) (ex_lst (xs_cons ?_ (xs_cons ?_ xs_nil)) (by show 2 ≤ 100000; decide)) (okV_lst (by show 2 ≤ 40000; decide) fun e he => ?_)) fun H14 e14 => q H14 (x9.trans (.of ((((e10.trans e11).trans e12).trans e13).trans e14))) ((b9.ex ((((e10.trans e11).trans e12).trans e13).trans e14)).le (by omega))
    · rw [← tD]
      exact ex_pairs (ev_var rfl) hv13 (by omega) tls fun N hN => one_nf _ (good_tag tls) (Nat.le_refl _) hN.1 (nfr_nf hN.2) sL (nfr_nf nL)
    · rw [lastD_of rfl rfl]
      exact ex_tup (xs_cons (ex_row (er_val (ev_var rfl) (hev.ex e13))) (xs_cons (ex_of (ev_var rfl) (dp_natsT ((e12.trans e13) _ _ go))) xs_nil)) (by show 2 ≤ 100000; decide)
    · have := ex_pr (K := K) (ept_rng2 (σ := [some (.ref p), some (.int (n : Int)), some (.ref dq), some (.int S), some (.int T), some v, some (.int (k : Int)), some (.ref oq), some ev, none, none, none, none, none]) (H := H13) (tr := tCons (tC (.int 1)) (tCons (tOp (rI0 fun i j => .int (i + j)) (tVar 6) (tC (.int 1))) tNil)) (jn := 12) (vs := [12]) (a := 1) (b := k + 1) (c := 0) (ea_cons ev_c (ea_cons (ev_op (ev_var rfl) ev_c rv_I0) ea_nil)) rfl rfl (by omega) (by omega) (by intro _; rfl) (by intro _; rfl))
      rw [show k + 1 - 1 = k by omega] at this
      exact this
    · rcases List.mem_cons.mp he with rfl | he
      · exact okV_last (by omega)
      · rw [List.mem_singleton.mp he]
        exact okV_up (okV_row (k := 0) (by rw [List.length_map, List.length_range]; omega)).2
end
end K67
set_option maxHeartbeats 4000000
namespace K67
open PySem PySem.Spec PyProof.Rows L2 Evl HH RZ
section
variable {P : Program} {w : World} {K : PySem.W.Frag} {mg : Str → Option Value} {base : Heap}
theorem ok_law_strong_right {f f1 f2 f3 f4 f5 : Addr} {fd fd1 fd2 fd3 fd4 fd5 : FuncData} (F : FnP K "_law_strong_right" s_law_strong_right f fd) (g : mg "_law_strong_right" = some (.ref f)) (b : Binds K fd ["_law_box", "_law_many"] [])
    (h_law_take : Has P w K mg base 1 "_law_take" ["_law_box", "_law_many"] spTake f1 fd1) (h_law_same : Has P w K mg base 5 "_law_same" ["_law_found", "_law_due"] (spSame K 5) f2 fd2) (h_last : Has P w K mg base 2 "last" ["row"] (spLastF K) f3 fd3) (h_law_ended : Has P w K mg base 3 "_law_ended" ["_law_box", "_law_row_here"] (spEnded K) f4 fd4) (h_law_row : Has P w K mg base 3 "_law_row" ["_law_box", "_law_most"] (spRow K) f5 fd5)
    (m_range : mg "range" = none) (m_tuple : mg "tuple" = none) (m_len : mg "len" = none) (m_enumerate : mg "enumerate" = none) : Has P w K mg base 6 "_law_strong_right" ["_law_box", "_law_many"] (spMake K 23) f fd := by
  refine ⟨F.ok sc_law_strong_right (fun vs H Q E h => ?_) (fun cdv A outer s H vs Q E hr h => ?_), g, F.kp, b⟩
  · obtain ⟨p, n, m, rfl, _⟩ := h
    rfl
  · obtain ⟨p, n, m, rfl, n1, n23, bx, hm, q⟩ := h
    refine ⟨_, PSs.nox (pss_cons (ps_par3 (i := 2) (j := 3) (l := 4) (by rfl) sc_law_strong_right.nd rfl rfl rfl (by decide) (by decide) (by decide) rfl rfl rfl (pa_cons (pe_ix ix_tup (pe_call h_law_ended.G (hr.mono (by decide)) (by rfl) h_law_ended.g h_law_ended.kp h_law_ended.b .nil pass0 (pa_cons (pv 0) (pa_cons (pe_call h_law_row.G (hr.mono (by decide)) (by rfl) h_law_row.g h_law_row.kp h_law_row.b .nil pass0 (pa_cons (pv 0) (pa_cons (pv 1) pa_nil))) pa_nil))) pe_int (fun _ _ => rfl)) (pa_cons (pe_call h_law_take.G (hr.mono (by decide)) (by rfl) h_law_take.g h_law_take.kp h_law_take.b .nil pass0 (pa_cons (pv 0) (pa_cons pe_int pa_nil))) (pa_cons pe_int pa_nil))) (by rfl))
      (pss_cons (ps_set (i := 5) sc_law_strong_right.nd rfl (.inl rfl) (pv 3))
      (Evl.pss_cut (ps_for PassesOwn.never rfl (pi_enumT (by rfl) m_enumerate (pa_cons (pe_revT (pv 2)) pa_nil)) (pg_tup rfl (pgs_cons (pg_name (i := 6) sc_law_strong_right.nd rfl (Or.inl rfl)) (pgs_cons (pg_tup rfl (pgs_cons (pg_name (i := 7) sc_law_strong_right.nd rfl (Or.inl rfl)) (pgs_cons (pg_name (i := 8) sc_law_strong_right.nd rfl (Or.inl rfl)) pgs_nil))) pgs_nil)))
        (pss_cons (ps_if (pt_cmpR op_le (pe_op op_sub (pv 5) (pv 8)) (pv 7) (nomark _)) (pss_one ps_break) pss_nil)
      (pss_one (ps_par (i := 5) (j := 4) (by rfl) sc_law_strong_right.nd rfl rfl (by decide) rfl rfl (pa_cons (pe_op op_sub (pv 5) (pv 8)) (pa_cons (pe_op op_add (pv 6) pe_int) pa_nil)) (by rfl)))))
      (pss_cons (ps_set (i := 9) sc_law_strong_right.nd rfl (.inl rfl) (pe_op op_sub (pe_callB call_len_seq (by rfl) m_len PySem.boot_len (pa_cons (pv 2) pa_nil)) (pv 4)))
      (pss_cons (ps_set (i := 10) sc_law_strong_right.nd rfl (.inl rfl) (pe_op op_catA (pe_op op_catA (pe_slice sl_tupA (pv 2) po_none (po_some (pv 9))) (pe_tup (pa_cons (pe_tup (pa_cons (pv 5) (pa_cons pe_int pa_nil))) pa_nil))) (pe_slice sl_tupA (pv 2) (po_some (pv 9)) po_none)))
      (pss_cons (ps_set (i := 11) sc_law_strong_right.nd rfl (.inl rfl) (pe_op op_catA (pe_op op_catA (pe_tupRg rfl (by rfl) m_tuple (prg_1 (by rfl) m_range (pv 9))) (pe_tup (pa_cons (pe_callB call_len_seq (by rfl) m_len PySem.boot_len (pa_cons (pv 2) pa_nil)) pa_nil))) (pe_tupRg rfl (by rfl) m_tuple (prg_2 (by rfl) m_range (pv 9) (pe_callB call_len_seq (by rfl) m_len PySem.boot_len (pa_cons (pv 2) pa_nil))))))
      (pss_one (ps_ret (pe_call h_law_same.G (hr.mono (by decide)) (by rfl) h_law_same.g h_law_same.kp h_law_same.b .nil pass0 (pa_cons (pe_call h_last.G (hr.mono (by decide)) (by rfl) h_last.g h_last.kp h_last.b .nil pass0 (pa_cons (pe_op op_catA (pv 2) (pe_tup (pa_cons (pe_tup (pa_cons (pv 3) (pa_cons pe_int pa_nil))) pa_nil))) pa_nil)) (pa_cons (pe_tup (pa_cons (pv 10) (pa_cons (pv 11) pa_nil))) pa_nil))))))))))), ?_⟩
    refine q_par3S ?_
    refine ⟨.ref p, rfl, .ref p, rfl, .int (n : Int), rfl, p, n, m, rfl, by omega, by omega, bx, by omega, fun v0 H1 r0 x1 b1 hv0 p0 l0 tm => ⟨p, v0, r0, m + 100, rfl, hv0, by omega, fun b hb => (tm b hb).2.2.1, b1, by omega, fun q0 v ot lp pvs L ps H2 ea run _ nil => ⟨q0, _, ((0 : Nat) : Int), v, rfl, rfl, st_of ea.q, atI_nat (j := 0) rfl, ?_⟩⟩⟩
    have x2 := ea.ex
    have b2 := ea.bx
    have hv := ea.row
    refine dr_take (p := p) (m := 300) (E := E0) (tm := tC (.int 300)) (ib := 0) rfl (fun H1 => ev_c) (by decide) (by decide) H2 _ b2 (by omega) _ fun st H3 hst x3 b3 => ⟨_, _, _, rfl, ?_⟩
    obtain ⟨bl, hbl⟩ := b2.lst
    have hv : RowAt K H3 v (rowsOf L) := (show RowAt K H2 v (rowsOf L) from hv).exL x3 hbl
    have x03 : ExB p H H3 := x1.trans (x2.trans x3)
    clear hbl
    refine s_at [some (.ref p), some (.int (n : Int)), some v, some (.int st), some (.int 0), none, none, none, none, none, none, none] rfl ?_
    refine q_asg (ev_var rfl) fun H4 e4 => ?_
    refine s_at [some (.ref p), some (.int (n : Int)), some v, some (.int st), some (.int 0), some (.int st), none, none, none, none, none, none] rfl ?_
    have tl0 : ∀ b ∈ r0, 0 ≤ b.2 := fun b hb => (tm b hb).2.2.1
    have tlL : ∀ b ∈ rowsOf L, 0 ≤ b.2 := fun b hb => by
      obtain ⟨c, hc, rfl⟩ := List.mem_map.mp hb
      exact (run.told tl0).2.1.tl c hc
    have len : (rowsOf L).length ≤ 23 := by
      have := (run.told tl0).2.1.len
      unfold rowsOf
      rw [List.length_map]
      omega
    have nfL := nf_of nil
    have nE : NfR (tag 0 (rowsOf L)) := nfr_tag 0 _ fun i hi => by
      have := nfr_rows (nfr_of nfL) i (by
        unfold rowsOf at hi
        rw [List.length_map] at hi
        exact hi)
      exact this
    generalize rowsOf L = rs at hv tlL len nE
    have hv4 := hv.ex e4
    have lE : (tag 0 rs).length = rs.length := tag_len 0 rs
    have getE : ∀ k, k < rs.length → (tag 0 rs)[(tag 0 rs).length - 1 - k]? = some (rs.length - 1 - k, (sS rs (rs.length - 1 - k), tS rs (rs.length - 1 - k))) := fun k hk => by
      rw [lE, tag_at, row_get (by omega)]
      show some (0 + _, _) = _
      rw [Nat.zero_add]
    obtain ⟨ra, ru, rfl, rsq, rbs⟩ := hv4
    have hv4 : RowAt K H4 (.ref ra) rs := ⟨ra, ru, rfl, rsq, rbs⟩
    have rlen : ru.length = rs.length := rbs.1
    refine q_cut (M := fun σ' H' => ∃ (k : Nat) (left : Int) (y6 y7 y8 : Option V), σ' = [some (.ref p), some (.int (n : Int)), some (.ref ra), some (.int st), some (.int (k : Int)), some (.int left), y6, y7, y8, none, none, none] ∧ Ex H4 H' ∧ k ≤ rs.length ∧ Strong (tag 0 rs) st k left ∧ ∀ c, k < rs.length → (tag 0 rs)[(tag 0 rs).length - 1 - k]? = some c → ¬ (left - c.2.2 > c.2.1)) ?_ (fun σ' H5 hM => ?_)
    · refine q_forEvU0 (K := K) (xs := ru.reverse) (eu_revT (K := K) (ev_var rfl) rsq) (fun B k σ' H' => ∃ (left : Int) (y6 y7 y8 : Option V), σ' = [some (.ref p), some (.int (n : Int)), some (.ref ra), some (.int st), some (.int (k : Int)), some (.int left), y6, y7, y8, none, none, none] ∧ Ex B H' ∧ Strong (tag 0 rs) st k left) (fun B eB => ⟨st, _, _, _, rfl, Ex.refl B, strong_0 _ _⟩) (fun B k σ' H' hW => ?_) (fun B k x σ' H' T eB hx hW hT => ?_) (fun B σ' H' eB hW => ?_)
      · obtain ⟨left, y6, y7, y8, rfl, h, _⟩ := hW
        exact h
      · obtain ⟨left, y6, y7, y8, rfl, e5, sg⟩ := hW
        have hk : k < rs.length := by
          have := (List.getElem?_eq_some_iff.mp hx).1
          rw [List.length_reverse] at this
          omega
        rw [List.getElem?_reverse (by omega), rlen] at hx
        obtain ⟨u, hu, pp, rfl, hpp⟩ := rbs.2 _ _ (row_get (show rs.length - 1 - k < rs.length by omega))
        rw [hx] at hu
        cases hu
        have nT := Ex.new (o := .tup [V.int (k : Nat), .ref pp]) hT
        refine ⟨T, _, rfl, st_of upd_same, rfl, _, _, rfl, _, _, rfl, ⟨pp, _, rfl, ex_t ((eB.trans e5).trans nT) hpp, rfl, _, _, rfl, _, _, rfl, rfl, rfl, ?_⟩⟩
        have e6 := e5.trans nT
        generalize upd H' T (.tup [V.int (k : Nat), .ref pp]) = H6 at e6 ⊢
        try dsimp only
        refine s_at [some (.ref p), some (.int (n : Int)), some (.ref ra), some (.int st), some (.int (k : Int)), some (.int left), some (.int (k : Int)), some (.int (sS rs (rs.length - 1 - k))), some (.int (tS rs (rs.length - 1 - k))), none, none, none] rfl ?_
        refine q_when (b := decide (left - tS rs (rs.length - 1 - k) ≤ sS rs (rs.length - 1 - k))) (et_test (ev_op (ev_op (ev_var rfl) (ev_var rfl) rv_I0) (ev_var rfl) rv_I0)) (fun z H7 e7 => ?_) (fun z H7 e7 => ?_)
        · have z := of_decide_eq_true z
          refine ⟨k, left, _, _, _, rfl, eB.trans (e6.trans e7), by omega, sg, fun c hk2 hc zz => ?_⟩
          rw [getE k hk] at hc
          cases hc
          dsimp only at zz
          omega
        · have z := of_decide_eq_false z
          refine s_par2 ?_
          refine (ev_op (ev_var rfl) (ev_var rfl) rv_I0) H7 (Ex.refl _) _ fun H8 e8 => (ev_op (ev_var rfl) ev_c rv_I0) H8 (Ex.refl _) _ fun H9 e9 => ⟨_, _, rfl, ?_⟩
          refine ⟨left - tS rs (rs.length - 1 - k), _, _, _, rfl, (e6.trans e7).trans (e8.trans e9), ?_⟩
          exact strong_1 sg (by omega) (getE k hk) (by dsimp only; omega)
      · obtain ⟨left, y6, y7, y8, rfl, e5, sg⟩ := hW
        rw [List.length_reverse, rlen] at sg
        refine ⟨rs.length, left, _, _, _, by rw [List.length_reverse, rlen], eB.trans e5, Nat.le_refl _, sg, fun c z => absurd z (by omega)⟩
    obtain ⟨k, left, y6, y7, y8, rfl, e5, hk, sg, stop⟩ := hM
    have hv5 := hv4.ex e5
    refine q_asg (v := .int ((rs.length - k : Nat) : Int)) (ev_is (ev_op (ev_lenR (K := K) (ev_var rfl) hv5) (ev_var rfl) rv_I0) (congrArg V.int (by omega))) fun H6 e6 => ?_
    refine s_at [some (.ref p), some (.int (n : Int)), some (.ref ra), some (.int st), some (.int (k : Int)), some (.int left), y6, y7, y8, some (.int ((rs.length - k : Nat) : Int)), none, none] rfl ?_
    have hv6 := hv5.ex e6
    have nL := strong_nfr sg nE fun c hk2 hc => stop c (by rw [← lE]; exact hk2) hc
    have sL := sg.s
    rw [lE] at nL sL
    have eT : tag 0 (rs ++ [(st, 2)]) = tag 0 rs ++ [(rs.length, (st, 2))] := by rw [tag_snoc, Nat.zero_add]
    have rL : rowsOf ((tag 0 rs).take (rs.length - k) ++ (rs.length, (left, 2)) :: (tag 0 rs).drop (rs.length - k)) = rs.take (rs.length - k) ++ [(left, 2)] ++ rs.drop (rs.length - k) := by
      unfold rowsOf
      rw [List.map_append, List.map_cons, List.map_take, List.map_drop, tag_snd, List.append_assoc]
      rfl
    have iL : ((tag 0 rs).take (rs.length - k) ++ (rs.length, (left, 2)) :: (tag 0 rs).drop (rs.length - k)).map (·.1) = List.range (rs.length - k) ++ rs.length :: (List.range (rs.length - (rs.length - k))).map (rs.length - k + ·) := by
      rw [List.map_append, List.map_cons, List.map_take, List.map_drop, tag_ids]
      congr 1
      · rw [List.take_range, Nat.min_eq_left (by omega)]
      · congr 1
        refine List.ext_getElem? fun j => ?_
        rw [List.getElem?_drop, List.getElem?_map]
        by_cases h : j < rs.length - (rs.length - k)
        · rw [List.getElem?_range (by omega), List.getElem?_range h]
          rfl
        · rw [List.getElem?_eq_none (by rw [List.length_range]; omega), List.getElem?_eq_none (by rw [List.length_range]; omega)]
          rfl
    refine q_asg0 ((er_cat (K := K) (er_cat (K := K) (er_to (K := K) (j := rs.length - k) (er_val (ev_var rfl) hv6) (ev_var rfl) rfl) (er_one (eb_tup (ev_var rfl) ev_c)) (by rw [List.length_take]; show _ + 1 ≤ _; omega)) (er_from (K := K) (j := rs.length - k) (er_val (ev_var rfl) hv6) (ev_var rfl) rfl) (by rw [List.length_append, List.length_take, List.length_drop]; show _ + 1 + _ ≤ _; omega)) H6 (Ex.refl _) _ fun dv H7 e7 hdv => ?_)
    rw [← rL] at hdv
    refine g_at [some (.ref p), some (.int (n : Int)), some (.ref ra), some (.int st), some (.int (k : Int)), some (.int left), y6, y7, y8, some (.int ((rs.length - k : Nat) : Int)), some dv, none] rfl ?_
    have hv7 := hv6.ex e7
    refine q_asgU (xs := natsV (((tag 0 rs).take (rs.length - k) ++ (rs.length, (left, 2)) :: (tag 0 rs).drop (rs.length - k)).map (·.1))) (by
      have u1 := eu_catU (K := K) (eu_catU (K := K) (eu_tupRg (σ := [some (.ref p), some (.int (n : Int)), some (.ref ra), some (.int st), some (.int (k : Int)), some (.int left), y6, y7, y8, some (.int ((rs.length - k : Nat) : Int)), some dv, none]) (H := H7) (te := tVar 9) (n := rs.length - k) (ev_var rfl) (by omega)) (fun H11 e11 => eu_tup (ta := tCons (tCB (rLenS K) (tCons (tVar 2) tNil)) tNil) (vs := natsV [rs.length]) (ea_cons (ev_lenR (K := K) (ev_var rfl) (hv7.ex e11)) ea_nil) (by show 1 ≤ 100000; decide)) (by rw [natsV_len, List.length_range]; show _ + 1 ≤ _; omega)) (fun H11 e11 => eu_tupRg2 (ta := tVar 9) (tb := tCB (rLenS K) (tCons (tVar 2) tNil)) (a := rs.length - k) (b := rs.length) (ev_var rfl) (ev_lenR (K := K) (ev_var rfl) (hv7.ex e11)) rfl rfl (by omega) (by omega)) (by rw [List.length_append, natsV_len, natsV_len, natsV_len, List.length_map, List.length_range, List.length_range]; show _ + 1 + _ ≤ _; omega)
      have e : natsV (List.range (rs.length - k)) ++ natsV [rs.length] ++ natsV ((List.range (rs.length - (rs.length - k))).map (rs.length - k + ·)) = natsV (((tag 0 rs).take (rs.length - k) ++ (rs.length, (left, 2)) :: (tag 0 rs).drop (rs.length - k)).map (·.1)) := by
        rw [iL]
        unfold natsV
        rw [List.map_append, List.map_cons, List.append_assoc]
        rfl
      rw [e] at u1
      exact u1) fun oq H8 hoq e8 go => ?_
    refine s_at [some (.ref p), some (.int (n : Int)), some (.ref ra), some (.int st), some (.int (k : Int)), some (.int left), y6, y7, y8, some (.int ((rs.length - k : Nat) : Int)), some dv, some (.ref oq)] rfl ?_
    have hv8 := hv7.ex e8
    generalize hLL : (tag 0 rs).take (rs.length - k) ++ (rs.length, (left, 2)) :: (tag 0 rs).drop (rs.length - k) = LL at nL sL rL iL hdv go
    rw [← eT] at sL
    have lenLL : LL.length = rs.length + 1 := by
      rw [← hLL, List.length_append, List.length_cons, List.length_take, List.length_drop, lE]
      omega
    have tl2 : ∀ b ∈ rs ++ [((st, 2) : Int × Int)], 0 ≤ b.2 := fun b hb => by
      rcases List.mem_append.mp hb with h | h
      · exact tlL b h
      · rw [List.mem_singleton.mp h]
        exact (by decide : (0 : Int) ≤ 2)
    refine s_ret (D := { nx := fun _ H' => Q .non H', rt := Q }) (ev_sameX (K := K) (k := 4) (d := lastD LL) (ex_lastR (er_cat (K := K) (er_val (ev_var rfl) hv8) (er_one (eb_tup (ev_var rfl) ev_c)) (by show _ + 1 ≤ _; omega)) (by rw [List.length_append]; show _ + 1 ≤ _; omega) tl2 sL nL) (by
      rw [lastD_of rfl rfl]
      exact ex_tup (xs_cons (ex_row (er_val (ev_var rfl) (hdv.ex e8))) (xs_cons (ex_of (ev_var rfl) (dp_natsT go)) xs_nil)) (by show 2 ≤ 100000; decide)) (okV_up (okV_last (by omega)))) fun H9 e9 => q H9 (x03.trans (.of (((((e4.trans e5).trans e6).trans e7).trans e8).trans e9))) ((b3.ex (((((e4.trans e5).trans e6).trans e7).trans e8).trans e9)).le (by omega))
end
end K67
set_option maxHeartbeats 4000000
namespace K67
open PySem PySem.Spec PyProof.Rows L2 Evl HH RZ
section
variable {P : Program} {w : World} {K : PySem.W.Frag} {mg : Str → Option Value} {base : Heap}
theorem ok_law_sorted_right {f f1 f2 f3 f4 f5 f6 : Addr} {fd fd1 fd2 fd3 fd4 fd5 fd6 : FuncData} (F : FnP K "_law_sorted_right" s_law_sorted_right f fd) (g : mg "_law_sorted_right" = some (.ref f)) (b : Binds K fd ["_law_box", "_law_many"] [])
    (h_law_take : Has P w K mg base 1 "_law_take" ["_law_box", "_law_many"] spTake f1 fd1) (h_law_of : Has P w K mg base 2 "_law_of" ["_law_box", "_law_pool"] (spOf K) f2 fd2) (h_law_same : Has P w K mg base 5 "_law_same" ["_law_found", "_law_due"] (spSame K 5) f3 fd3) (h_last : Has P w K mg base 2 "last" ["row"] (spLastF K) f4 fd4) (h_first : Has P w K mg base 2 "first" ["row"] (spFirstF K) f5 fd5) (h_passings : Has P w K mg base 3 "passings" ["row"] (spPairsT K toLast) f6 fd6)
    (m_range : mg "range" = none) (m_tuple : mg "tuple" = none) (m_sorted : mg "sorted" = none) : Has P w K mg base 6 "_law_sorted_right" ["_law_box", "_law_many"] (spMake K 24) f fd := by
  refine ⟨F.ok sc_law_sorted_right (fun vs H Q E h => ?_) (fun cdv A outer s H vs Q E hr h => ?_), g, F.kp, b⟩
  · obtain ⟨p, n, m, rfl, _⟩ := h
    rfl
  · obtain ⟨p, n, m, rfl, n1, n24, bx, hm, q⟩ := h
    refine ⟨_, PSs.nox (pss_cons (ps_set (i := 2) sc_law_sorted_right.nd rfl (.inr rfl) (pe_tupleOf (by rfl) m_tuple (pe_lc (own := [("_law_place", 9)]) (g := gName 9) (by rfl) sc_law_sorted_right.nd (pi_range1 (by rfl) m_range (pa_cons (pv 1) pa_nil)) (blkOk_by (own := [("_law_place", 9)]) (N := ["_law_box", "_law_many", "_law_row_here", "_law_order", "_law_back", "_law_due", "_law_pairs", "_law_one", "_law_ends", "_law_place", "_law_key", "_law_other"]) (sc := defScope s_law_sorted_right) (by decide +kernel)) (fun _ _ _ _ _ => (pg_name (i := 9) sc_law_sorted_right.nd rfl (Or.inl rfl))) (fun _ _ _ _ _ => pts_nil) (fun _ _ _ _ _ => (pe_tup (pa_cons (pe_op op_mul (pe_call h_law_take.G (hr.mono (by decide)) (by rfl) h_law_take.g h_law_take.kp h_law_take.b .nil pass0 (pa_cons (pv 0) (pa_cons (pe_op op_add (pv 1) pe_int) pa_nil))) (pe_call h_law_of.G (hr.mono (by decide)) (by rfl) h_law_of.g h_law_of.kp h_law_of.b .nil pass0 (pa_cons (pv 0) (pa_cons (pe_lst (pa_cons pe_int (pa_cons (pe_op op_pow pe_int pe_int) pa_nil))) pa_nil)))) (pa_cons pe_int pa_nil)))))))
      (pss_cons (ps_set (i := 3) sc_law_sorted_right.nd rfl (.inl rfl) (pe_tupleOf (by rfl) m_tuple (pe_lc (own := [("_law_key", 10), ("_law_place", 9)]) (g := gTup K 2 (gCons (gName 10) (gCons (gName 9) gNil))) (by rfl) sc_law_sorted_right.nd (pi_list (pe_callB (cr_sortedPT) (by rfl) m_sorted (by decide +kernel) (pa_cons (pe_lc (own := [("_law_place", 9)]) (g := gName 9) (by rfl) sc_law_sorted_right.nd (pi_range1 (by rfl) m_range (pa_cons (pv 1) pa_nil)) (blkOk_by (own := [("_law_place", 9)]) (N := ["_law_box", "_law_many", "_law_row_here", "_law_order", "_law_back", "_law_due", "_law_pairs", "_law_one", "_law_ends", "_law_place", "_law_key", "_law_other"]) (sc := defScope s_law_sorted_right) (by decide +kernel)) (fun _ _ _ _ _ => (pg_name (i := 9) sc_law_sorted_right.nd rfl (Or.inl rfl))) (fun _ _ _ _ _ => pts_nil) (fun _ _ _ _ _ => (pe_tup (pa_cons (pe_op op_sub pe_int (pe_ix (ix_tupK (K := K)) (pe_ix (ix_tupK (K := K)) (pv 2) (pv 9) (fun _ _ => rfl)) pe_int (fun _ _ => rfl))) (pa_cons (pv 9) pa_nil))))) pa_nil))) (blkOk_by (own := [("_law_key", 10), ("_law_place", 9)]) (N := ["_law_box", "_law_many", "_law_row_here", "_law_order", "_law_back", "_law_due", "_law_pairs", "_law_one", "_law_ends", "_law_place", "_law_key", "_law_other"]) (sc := defScope s_law_sorted_right) (by decide +kernel)) (fun _ _ _ _ _ => (pg_tup rfl (pgs_cons (pg_name (i := 10) sc_law_sorted_right.nd rfl (Or.inl rfl)) (pgs_cons (pg_name (i := 9) sc_law_sorted_right.nd rfl (Or.inl rfl)) pgs_nil)))) (fun _ _ _ _ _ => pts_nil) (fun _ _ _ _ _ => (pv 9)))))
      (pss_cons (ps_set (i := 4) sc_law_sorted_right.nd rfl (.inl rfl) (pe_tupleOf (by rfl) m_tuple (pe_lc (own := [("_law_key", 10), ("_law_place", 9)]) (g := gTup K 2 (gCons (gName 10) (gCons (gName 9) gNil))) (by rfl) sc_law_sorted_right.nd (pi_list (pe_callB (cr_sortedPT) (by rfl) m_sorted (by decide +kernel) (pa_cons (pe_lc (own := [("_law_place", 9)]) (g := gName 9) (by rfl) sc_law_sorted_right.nd (pi_range1 (by rfl) m_range (pa_cons (pv 1) pa_nil)) (blkOk_by (own := [("_law_place", 9)]) (N := ["_law_box", "_law_many", "_law_row_here", "_law_order", "_law_back", "_law_due", "_law_pairs", "_law_one", "_law_ends", "_law_place", "_law_key", "_law_other"]) (sc := defScope s_law_sorted_right) (by decide +kernel)) (fun _ _ _ _ _ => (pg_name (i := 9) sc_law_sorted_right.nd rfl (Or.inl rfl))) (fun _ _ _ _ _ => pts_nil) (fun _ _ _ _ _ => (pe_tup (pa_cons (pe_ix (ix_tupK (K := K)) (pe_ix (ix_tupK (K := K)) (pv 2) (pv 9) (fun _ _ => rfl)) pe_int (fun _ _ => rfl)) (pa_cons (pv 9) pa_nil))))) pa_nil))) (blkOk_by (own := [("_law_key", 10), ("_law_place", 9)]) (N := ["_law_box", "_law_many", "_law_row_here", "_law_order", "_law_back", "_law_due", "_law_pairs", "_law_one", "_law_ends", "_law_place", "_law_key", "_law_other"]) (sc := defScope s_law_sorted_right) (by decide +kernel)) (fun _ _ _ _ _ => (pg_tup rfl (pgs_cons (pg_name (i := 10) sc_law_sorted_right.nd rfl (Or.inl rfl)) (pgs_cons (pg_name (i := 9) sc_law_sorted_right.nd rfl (Or.inl rfl)) pgs_nil)))) (fun _ _ _ _ _ => pts_nil) (fun _ _ _ _ _ => (pv 9)))))
      (pss_cons (ps_setLc (i := 5) (own := [("_law_ends", 8)]) (g := gName 8) (by rfl) sc_law_sorted_right.nd rfl rfl (sw_true rfl rfl rfl (by decide +kernel)) (pi_tup (pe_tup (pa_cons (pv 3) (pa_cons (pv 4) pa_nil)))) (blkOk_by (own := [("_law_ends", 8)]) (N := ["_law_box", "_law_many", "_law_row_here", "_law_order", "_law_back", "_law_due", "_law_pairs", "_law_one", "_law_ends", "_law_place", "_law_key", "_law_other"]) (sc := defScope s_law_sorted_right) (by decide +kernel)) (fun _ _ _ _ _ => (pg_name (i := 8) sc_law_sorted_right.nd rfl (Or.inl rfl))) (fun _ _ _ _ _ => pts_nil) (fun _ _ _ _ _ => (pe_tup (pa_cons (pe_tupleOfK (K := K) (by rfl) m_tuple (pe_lc (own := [("_law_place", 9)]) (g := gName 9) (by rfl) sc_law_sorted_right.nd (pi_tupK (K := K) (pv 8)) (blkOk_by (own := [("_law_place", 9)]) (N := ["_law_box", "_law_many", "_law_row_here", "_law_order", "_law_back", "_law_due", "_law_pairs", "_law_one", "_law_ends", "_law_place", "_law_key", "_law_other"]) (by kernel_rfl)) (fun _ _ _ _ _ => (pg_name (i := 9) sc_law_sorted_right.nd rfl (Or.inl rfl))) (fun _ _ _ _ _ => pts_nil) (fun _ _ _ _ _ => (pe_ix (ix_tupK (K := K)) (pv 2) (pv 9) (fun _ _ => rfl))))) (pa_cons (pv 8) pa_nil)))))
      (pss_cons (ps_if (pt_not (pt_val (pe_call h_law_same.G (hr.mono (by decide)) (by rfl) h_law_same.g h_law_same.kp h_law_same.b .nil pass0 (pa_cons (pe_lst (pa_cons (pe_call h_last.G (hr.mono (by decide)) (by rfl) h_last.g h_last.kp h_last.b .nil pass0 (pa_cons (pv 2) pa_nil)) (pa_cons (pe_call h_first.G (hr.mono (by decide)) (by rfl) h_first.g h_first.kp h_first.b .nil pass0 (pa_cons (pv 2) pa_nil)) pa_nil))) (pa_cons (pv 5) pa_nil))))) (pss_one (ps_ret pe_bl)) pss_nil)
      (pss_cons (ps_set (i := 6) sc_law_sorted_right.nd rfl (.inl rfl) (pe_lst pa_nil))
      (pss_cons (ps_for PassesOwn.never rfl (pi_range1 (by rfl) m_range (pa_cons (pv 1) pa_nil)) (pg_name (i := 7) sc_law_sorted_right.nd rfl (Or.inr rfl))
        (pss_one (ps_set (i := 6) sc_law_sorted_right.nd rfl (.inl rfl) (pe_op op_cat (pv 6) (pe_lc (own := [("_law_other", 11)]) (g := gName 11) (by rfl) sc_law_sorted_right.nd (pi_range2 (by rfl) m_range (pa_cons (pe_op op_add (pv 7) pe_int) (pa_cons (pv 1) pa_nil))) (blkOk_by (own := [("_law_other", 11)]) (N := ["_law_box", "_law_many", "_law_row_here", "_law_order", "_law_back", "_law_due", "_law_pairs", "_law_one", "_law_ends", "_law_place", "_law_key", "_law_other"]) (sc := defScope s_law_sorted_right) (by decide +kernel)) (fun _ _ _ _ _ => (pg_name (i := 11) sc_law_sorted_right.nd rfl (Or.inl rfl))) (fun _ _ _ _ _ => (pts_one (pt_cmpR op_gt (pe_ix (ix_tupK (K := K)) (pe_ix (ix_tupK (K := K)) (pv 2) (pv 11) (fun _ _ => rfl)) pe_int (fun _ _ => rfl)) (pe_ix (ix_tupK (K := K)) (pe_ix (ix_tupK (K := K)) (pv 2) (pv 7) (fun _ _ => rfl)) pe_int (fun _ _ => rfl)) (nomark _)))) (fun _ _ _ _ _ => (pe_tup (pa_cons (pv 7) (pa_cons (pv 11) pa_nil)))))))))
      (pss_one (ps_ret (pe_call h_law_same.G (hr.mono (by decide)) (by rfl) h_law_same.g h_law_same.kp h_law_same.b .nil pass0 (pa_cons (pe_call h_passings.G (hr.mono (by decide)) (by rfl) h_passings.g h_passings.kp h_passings.b .nil pass0 (pa_cons (pv 2) pa_nil)) (pa_cons (pv 6) pa_nil)))))))))))), ?_⟩
    refine q_asg0 (row_draw (K := K) (n := n) (c := 2) (d := 0) (m := m) (P := fun _ => True) (R := fun r => r = 0) (ea_cons (ev_var rfl) ea_nil) (by omega) (by intro _; rfl) bx (by omega) (fun k => dr_I (C := CMul) (g := fun i j => i * j) (S := fun _ => True) (dr_take (p := p) (m := (n : Int) + 3) rfl (fun H1 => ev_op (ev_var rfl) ev_c rv_I0) (by omega) (by omega)) (dr_pick (K := K) (ns := [1, 1000000000]) rfl (fun H1 => ea_cons ev_c (ea_cons (ev_pow (c := 1000000000) ⟨by decide, by decide, by decide⟩ (by decide)) ea_nil)) (by decide) (by decide)) (fun i j hi hj => ⟨.inl ⟨by omega, by omega⟩, trivial⟩)) (fun k => dr_c (i := 0) fun H1 => ev_c) fun v H1 rs x1 b1 hv hl f0 => ?_)
    have f0 : ∀ b ∈ rs, b.2 = 0 := fun b hb => (f0 b hb).2
    refine g_at [some (.ref p), some (.int (n : Int)), some v, none, none, none, none, none, none, none, none, none] rfl ?_
    obtain ⟨L, sL, nL, pL, kL⟩ := sorted_end f0
    obtain ⟨B, sB, nB, pB, kB⟩ := sorted_start f0
    have lL : L.length = n := by rw [pL.length_eq, tag_len, hl]
    have lB : B.length = n := by rw [pB.length_eq, tag_len, hl]
    have idE : ∀ (M : List Cow) (f : Int → Int), (M.map fun c => ((f c.2.1, (c.1 : Int)) : Int × Int)).map (·.2) = (M.map (·.1)).map fun (k : Nat) => (k : Int) := fun M f => by
      rw [List.map_map, List.map_map]
      rfl
    have natI : ∀ l : List Nat, (l.map fun (k : Nat) => (k : Int)).map V.int = natsV l := fun l => by
      rw [List.map_map]
      rfl
    refine q_asgU (eu_tupL (K := K) (el_sndP (K := K) (i := 10) (j := 9) (vs := [10, 9]) (ps := L.map fun c => ((0 - c.2.1, (c.1 : Int)) : Int × Int)) (ep_sorted (src_T (src_new (ept_rng (n := n) (fun i => 0 - sS rs i) (fun i => (i : Int)) (ea_cons (ev_var rfl) ea_nil) (by omega) (by intro _; rfl) (fun i H2 e2 hi => ev_op ev_c (ev_str (K := K) (b := (sS rs i, tS rs i)) (ev_var rfl) (hv.ex e2) (ev_var rfl) rfl (row_get (by omega))) rv_I0) (fun i H2 e2 hi => ev_var rfl)))) (by rw [← hl]; exact perm_keys pL (fun x => 0 - x)) kL) (by rw [List.length_map]; omega) (by intros; rfl) (by intros; rfl))) fun oq H2 hoq e2 go => ?_
    rw [idE L (fun x => 0 - x), natI] at go
    refine s_at [some (.ref p), some (.int (n : Int)), some v, some (.ref oq), none, none, none, none, none, none, none, none] rfl ?_
    have hv2 := hv.ex e2
    refine q_asgU (eu_tupL (K := K) (el_sndP (K := K) (i := 10) (j := 9) (vs := [10, 9]) (ps := B.map fun c => ((c.2.1, (c.1 : Int)) : Int × Int)) (ep_sorted (src_T (src_new (ept_rng (n := n) (fun i => sS rs i) (fun i => (i : Int)) (ea_cons (ev_var rfl) ea_nil) (by omega) (by intro _; rfl) (fun i H2 e2 hi => ev_str (K := K) (b := (sS rs i, tS rs i)) (ev_var rfl) (hv2.ex e2) (ev_var rfl) rfl (row_get (by omega))) (fun i H2 e2 hi => ev_var rfl)))) (by rw [← hl]; exact perm_keys pB (fun x => x)) kB) (by rw [List.length_map]; omega) (by intros; rfl) (by intros; rfl))) fun bq H3 hbq e3 gb => ?_
    rw [idE B (fun x => x), natI] at gb
    have go := e3 _ _ go
    have hv3 := hv2.ex e3
    refine s_at [some (.ref p), some (.int (n : Int)), some v, some (.ref oq), some (.ref bq), none, none, none, none, none, none, none] rfl ?_
    clear hoq hbq
    refine q_asgLs (R := fun us H4 => All2 (fun u M => ∃ a, u = .ref a ∧ LastAt K H4 a M) us [L, B]) (ls_due (K := K) (j := 8) (jj := 9) (vs := [8]) (ws := [9]) (Ms := [(oq, L), (bq, B)]) (ea_cons (ev_var rfl) (ea_cons (ev_var rfl) ea_nil)) (by show 2 ≤ 1000; decide) hv3 (by intros; rfl) (by intros; rfl) (by intros; rfl) (by intros; rfl) (by intros; rfl) (fun x hx => ?_)) fun dq us H4 hdq e4 gd ha => ?_
    · rcases List.mem_cons.mp hx with rfl | hx
      · exact ⟨go, by show L.length ≤ 1000; omega, perm_at pL⟩
      · rw [List.mem_singleton.mp hx]
        exact ⟨gb, by show B.length ≤ 1000; omega, perm_at pB⟩
    refine s_at [some (.ref p), some (.int (n : Int)), some v, some (.ref oq), some (.ref bq), some (.ref dq), none, none, none, none, none, none] rfl ?_
    have hv4 := hv3.ex e4
    have tl : ∀ b ∈ rs, 0 ≤ b.2 := fun b hb => by rw [f0 b hb]; exact Int.le_refl _
    have okL : ∀ M : List Cow, M.length ≤ 40000 → okV 3 (lastD M) := fun M hM => okV_tup (by show 2 ≤ 40000; decide) fun e he => by
      rcases List.mem_cons.mp he with rfl | he
      · exact (okV_row (by unfold rowsOf; rw [List.length_map]; exact hM)).1
      · rw [List.mem_singleton.mp he]
        exact okV_up (okV_ints (by rw [List.length_map]; exact hM)).2
    refine q_when (b := false) (et_is (et_not (et_B (b := true) (ev_sameX (K := K) (k := 4) (d := .list [lastD L, lastD B]) (ex_lst (xs_cons (ex_last (ev_var rfl) hv4 (by omega) tl sL nL) (xs_cons (ex_first (ev_var rfl) hv4 (by omega) tl sB nB) xs_nil)) (by show 2 ≤ 100000; decide)) (ex_of (ev_var rfl) (.lst (sq_of gd) (due_dp ha))) (okV_lst (by show 2 ≤ 40000; decide) fun e he => by
      rcases List.mem_cons.mp he with rfl | he
      · exact okL L (by omega)
      · rw [List.mem_singleton.mp he]
        exact okL B (by omega))))) rfl) (fun z => by cases z) fun _ H5 e5 => ?_
    have hv5 := hv4.ex e5
    refine q_asgL (el_lst ea_nil (by decide)) fun pq H6 hpq e6 gp => ?_
    refine q_forR1 (n := (n : Int)) (ea_cons (ev_var rfl) ea_nil) ⟨by omega, by omega⟩ (fun k σ' H' => ∃ (y7 : Option V) (a : Addr) (us : List V), σ' = [some (.ref p), some (.int (n : Int)), some v, some (.ref oq), some (.ref bq), some (.ref dq), some (.ref a), y7, none, none, none, none] ∧ Ex H5 H' ∧ H' a = some (.lst us) ∧ All2 (PairT H') us (tabP (fun i m => decide (sS rs (i + 1 + m) > sS rs i)) n k)) (fun H7 e7 => ⟨_, pq, [], rfl, e6.trans e7, e7 _ _ gp, .nil⟩) (fun k σ' H7 hk hW => ?_) (fun σ' H7 hW => ?_)
    · obtain ⟨y7, a, us, rfl, e7, ga, pa⟩ := hW
      refine s_at [some (.ref p), some (.int (n : Int)), some v, some (.ref oq), some (.ref bq), some (.ref dq), some (.ref a), some (.int (k : Int)), none, none, none, none] rfl ?_
      have hk : k < n := by omega
      have small : (tabP (fun i m => decide (sS rs (i + 1 + m) > sS rs i)) n k).length ≤ 900 := by
        have := tabP_small (fun i m => decide (sS rs (i + 1 + m) > sS rs i)) (n := n) (by omega)
        exact Nat.le_trans (tabP_mono _ (by omega)) this
      have st : ∀ (H8 : Hp), Ex H5 H8 → ∀ (m : Nat) (σ : L2.St) (t : TE), σ[2]? = some (some v) → Ev t σ H8 (.int (m : Int)) → m < n → Ev (tOp (rIxT K) (tOp (rIxT K) (tVar 2) t) (tC (.int 0))) σ H8 (.int (sS rs m)) := fun H8 e8 m σ t h2 ht hm => ev_str (K := K) (b := (sS rs m, tS rs m)) (ev_var h2) (hv5.ex e8) ht rfl (row_get (by omega))
      refine (epr_catV stb_T (ev_var rfl) ga pa (fun H8 e8 => ept_rowF (fun m => decide (sS rs (k + 1 + m) > sS rs k)) (i := k) (n := n) (j := 11) (ko := 7) (vs := [11]) (ea_cons (ev_op (ev_var rfl) ev_c rv_I0) (ea_cons (ev_var rfl) ea_nil)) ⟨by omega, by omega⟩ (by intro _; rfl) (by intro _; rfl) (by intro _; rfl) (fun m hm H9 e9 => et_test (ev_op (st H9 ((e7.trans e8).trans e9) (k + 1 + m) _ _ rfl (ev_var rfl) hm) (st H9 ((e7.trans e8).trans e9) k _ _ rfl (ev_var rfl) hk) rv_I0))) (by
        have := tabPR_len (fun i m => decide (sS rs (i + 1 + m) > sS rs i)) k (n - (k + 1))
        have e : tabPR (fun _ m => decide (sS rs (k + 1 + m) > sS rs k)) k (n - (k + 1)) = tabPR (fun i m => decide (sS rs (i + 1 + m) > sS rs i)) k (n - (k + 1)) := rfl
        rw [e]
        omega)) H7 (Ex.refl _) _ fun a' us' H8 ha' e8 ga' pa' => ⟨_, a', us', rfl, e7.trans e8, ga', ?_⟩
      have e : tabP (fun i m => decide (sS rs (i + 1 + m) > sS rs i)) n (k + 1) = tabP (fun i m => decide (sS rs (i + 1 + m) > sS rs i)) n k ++ tabPR (fun _ m => decide (sS rs (k + 1 + m) > sS rs k)) k (n - (k + 1)) := by
        unfold tabP
        rw [List.range_succ, List.flatMap_append]
        simp
        rfl
      rw [e]
      exact pa'
    · obtain ⟨y7, a, us, rfl, e7, ga, pa⟩ := hW
      have pa : All2 (PairT H7) us (tabP (fun i m => decide (sS rs (i + 1 + m) > sS rs i)) n n) := pa
      have eT : passT rs = tabP (fun i m => decide (sS rs (i + 1 + m) > sS rs i)) n n := by rw [free_passT f0, hl]
      have tD : tabD L rs.length = .list ((passT rs).map beastD) := by
        unfold tabD
        rw [tab_passT tl sL (nfr_nf nL)]
      refine s_ret (D := { nx := fun _ H' => Q .non H', rt := Q }) (ev_sameX (K := K) (k := 4) (d := .list ((passT rs).map beastD)) (by
        rw [← tD]
        exact ex_pairs (ev_var rfl) (hv5.ex e7) (by omega) tl fun N hN => one_nf _ (good_tag tl) (Nat.le_refl _) hN.1 (nfr_nf hN.2) sL (nfr_nf nL)) (ex_of (ev_var rfl) (by
        rw [eT]
        exact .lst (sq_of ga) (dp_beasts (BeastsT.be pa)))) (okV_up (okV_up (okV_row (Nat.le_trans (passT_small (by omega)) (by decide))).2))) fun H8 e8 => ?_
      exact q H8 (x1.trans (.of (((((e2.trans e3).trans e4).trans e5).trans e7).trans e8))) ((b1.ex (((((e2.trans e3).trans e4).trans e5).trans e7).trans e8)).le (by omega))
end
end K67
set_option maxHeartbeats 4000000
namespace K67
open PySem PySem.Spec PyProof.Rows L2 Evl HH RZ
section
variable {P : Program} {w : World} {K : PySem.W.Frag} {mg : Str → Option Value} {base : Heap}
theorem ok_law_stair_right {f f1 f2 f3 f4 f5 f6 : Addr} {fd fd1 fd2 fd3 fd4 fd5 fd6 : FuncData} (F : FnP K "_law_stair_right" s_law_stair_right f fd) (g : mg "_law_stair_right" = some (.ref f)) (b : Binds K fd ["_law_box", "_law_many"] [])
    (h_law_take : Has P w K mg base 1 "_law_take" ["_law_box", "_law_many"] spTake f1 fd1) (h_law_same : Has P w K mg base 5 "_law_same" ["_law_found", "_law_due"] (spSame K 5) f2 fd2) (h_last : Has P w K mg base 2 "last" ["row"] (spLastF K) f3 fd3) (h_first : Has P w K mg base 2 "first" ["row"] (spFirstF K) f4 fd4) (h_never : Has P w K mg base 2 "never" ["row"] (spNever K) f5 fd5) (h_may_pass : Has P w K mg base 2 "may_pass" ["row"] (spMay K HH.passL) f6 fd6)
    (m_range : mg "range" = none) (m_tuple : mg "tuple" = none) : Has P w K mg base 6 "_law_stair_right" ["_law_box", "_law_many"] (spMake K 24) f fd := by
  refine ⟨F.ok sc_law_stair_right (fun vs H Q E h => ?_) (fun cdv A outer s H vs Q E hr h => ?_), g, F.kp, b⟩
  · obtain ⟨p, n, m, rfl, _⟩ := h
    rfl
  · obtain ⟨p, n, m, rfl, n1, n24, bx, hm, q⟩ := h
    refine ⟨_, PSs.nox (pss_cons (ps_asg (pe_tup (pa_cons (pe_call h_law_take.G (hr.mono (by decide)) (by rfl) h_law_take.g h_law_take.kp h_law_take.b .nil pass0 (pa_cons (pv 0) (pa_cons pe_int pa_nil))) (pa_cons (pe_call h_law_take.G (hr.mono (by decide)) (by rfl) h_law_take.g h_law_take.kp h_law_take.b .nil pass0 (pa_cons (pv 0) (pa_cons pe_int pa_nil))) (pa_cons (pe_op op_sub (pe_call h_law_take.G (hr.mono (by decide)) (by rfl) h_law_take.g h_law_take.kp h_law_take.b .nil pass0 (pa_cons (pv 0) (pa_cons pe_int pa_nil))) pe_int) pa_nil)))) (pg_tup rfl (pgs_cons (pg_name (i := 2) sc_law_stair_right.nd rfl (Or.inr rfl)) (pgs_cons (pg_name (i := 3) sc_law_stair_right.nd rfl (Or.inr rfl)) (pgs_cons (pg_name (i := 4) sc_law_stair_right.nd rfl (Or.inr rfl)) pgs_nil)))))
      (pss_cons (ps_set (i := 5) sc_law_stair_right.nd rfl (.inl rfl) (pe_tupleOf (by rfl) m_tuple (pe_lc (own := [("_law_place", 9)]) (g := gName 9) (by rfl) sc_law_stair_right.nd (pi_range1 (by rfl) m_range (pa_cons (pv 1) pa_nil)) (blkOk_by (own := [("_law_place", 9)]) (N := ["_law_box", "_law_many", "_law_rise", "_law_toll", "_law_base", "_law_row_here", "_law_back", "_law_due", "_law_table", "_law_place"]) (sc := defScope s_law_stair_right) (by decide +kernel)) (fun _ _ _ _ _ => (pg_name (i := 9) sc_law_stair_right.nd rfl (Or.inl rfl))) (fun _ _ _ _ _ => pts_nil) (fun _ _ _ _ _ => (pe_tup (pa_cons (pe_op op_add (pv 4) (pe_op op_mul (pv 2) (pv 9))) (pa_cons (pv 3) pa_nil)))))))
      (pss_cons (ps_if (pt_cmpR op_le (pv 2) (pv 3) (nomark _)) (pss_one (ps_ret (pe_call h_law_same.G (hr.mono (by decide)) (by rfl) h_law_same.g h_law_same.kp h_law_same.b .nil pass0 (pa_cons (pe_lst (pa_cons (pe_call h_last.G (hr.mono (by decide)) (by rfl) h_last.g h_last.kp h_last.b .nil pass0 (pa_cons (pv 5) pa_nil)) (pa_cons (pe_call h_may_pass.G (hr.mono (by decide)) (by rfl) h_may_pass.g h_may_pass.kp h_may_pass.b .nil pass0 (pa_cons (pv 5) pa_nil)) pa_nil))) (pa_cons (pe_lst (pa_cons (pe_tup (pa_cons (pv 5) (pa_cons (pe_tupRg rfl (by rfl) m_tuple (prg_1 (by rfl) m_range (pv 1))) pa_nil))) (pa_cons (pe_lst pa_nil) pa_nil))) pa_nil))))) pss_nil)
      (pss_cons (ps_set (i := 6) sc_law_stair_right.nd rfl (.inl rfl) (pe_tupRg3 rfl (by rfl) m_tuple (by rfl) m_range (pa_cons (pe_op op_sub (pv 1) pe_int) (pa_cons (pe_un un_neg pe_int) (pa_cons (pe_un un_neg pe_int) pa_nil)))))
      (pss_cons (ps_set (i := 7) sc_law_stair_right.nd rfl (.inl rfl) (pe_tupleOf (by rfl) m_tuple (pe_lc (own := [("_law_place", 9)]) (g := gName 9) (by rfl) sc_law_stair_right.nd (pi_tup (pv 6)) (blkOk_by (own := [("_law_place", 9)]) (N := ["_law_box", "_law_many", "_law_rise", "_law_toll", "_law_base", "_law_row_here", "_law_back", "_law_due", "_law_table", "_law_place"]) (sc := defScope s_law_stair_right) (by decide +kernel)) (fun _ _ _ _ _ => (pg_name (i := 9) sc_law_stair_right.nd rfl (Or.inl rfl))) (fun _ _ _ _ _ => pts_nil) (fun _ _ _ _ _ => (pe_tup (pa_cons (pe_op op_add (pv 4) (pe_op op_mul (pe_op op_sub (pv 2) (pv 3)) (pv 9))) (pa_cons (pv 3) pa_nil)))))))
      (pss_cons (ps_setLc (i := 8) (own := [("_law_place", 9)]) (g := gName 9) (by rfl) sc_law_stair_right.nd rfl rfl (sw_true rfl rfl rfl (by decide +kernel)) (pi_range1 (by rfl) m_range (pa_cons (pv 1) pa_nil)) (blkOk_by (own := [("_law_place", 9)]) (N := ["_law_box", "_law_many", "_law_rise", "_law_toll", "_law_base", "_law_row_here", "_law_back", "_law_due", "_law_table", "_law_place"]) (sc := defScope s_law_stair_right) (by decide +kernel)) (fun _ _ _ _ _ => (pg_name (i := 9) sc_law_stair_right.nd rfl (Or.inl rfl))) (fun _ _ _ _ _ => pts_nil) (fun _ _ _ _ _ => (pe_lst pa_nil)))
      (pss_one (ps_ret (pe_call h_law_same.G (hr.mono (by decide)) (by rfl) h_law_same.g h_law_same.kp h_law_same.b .nil pass0 (pa_cons (pe_lst (pa_cons (pe_call h_last.G (hr.mono (by decide)) (by rfl) h_last.g h_last.kp h_last.b .nil pass0 (pa_cons (pv 5) pa_nil)) (pa_cons (pe_call h_never.G (hr.mono (by decide)) (by rfl) h_never.g h_never.kp h_never.b .nil pass0 (pa_cons (pv 5) pa_nil)) (pa_cons (pe_ix ix_tup (pe_call h_first.G (hr.mono (by decide)) (by rfl) h_first.g h_first.kp h_first.b .nil pass0 (pa_cons (pv 5) pa_nil)) pe_int (fun _ _ => rfl)) pa_nil)))) (pa_cons (pe_lst (pa_cons (pe_tup (pa_cons (pv 7) (pa_cons (pv 6) pa_nil))) (pa_cons (pv 8) (pa_cons (pv 5) pa_nil)))) pa_nil))))))))))), ?_⟩
    refine q_asg0 ?_
    refine dr_take (p := p) (m := 9) (E := E0) (tm := tC (.int 9)) (ib := 0) rfl (fun H1 => ev_c) (by decide) (by decide) H m bx (by omega) _ fun r H1 hr1 x1 b1 => ?_
    refine dr_take (p := p) (m := 9) (E := E0) (tm := tC (.int 9)) (ib := 0) rfl (fun H1 => ev_c) (by decide) (by decide) H1 _ b1 (by omega) _ fun t H2 ht2 x2 b2 => ?_
    refine (dr_I0 (g := fun i j => i - j) (S := fun r => -100 ≤ r ∧ r < 100) (dr_take (p := p) (m := 200) (E := E0) (tm := tC (.int 200)) (ib := 0) rfl (fun H1 => ev_c) (by decide) (by decide)) (dr_c (i := 100) (te := tC (.int 100)) fun H1 => ev_c) (fun i j hi e => by
      have e : j = 100 := e
      omega)) H2 _ b2 (by omega) _ fun B H3 hB x3 b3 => ⟨by show 3 ≤ sizeLine; decide, fun T hT => ⟨T, _, rfl, st_of upd_same, rfl, _, _, rfl, _, _, rfl, _, _, rfl, rfl, ?_⟩⟩
    have nT := Ex.new (o := .tup [V.int r, .int t, .int B]) hT
    have x03 : ExB p H (upd H3 T (.tup [V.int r, .int t, .int B])) := (x1.trans (x2.trans x3)).trans (.of nT)
    have b4 := b3.ex nT
    generalize upd H3 T (.tup [V.int r, .int t, .int B]) = H4 at x03 b4 ⊢
    try dsimp only
    refine s_at [some (.ref p), some (.int (n : Int)), some (.int r), some (.int t), some (.int B), none, none, none, none, none] rfl ?_
    refine q_asg0 (er_tupB (K := K) (ept_rng (n := n) (j := 9) (vs := [9]) (fun i => B + r * (i : Int)) (fun _ => t) (ea_cons (ev_var rfl) ea_nil) (by omega) (by intro _; rfl) (fun i H5 e5 hi => ev_op (ev_var rfl) (ev_op (ev_var rfl) (ev_var rfl) (rv_I (.inl ⟨by omega, by omega⟩))) rv_I0) (fun i H5 e5 hi => ev_var rfl)) H4 (Ex.refl _) _ fun v H5 e5 hv => ?_)
    have hv : RowAt K H5 v (rowN n (fun i => B + r * (i : Int)) fun _ => t) := hv
    refine g_at [some (.ref p), some (.int (n : Int)), some (.int r), some (.int t), some (.int B), some v, none, none, none, none] rfl ?_
    have tl : ∀ b ∈ rowN n (fun i => B + r * (i : Int)) fun _ => t, 0 ≤ b.2 := fun b hb => by
      obtain ⟨i, _, rfl⟩ := List.mem_map.mp hb
      exact ht2.1
    have hl := rowN_len n (fun i => B + r * (i : Int)) fun _ => t
    have ss : ∀ i, i < n → sS (rowN n (fun i => B + r * (i : Int)) fun _ => t) i = B + r * (i : Int) ∧ tS (rowN n (fun i => B + r * (i : Int)) fun _ => t) i = t := fun i hi => rowN_at hi
    have r1 : ∀ i : Nat, r * ((i + 1 : Nat) : Int) = r * (i : Int) + r := fun i => by
      rw [Int.natCast_add, Int.mul_add]
      simp
    refine q_when (b := decide (r ≤ t)) (et_test (ev_op (ev_var rfl) (ev_var rfl) rv_I0)) (fun z H6 e6 => ?_) (fun z H6 e6 => ?_)
    · have z := of_decide_eq_true z
      have quiet : ∀ i, i + 1 < (rowN n (fun i => B + r * (i : Int)) fun _ => t).length → sS (rowN n (fun i => B + r * (i : Int)) fun _ => t) (i + 1) - tS (rowN n (fun i => B + r * (i : Int)) fun _ => t) i ≤ sS (rowN n (fun i => B + r * (i : Int)) fun _ => t) i := fun i hi => by
        rw [(ss (i + 1) (by omega)).1, (ss i (by omega)).2, (ss i (by omega)).1, r1 i]
        omega
      have hv6 := hv.ex e6
      refine s_ret (ev_sameX (K := K) (k := 4) (d := .list [lastD (tag 0 (rowN n (fun i => B + r * (i : Int)) fun _ => t)), .list []]) (ex_lst (xs_cons (ex_last (ev_var rfl) hv6 (by omega) tl (.refl _) (nfr_tag 0 _ quiet)) (xs_cons (ex_may0 (ev_var rfl) hv6 (by omega) (passL_none quiet)) xs_nil)) (by show 2 ≤ 100000; decide)) (ex_lst (xs_cons ?_ (xs_cons (ex_lst xs_nil (by show 0 ≤ 100000; decide)) xs_nil)) (by show 2 ≤ 100000; decide)) (okV_lst (by show 2 ≤ 40000; decide) fun e he => ?_)) fun H7 e7 => q H7 (x03.trans (.of ((e5.trans e6).trans e7))) ((b4.ex ((e5.trans e6).trans e7)).le (by omega))
      · rw [lastD_of (tag_snd 0 _) (tag_ids _), hl]
        exact ex_tup (xs_cons (ex_row (er_val (ev_var rfl) hv6)) (xs_cons (ex_nats (eu_tupRg (ev_var rfl) (by omega))) xs_nil)) (by show 2 ≤ 100000; decide)
      · rcases List.mem_cons.mp he with rfl | he
        · exact okV_last (by rw [tag_len, hl]; omega)
        · rw [List.mem_singleton.mp he]
          exact okV_lst (k := 2) (by show 0 ≤ 40000; decide) fun e he => nomatch he
    · have z := of_decide_eq_false z
      have hv6 := hv.ex e6
      refine q_asgU (eu_tupRg3 (n := n) (ea_cons (ev_op (ev_var rfl) ev_c rv_I0) (ea_cons (ev_un ev_c ru_neg) (ea_cons (ev_un ev_c ru_neg) ea_nil))) (by omega)) fun bq H7 hbq e7 gb => ?_
      refine s_at [some (.ref p), some (.int (n : Int)), some (.int r), some (.int t), some (.int B), some v, some (.ref bq), none, none, none] rfl ?_
      have rt : ∀ x : Int, CMul (r - t) x := fun x => .inl ⟨by omega, by omega⟩
      refine q_asg0 (er_ordT (K := K) (o := bq) (l := revN n) (j := 9) (vs := [9]) (fun x => B + (r - t) * (x : Int)) (fun _ => t) (ev_var rfl) (st_of gb) (by rw [revN_len]; omega) (by intro _; rfl) (fun x hx H8 e8 => ev_op (ev_var rfl) (ev_op (ev_op (ev_var rfl) (ev_var rfl) rv_I0) (ev_var rfl) (rv_I (rt _))) rv_I0) (fun x hx H8 e8 => ev_var rfl) H7 (Ex.refl _) _ fun dv H8 e8 hdv => ?_)
      refine g_at [some (.ref p), some (.int (n : Int)), some (.int r), some (.int t), some (.int B), some v, some (.ref bq), some dv, none, none] rfl ?_
      rw [← stair_rows] at hdv
      have gb := e8 _ _ gb
      refine q_asgLs (els_rng (n := n) (j := 9) (vs := [9]) (fun _ => natsV []) (ea_cons (ev_var rfl) ea_nil) (by omega) (by intro _; rfl) (fun i H9 e9 hi => el_lst ea_nil (by decide))) fun tq us H9 htq e9 gt at9 => ?_
      refine s_at [some (.ref p), some (.int (n : Int)), some (.int r), some (.int t), some (.int B), some v, some (.ref bq), some dv, some (.ref tq), none] rfl ?_
      have e69 := (e7.trans e8).trans e9
      have hv9 := hv6.ex e69
      have nev : nevT (rowN n (fun i => B + r * (i : Int)) fun _ => t) = List.replicate n [] := by
        have := never_none (rs := rowN n (fun i => B + r * (i : Int)) fun _ => t) fun i j hij hj => by
          rw [hl] at hj
          rw [(ss j hj).1, (ss i (by omega)).1, (ss i (by omega)).2]
          have e : r * (j : Int) = r * (i : Int) + r * ((j : Int) - (i : Int)) := by
            rw [← Int.mul_add]
            congr 1
            omega
          have : r * 1 ≤ r * ((j : Int) - (i : Int)) := Int.mul_le_mul_of_nonneg_left (by omega) hr1.1
          omega
        rw [hl] at this
        exact this
      have tbl : (List.range n).map (fun _ : Nat => natsV []) = (List.replicate n ([] : List Nat)).map natsV := by
        rw [List.map_replicate, List.map_const', List.length_range]
      refine s_ret (D := { nx := fun _ H' => Q .non H', rt := Q }) (ev_sameX (K := K) (k := 4) (d := .list [lastD (stairL r t B n), .list ((List.replicate n ([] : List Nat)).map natsL), rowD (rowN n (fun i => B + r * (i : Int)) fun _ => t)]) (ex_lst (xs_cons (ex_last (ev_var rfl) hv9 (by omega) tl (stair_steps (by omega) hr1.1 n) (stair_nfr (by omega) ht2.1 n)) (xs_cons ?_ (xs_cons (ex_first0 (ev_var rfl) hv9 (by omega) tl (ffr_tag 0 _ fun i hi => ?_)) xs_nil))) (by show 3 ≤ 100000; decide)) (ex_lst (xs_cons ?_ (xs_cons (ex_of (ev_var rfl) (.lst (sq_of gt) (lists_dp (by rw [← tbl]; exact at9)))) (xs_cons (ex_row (er_val (ev_var rfl) hv9)) xs_nil))) (by show 3 ≤ 100000; decide)) (okV_lst (by show 3 ≤ 40000; decide) fun e he => ?_)) fun H10 e10 => q H10 (x03.trans (.of (((e5.trans e6).trans e69).trans e10))) ((b4.ex (((e5.trans e6).trans e69).trans e10)).le (by omega))
      · rw [← nev]
        exact ex_never (ev_var rfl) hv9 (by omega)
      · rw [hl] at hi
        rw [(ss (i + 1) hi).1, (ss i (by omega)).1, r1 i]
        omega
      · rw [lastD_of rfl (stair_ids n)]
        exact ex_tup (xs_cons (ex_row (er_val (ev_var rfl) (hdv.ex e9))) (xs_cons (ex_of (ev_var rfl) (dp_natsT (e9 _ _ gb))) xs_nil)) (by show 2 ≤ 100000; decide)
      · have sl : (stairL r t B n).length = n := by
          have := congrArg List.length (stair_ids (r := r) (t := t) (B := B) n)
          rw [List.length_map, revN_len] at this
          exact this
        rcases List.mem_cons.mp he with rfl | he
        · exact okV_last (by omega)
        · rcases List.mem_cons.mp he with rfl | he
          · exact okV_up (okV_lists (by rw [List.length_replicate]; omega) fun l hl => by rw [(List.mem_replicate.mp hl).2]; decide)
          · rw [List.mem_singleton.mp he]
            exact (okV_row (k := 1) (by omega)).1
end
end K67
set_option maxHeartbeats 4000000
namespace K67
open PySem PySem.Spec PyProof.Rows L2 Evl HH RZ
section
variable {P : Program} {w : World} {K : PySem.W.Frag} {mg : Str → Option Value} {base : Heap}
theorem ok_law_quiet_right {f f1 f2 f3 f4 f5 : Addr} {fd fd1 fd2 fd3 fd4 fd5 : FuncData} (F : FnP K "_law_quiet_right" s_law_quiet_right f fd) (g : mg "_law_quiet_right" = some (.ref f)) (b : Binds K fd ["_law_box", "_law_many"] [])
    (h_law_take : Has P w K mg base 1 "_law_take" ["_law_box", "_law_many"] spTake f1 fd1) (h_law_same : Has P w K mg base 5 "_law_same" ["_law_found", "_law_due"] (spSame K 5) f2 fd2) (h_last : Has P w K mg base 2 "last" ["row"] (spLastF K) f3 fd3) (h_passings : Has P w K mg base 3 "passings" ["row"] (spPairsT K toLast) f4 fd4) (h_never : Has P w K mg base 2 "never" ["row"] (spNever K) f5 fd5)
    (m_range : mg "range" = none) (m_tuple : mg "tuple" = none) (m_list : mg "list" = none) : Has P w K mg base 6 "_law_quiet_right" ["_law_box", "_law_many"] (spMake K 24) f fd := by
  refine ⟨F.ok sc_law_quiet_right (fun vs H Q E h => ?_) (fun cdv A outer s H vs Q E hr h => ?_), g, F.kp, b⟩
  · obtain ⟨p, n, m, rfl, _⟩ := h
    rfl
  · obtain ⟨p, n, m, rfl, n1, n24, bx, hm, q⟩ := h
    refine ⟨_, PSs.nox (pss_cons (ps_set (i := 2) sc_law_quiet_right.nd rfl (.inr rfl) (pe_call h_law_take.G (hr.mono (by decide)) (by rfl) h_law_take.g h_law_take.kp h_law_take.b .nil pass0 (pa_cons (pv 0) (pa_cons pe_int pa_nil))))
      (pss_cons (ps_set (i := 3) sc_law_quiet_right.nd rfl (.inl rfl) (pe_tupleOf (by rfl) m_tuple (pe_lc (own := [("_law_place", 5)]) (g := gName 5) (by rfl) sc_law_quiet_right.nd (pi_range1 (by rfl) m_range (pa_cons (pv 1) pa_nil)) (blkOk_by (own := [("_law_place", 5)]) (N := ["_law_box", "_law_many", "_law_wide", "_law_row_here", "_law_table", "_law_place"]) (sc := defScope s_law_quiet_right) (by decide +kernel)) (fun _ _ _ _ _ => (pg_name (i := 5) sc_law_quiet_right.nd rfl (Or.inl rfl))) (fun _ _ _ _ _ => pts_nil) (fun _ _ _ _ _ => (pe_tup (pa_cons (pe_call h_law_take.G (hr.mono (by decide)) (by rfl) h_law_take.g h_law_take.kp h_law_take.b .nil pass0 (pa_cons (pv 0) (pa_cons (pe_op op_add (pv 2) pe_int) pa_nil))) (pa_cons (pe_op op_add (pv 2) (pe_call h_law_take.G (hr.mono (by decide)) (by rfl) h_law_take.g h_law_take.kp h_law_take.b .nil pass0 (pa_cons (pv 0) (pa_cons pe_int pa_nil)))) pa_nil)))))))
      (pss_cons (ps_setLc (i := 4) (own := [("_law_place", 5)]) (g := gName 5) (by rfl) sc_law_quiet_right.nd rfl rfl (sw_true rfl rfl rfl (by decide +kernel)) (pi_range1 (by rfl) m_range (pa_cons (pv 1) pa_nil)) (blkOk_by (own := [("_law_place", 5)]) (N := ["_law_box", "_law_many", "_law_wide", "_law_row_here", "_law_table", "_law_place"]) (sc := defScope s_law_quiet_right) (by decide +kernel)) (fun _ _ _ _ _ => (pg_name (i := 5) sc_law_quiet_right.nd rfl (Or.inl rfl))) (fun _ _ _ _ _ => pts_nil) (fun _ _ _ _ _ => (pe_listRg rfl (by rfl) m_list (prg_2 (by rfl) m_range (pe_op op_add (pv 5) pe_int) (pv 1)))))
      (pss_one (ps_ret (pe_call h_law_same.G (hr.mono (by decide)) (by rfl) h_law_same.g h_law_same.kp h_law_same.b .nil pass0 (pa_cons (pe_lst (pa_cons (pe_call h_last.G (hr.mono (by decide)) (by rfl) h_last.g h_last.kp h_last.b .nil pass0 (pa_cons (pv 3) pa_nil)) (pa_cons (pe_call h_passings.G (hr.mono (by decide)) (by rfl) h_passings.g h_passings.kp h_passings.b .nil pass0 (pa_cons (pv 3) pa_nil)) (pa_cons (pe_call h_never.G (hr.mono (by decide)) (by rfl) h_never.g h_never.kp h_never.b .nil pass0 (pa_cons (pv 3) pa_nil)) pa_nil)))) (pa_cons (pe_lst (pa_cons (pe_tup (pa_cons (pv 3) (pa_cons (pe_tupRg rfl (by rfl) m_tuple (prg_1 (by rfl) m_range (pv 1))) pa_nil))) (pa_cons (pe_lst pa_nil) (pa_cons (pv 4) pa_nil)))) pa_nil)))))))), ?_⟩
    refine q_asgDr (dr_take (p := p) (m := 30) rfl (fun H1 => ev_c) (by decide) (by decide)) bx (by omega) fun W H1 hW x1 b1 => ?_
    refine s_at [some (.ref p), some (.int (n : Int)), some (.int W), none, none, none] rfl ?_
    refine q_asg0 (row_draw (K := K) (n := n) (c := 1) (d := 1) (m := m + 1) (P := fun s => 0 ≤ s ∧ s ≤ W) (R := fun t => W ≤ t) (ea_cons (ev_var rfl) ea_nil) (by omega) (by intro _; rfl) b1 (by omega) (fun k => dr_weak (dr_take (p := p) (m := W + 1) rfl (fun H1 => ev_op (ev_var rfl) ev_c rv_I0) (by omega) (by omega)) fun r hr => by omega) (fun k => dr_I0 (g := fun i j => i + j) (dr_c (i := W) fun H1 => ev_var rfl) (dr_take (p := p) (m := 3) rfl (fun H1 => ev_c) (by decide) (by decide)) (fun i j e hj => by
      have e : i = W := e
      omega)) fun v H2 rs x2 b2 hv hl fr => ?_)
    refine g_at [some (.ref p), some (.int (n : Int)), some (.int W), some v, none, none] rfl ?_
    have tl : ∀ b ∈ rs, 0 ≤ b.2 := fun b hb => by
      have := (fr b hb).2
      omega
    have ss : ∀ i, i < rs.length → (0 ≤ sS rs i ∧ sS rs i ≤ W) ∧ W ≤ tS rs i := fun i hi => fr _ (List.mem_of_getElem? (row_get hi))
    have nev := never_all (rs := rs) fun i j hij hj m => by
      have h1 := ss j hj
      have h2 := ss i (by omega)
      have h3 := bar_up tl i m
      omega
    have nf : NfR (tag 0 rs) := nfr_tag 0 rs fun i hi => by
      have h1 := ss (i + 1) hi
      have h2 := ss i (by omega)
      omega
    have tab : (List.range n).map (fun i : Nat => natsV ((List.range (n - (i + 1))).map (i + 1 + ·))) = ((List.range n).map fun i => (List.range (n - (i + 1))).map (i + 1 + ·)).map natsV := by
      rw [List.map_map]
      rfl
    refine q_asgLs (els_rng (n := n) (j := 5) (vs := [5]) (fun i => natsV ((List.range (n - (i + 1))).map (i + 1 + ·))) (ea_cons (ev_var rfl) ea_nil) (by omega) (by intro _; rfl) (fun i H9 e9 hi => el_lstRg2 (a := i + 1) (b := n) (ev_op (ev_var rfl) ev_c rv_I0) (ev_var rfl) rfl rfl (by omega) (by omega))) fun tq us H3 htq e3 gt at3 => ?_
    refine s_at [some (.ref p), some (.int (n : Int)), some (.int W), some v, some (.ref tq), none] rfl ?_
    rw [tab] at at3
    have hv3 := hv.ex e3
    have tD : tabD (tag 0 rs) rs.length = .list [] := by
      unfold tabD
      rw [tab_passT tl (.refl _) (nfr_nf nf), nev.2]
      rfl
    refine s_ret (D := { nx := fun _ H' => Q .non H', rt := Q }) (ev_sameX (K := K) (k := 4) (d := .list [lastD (tag 0 rs), .list [], .list (((List.range n).map fun i => (List.range (n - (i + 1))).map (i + 1 + ·)).map natsL)]) (ex_lst (xs_cons (ex_last (ev_var rfl) hv3 (by omega) tl (.refl _) nf) (xs_cons ?_ (xs_cons ?_ xs_nil))) (by show 3 ≤ 100000; decide)) (ex_lst (xs_cons ?_ (xs_cons (ex_lst xs_nil (by show 0 ≤ 100000; decide)) (xs_cons (ex_of (ev_var rfl) (.lst (sq_of gt) (lists_dp at3))) xs_nil))) (by show 3 ≤ 100000; decide)) (okV_lst (by show 3 ≤ 40000; decide) fun e he => ?_)) fun H10 e10 => q H10 (x1.trans (x2.trans (.of (e3.trans e10)))) ((b2.ex (e3.trans e10)).le (by omega))
    · rw [← tD]
      exact ex_pairs (ev_var rfl) hv3 (by omega) tl fun N hN => one_nf _ (good_tag tl) (Nat.le_refl _) hN.1 (nfr_nf hN.2) (.refl _) (nfr_nf nf)
    · have := ex_never (K := K) (X := E0) (te := tVar 3) (σ := [some (.ref p), some (.int (n : Int)), some (.int W), some v, some (.ref tq), none]) (ev_var rfl) hv3 (by omega)
      rw [nev.1, hl] at this
      exact this
    · rw [lastD_of (tag_snd 0 _) (tag_ids _), hl]
      exact ex_tup (xs_cons (ex_row (er_val (ev_var rfl) hv3)) (xs_cons (ex_nats (eu_tupRg (ev_var rfl) (by omega))) xs_nil)) (by show 2 ≤ 100000; decide)
    · rcases List.mem_cons.mp he with rfl | he
      · exact okV_last (by rw [tag_len, hl]; omega)
      · rcases List.mem_cons.mp he with rfl | he
        · exact okV_lst (k := 2) (by show 0 ≤ 40000; decide) fun e he => nomatch he
        · rw [List.mem_singleton.mp he]
          refine okV_up (okV_lists (by rw [List.length_map, List.length_range]; omega) fun l hl => ?_)
          obtain ⟨i, _, rfl⟩ := List.mem_map.mp hl
          rw [List.length_map, List.length_range]
          omega
end
end K67
set_option maxHeartbeats 4000000
namespace K67
open PySem PySem.Spec PyProof.Rows L2 Evl HH RZ
section
variable {P : Program} {w : World} {K : PySem.W.Frag} {mg : Str → Option Value} {base : Heap}
theorem ok_law_right {f f1 f2 f3 f4 f5 f6 : Addr} {fd fd1 fd2 fd3 fd4 fd5 fd6 : FuncData} (F : FnP K "_law_right" s_law_right f fd) (g : mg "_law_right" = some (.ref f)) (b : Binds K fd ["_law_box"] [])
    (h_law_take : Has P w K mg base 1 "_law_take" ["_law_box", "_law_many"] spTake f1 fd1) (h_law_sorted_right : Has P w K mg base 6 "_law_sorted_right" ["_law_box", "_law_many"] (spMake K 24) f2 fd2) (h_law_stair_right : Has P w K mg base 6 "_law_stair_right" ["_law_box", "_law_many"] (spMake K 24) f3 fd3) (h_law_quiet_right : Has P w K mg base 6 "_law_quiet_right" ["_law_box", "_law_many"] (spMake K 24) f4 fd4) (h_law_dear_right : Has P w K mg base 6 "_law_dear_right" ["_law_box", "_law_many"] (spMake K 23) f5 fd5) (h_law_strong_right : Has P w K mg base 6 "_law_strong_right" ["_law_box", "_law_many"] (spMake K 23) f6 fd6)
    (m_range : mg "range" = none) (m_all : mg "all" = none) : Has P w K mg base 7 "_law_right" ["_law_box"] spRight f fd := by
  refine ⟨F.ok sc_law_right (fun vs H Q E h => ?_) (fun cdv A outer s H vs Q E hr h => ?_), g, F.kp, b⟩
  · obtain ⟨p, rfl, _⟩ := h
    rfl
  · obtain ⟨p, rfl, bx, q⟩ := h
    refine ⟨_, PSs.nox (pss_cons (ps_if (PW.pt (pw_or (pt_not (pt_val (pe_call h_law_sorted_right.G (hr.mono (by decide)) (by rfl) h_law_sorted_right.g h_law_sorted_right.kp h_law_sorted_right.b .nil pass0 (pa_cons (pv 0) (pa_cons (pe_op op_add pe_int (pe_call h_law_take.G (hr.mono (by decide)) (by rfl) h_law_take.g h_law_take.kp h_law_take.b .nil pass0 (pa_cons (pv 0) (pa_cons pe_int pa_nil)))) pa_nil))))) (pw_or1 (pt_not (pt_val (pe_call h_law_stair_right.G (hr.mono (by decide)) (by rfl) h_law_stair_right.g h_law_stair_right.kp h_law_stair_right.b .nil pass0 (pa_cons (pv 0) (pa_cons (pe_op op_add pe_int (pe_call h_law_take.G (hr.mono (by decide)) (by rfl) h_law_take.g h_law_take.kp h_law_take.b .nil pass0 (pa_cons (pv 0) (pa_cons pe_int pa_nil)))) pa_nil)))))))) (pss_one (ps_ret pe_bl)) pss_nil)
      (pss_cons (ps_if (PW.pt (pw_or (pt_not (pt_val (pe_call h_law_quiet_right.G (hr.mono (by decide)) (by rfl) h_law_quiet_right.g h_law_quiet_right.kp h_law_quiet_right.b .nil pass0 (pa_cons (pv 0) (pa_cons (pe_op op_add pe_int (pe_call h_law_take.G (hr.mono (by decide)) (by rfl) h_law_take.g h_law_take.kp h_law_take.b .nil pass0 (pa_cons (pv 0) (pa_cons pe_int pa_nil)))) pa_nil))))) (pw_or1 (pt_not (pt_val (pe_call h_law_dear_right.G (hr.mono (by decide)) (by rfl) h_law_dear_right.g h_law_dear_right.kp h_law_dear_right.b .nil pass0 (pa_cons (pv 0) (pa_cons (pe_op op_add pe_int (pe_call h_law_take.G (hr.mono (by decide)) (by rfl) h_law_take.g h_law_take.kp h_law_take.b .nil pass0 (pa_cons (pv 0) (pa_cons pe_int pa_nil)))) pa_nil)))))))) (pss_one (ps_ret pe_bl)) pss_nil)
      (pss_one (ps_ret (pe_callB (cr_all rfl) (by rfl) m_all (by decide +kernel) (pa_cons (pe_lc (own := [("_law_turn", 1)]) (g := gName 1) (by rfl) sc_law_right.nd (pi_range1 (by rfl) m_range (pa_cons pe_int pa_nil)) (blkOk_by (own := [("_law_turn", 1)]) (N := ["_law_box", "_law_turn"]) (sc := defScope s_law_right) (by decide +kernel)) (fun _ _ _ _ _ => (pg_name (i := 1) sc_law_right.nd rfl (Or.inl rfl))) (fun _ _ _ _ _ => pts_nil) (fun _ _ _ _ _ => (pe_call h_law_strong_right.G (hr.mono (by decide)) (by rfl) h_law_strong_right.g h_law_strong_right.kp h_law_strong_right.b .nil pass0 (pa_cons (pv 0) (pa_cons pe_int pa_nil))))) pa_nil)))))), ?_⟩
    have lim : ∀ {n : Nat}, n ≤ 100000 → n + 3000 < Lim := fun {n} h => Nat.lt_of_lt_of_le (show n + 3000 < 2 ^ 20 by omega) (Nat.pow_le_pow_right (by decide) (by decide))
    refine sub_or (K := K) (p := p) (c := 24) (d := 24) (m := 0) rfl bx (by decide) (by decide) (by have := lim (n := 10000) (by omega); omega) fun H1 x1 b1 => ?_
    refine sub_or (K := K) (p := p) (c := 24) (d := 23) (m := 5000) rfl (b1.le (by omega)) (by decide) (by decide) (by have := lim (n := 10000) (by omega); omega) fun H2 x2 b2 => ?_
    refine sub_all (K := K) (p := p) (c := 23) (m := 10000) (j := 1) (vs := [1]) (n := 3) (by intro _; rfl) (by intro _; rfl) (b2.le (by omega)) (by have := lim (n := 20000) (by omega); omega) (by decide) (by decide) fun H3 x3 b3 => q H3 (x1.trans (x2.trans x3))
end
end K67
set_option maxHeartbeats 4000000
namespace K67
open PySem PySem.Spec PyProof.Rows L2 Evl HH RZ
section
variable {P : Program} {w : World} {K : PySem.W.Frag} {mg : Str → Option Value} {base : Heap}
theorem ok_law {f f1 f2 f3 : Addr} {fd fd1 fd2 fd3 : FuncData} (F : FnP K "law" s_law f fd) (h_law_folded : Has P w K mg base 1 "_law_folded" ["_law_script", "_law_many"] (spFolded K) f1 fd1) (h_law_dip : Has P w K mg base 1 "_law_dip" ["_law_script", "_law_k"] (spDip K) f2 fd2) (h_law_right : Has P w K mg base 7 "_law_right" ["_law_box"] spRight f3 fd3)
    (m_range : mg "range" = none) (m_len : mg "len" = none) (m_all : mg "all" = none) (m_max : mg "max" = none) : FnOk P w K mg base CX0 8 f fd ["_law_script"] (spLaw K) := by
  refine F.ok sc_law (fun vs H Q E h => ?_) (fun cdv A outer s H vs Q E hr h => ?_)
  · obtain ⟨a, ns, rfl, _⟩ := h
    rfl
  · obtain ⟨a, ns, rfl, hS, hlen, q⟩ := h
    refine ⟨_, PSs.nox (pss_cons (ps_set (i := 1) sc_law.nd rfl (.inr rfl) (pe_call h_law_folded.G (hr.mono (by decide)) (by rfl) h_law_folded.g h_law_folded.kp h_law_folded.b .nil pass0 (pa_cons (pv 0) (pa_cons pe_int pa_nil))))
      (pss_one (ps_ret (pe_callB (cr_all rfl) (by rfl) m_all (by decide +kernel) (pa_cons (pe_lc (own := [("_law_k", 2)]) (g := gName 2) (by rfl) sc_law.nd (pi_range1 (by rfl) m_range (pa_cons (pe_callB (call_max2 rfl) (by rfl) m_max (by decide +kernel) (pa_cons pe_int (pa_cons (pe_callB call_len_seq (by rfl) m_len PySem.boot_len (pa_cons (pv 1) pa_nil)) pa_nil))) pa_nil)) (blkOk_by (own := [("_law_k", 2)]) (N := ["_law_script", "_law_cells", "_law_k"]) (sc := defScope s_law) (by decide +kernel)) (fun _ _ _ _ _ => (pg_name (i := 2) sc_law.nd rfl (Or.inl rfl))) (fun _ _ _ _ _ => pts_nil) (fun _ _ _ _ _ => (pe_call h_law_right.G (hr.mono (by decide)) (by rfl) h_law_right.g h_law_right.kp h_law_right.b .nil pass0 (pa_cons (pe_call h_law_dip.G (hr.mono (by decide)) (by rfl) h_law_dip.g h_law_dip.kp h_law_dip.b .nil pass0 (pa_cons (pv 1) (pa_cons (pv 2) pa_nil))) pa_nil)))) pa_nil))))), ?_⟩
    refine q_call ⟨.ref a, rfl, a, 3, ns, rfl, by decide, by decide, hS, hlen, fun l H1 ms hl e1 hm h1 => ?_⟩
    have hn : 0 ≤ (if ((ms.map V.int).length : Int) > 1 then ((ms.map V.int).length : Int) else 1) ∧ (if ((ms.map V.int).length : Int) > 1 then ((ms.map V.int).length : Int) else 1) ≤ 10 := by
      rw [List.length_map]
      split <;> omega
    refine s_ret (D := { nx := fun _ H' => Q .non H', rt := Q }) (ev_allT (n := (if ((ms.map V.int).length : Int) > 1 then ((ms.map V.int).length : Int) else 1).toNat) ?_) fun H2 e2 => q H2
    have key := el_lcR1 (σ := [some (.ref a), some (.ref l), none]) (H := H1) (ta := tCons (tCB rMax2 (tCons (tC (.int 1)) (tCons (tCB (rLenS K) (tCons (tVar 1) tNil)) tNil))) tNil) (j := 2) (vs := [2]) (t := tYes) (te := tCall spRight [] E0 (tCons (tCall (spDip K) [] E0 (tCons (tVar 1) (tCons (tVar 2) tNil))) tNil)) (fun _ => true) (fun _ => .bl true) (ea_cons (ev_max2 ev_c (ev_len (ev_var rfl) (sq_of h1))) ea_nil) ⟨hn.1, by omega⟩ (fun x => rfl) (fun i H1 e1 hi => et_yes) (fun i H3 e3 hi _ => ?_)
    · have e0 : given (if ((ms.map V.int).length : Int) > 1 then ((ms.map V.int).length : Int) else 1).toNat (fun _ => true) (fun _ => V.bl true) = (List.replicate (if ((ms.map V.int).length : Int) > 1 then ((ms.map V.int).length : Int) else 1).toNat true).map V.bl := by
        rw [given_all _ (fun _ => true)]
        congr 1
        rw [List.eq_replicate_iff]
        refine ⟨by rw [List.length_map, List.length_range], fun b hb => ?_⟩
        obtain ⟨_, _, rfl⟩ := List.mem_map.mp hb
        rfl
      rw [e0] at key
      exact key
    · intro H4 e4 Q4 q4
      refine ⟨.ref l, rfl, .int (i : Int), rfl, l, i, ms, rfl, sq_of ((e3.trans e4) _ _ h1), by omega, fun b H5 hb e5 hx => ?_⟩
      refine ⟨b, rfl, hx, fun H6 x6 => q4 H6 fun c o hc => x6 c o (ne_of_none hc hb) (e5 c o hc)⟩
end
end K67
set_option maxHeartbeats 0
namespace K67
open PySem PySem.Spec PyProof.Rows L2 Evl HH RZ
def d_can_pass : He.DefD := ⟨("can_pass", none), "can_pass", "can_pass", defArgs s_can_pass, defBody s_can_pass, defScope s_can_pass, [], []⟩
def d_may_pass : He.DefD := ⟨("may_pass", none), "may_pass", "may_pass", defArgs s_may_pass, defBody s_may_pass, defScope s_may_pass, [], []⟩
def d_pass_all : He.DefD := ⟨("pass_all", none), "pass_all", "pass_all", defArgs s_pass_all, defBody s_pass_all, defScope s_pass_all, [], []⟩
def d_fall_all : He.DefD := ⟨("fall_all", none), "fall_all", "fall_all", defArgs s_fall_all, defBody s_fall_all, defScope s_fall_all, [], []⟩
def d_row_and_order : He.DefD := ⟨("row_and_order", none), "row_and_order", "row_and_order", defArgs s_row_and_order, defBody s_row_and_order, defScope s_row_and_order, [], []⟩
def d_last : He.DefD := ⟨("last", none), "last", "last", defArgs s_last, defBody s_last, defScope s_last, [], []⟩
def d_first : He.DefD := ⟨("first", none), "first", "first", defArgs s_first, defBody s_first, defScope s_first, [], []⟩
def d_places_of : He.DefD := ⟨("places_of", none), "places_of", "places_of", defArgs s_places_of, defBody s_places_of, defScope s_places_of, [], []⟩
def d_turned_about : He.DefD := ⟨("turned_about", none), "turned_about", "turned_about", defArgs s_turned_about, defBody s_turned_about, defScope s_turned_about, [], []⟩
def d_passings : He.DefD := ⟨("passings", none), "passings", "passings", defArgs s_passings, defBody s_passings, defScope s_passings, [], []⟩
def d_never_pass : He.DefD := ⟨("never_pass", none), "never_pass", "never_pass", defArgs s_never_pass, defBody s_never_pass, defScope s_never_pass, [], []⟩
def d_never : He.DefD := ⟨("never", none), "never", "never", defArgs s_never, defBody s_never, defScope s_never, [], []⟩
def d_law_dip : He.DefD := ⟨("_law_dip", none), "_law_dip", "_law_dip", defArgs s_law_dip, defBody s_law_dip, defScope s_law_dip, [], []⟩
def d_law_take : He.DefD := ⟨("_law_take", none), "_law_take", "_law_take", defArgs s_law_take, defBody s_law_take, defScope s_law_take, [], []⟩
def d_law_folded : He.DefD := ⟨("_law_folded", none), "_law_folded", "_law_folded", defArgs s_law_folded, defBody s_law_folded, defScope s_law_folded, [], []⟩
def d_law_same : He.DefD := ⟨("_law_same", none), "_law_same", "_law_same", defArgs s_law_same, defBody s_law_same, defScope s_law_same, [], []⟩
def d_law_of : He.DefD := ⟨("_law_of", none), "_law_of", "_law_of", defArgs s_law_of, defBody s_law_of, defScope s_law_of, [], []⟩
def d_law_row : He.DefD := ⟨("_law_row", none), "_law_row", "_law_row", defArgs s_law_row, defBody s_law_row, defScope s_law_row, [], []⟩
def d_law_lets : He.DefD := ⟨("_law_lets", none), "_law_lets", "_law_lets", defArgs s_law_lets, defBody s_law_lets, defScope s_law_lets, [], []⟩
def d_law_passed : He.DefD := ⟨("_law_passed", none), "_law_passed", "_law_passed", defArgs s_law_passed, defBody s_law_passed, defScope s_law_passed, [], []⟩
def d_law_ended : He.DefD := ⟨("_law_ended", none), "_law_ended", "_law_ended", defArgs s_law_ended, defBody s_law_ended, defScope s_law_ended, [], []⟩
def d_law_sorted_right : He.DefD := ⟨("_law_sorted_right", none), "_law_sorted_right", "_law_sorted_right", defArgs s_law_sorted_right, defBody s_law_sorted_right, defScope s_law_sorted_right, [], []⟩
def d_law_stair_right : He.DefD := ⟨("_law_stair_right", none), "_law_stair_right", "_law_stair_right", defArgs s_law_stair_right, defBody s_law_stair_right, defScope s_law_stair_right, [], []⟩
def d_law_quiet_right : He.DefD := ⟨("_law_quiet_right", none), "_law_quiet_right", "_law_quiet_right", defArgs s_law_quiet_right, defBody s_law_quiet_right, defScope s_law_quiet_right, [], []⟩
def d_law_dear_right : He.DefD := ⟨("_law_dear_right", none), "_law_dear_right", "_law_dear_right", defArgs s_law_dear_right, defBody s_law_dear_right, defScope s_law_dear_right, [], []⟩
def d_law_strong_right : He.DefD := ⟨("_law_strong_right", none), "_law_strong_right", "_law_strong_right", defArgs s_law_strong_right, defBody s_law_strong_right, defScope s_law_strong_right, [], []⟩
def d_law_right : He.DefD := ⟨("_law_right", none), "_law_right", "_law_right", defArgs s_law_right, defBody s_law_right, defScope s_law_right, [], []⟩
def d_law : He.DefD := ⟨("law", none), "law", "law", defArgs s_law, defBody s_law, defScope s_law, [], []⟩
def fnsL : List He.DefD := [d_can_pass, d_may_pass, d_pass_all, d_fall_all, d_row_and_order, d_last, d_first, d_places_of, d_turned_about, d_passings, d_never_pass, d_never, d_law_dip, d_law_take, d_law_folded, d_law_same, d_law_of, d_law_row, d_law_lets, d_law_passed, d_law_ended, d_law_sorted_right, d_law_stair_right, d_law_quiet_right, d_law_dear_right, d_law_strong_right, d_law_right, d_law]
def faL : List He.Fa := [.glo "can_pass", .glo "may_pass", .glo "pass_all", .glo "fall_all", .glo "row_and_order", .glo "last", .glo "first", .glo "places_of", .glo "turned_about", .glo "passings", .glo "never_pass", .glo "never", .glo "_law_dip", .glo "_law_take", .glo "_law_folded", .glo "_law_same", .glo "_law_of", .glo "_law_row", .glo "_law_lets", .glo "_law_passed", .glo "_law_ended", .glo "_law_sorted_right", .glo "_law_stair_right", .glo "_law_quiet_right", .glo "_law_dear_right", .glo "_law_strong_right", .glo "_law_right", .glo "law", .free "abs", .free "all", .free "any", .free "bool", .free "enumerate", .free "int", .free "isinstance", .free "len", .free "list", .free "max", .free "range", .free "reversed", .free "sorted", .free "str", .free "tuple", .free "zip"]
abbrev R : PySem.W.OpenRow := PySem.W.OpenLaw.row PySem.Challenge.rw_hayherd_k67_whole_known_by_their_make
abbrev hk : PySem.W.Hook := He.hookD 4 faL fnsL
def ob (s : PySem.W.SharedT) : He.AlD := He.obsDG 4 faL fnsL (HandSHeadRun.getT s)
theorem ob_eq (s : PySem.W.SharedT) : ob s = hk.obs s.abs := He.obsDG_eq (HandSHeadRun.getT_eq s)
def loose : List PySem.Str := ["can_pass", "may_pass", "pass_all", "fall_all", "row_and_order", "last", "first", "places_of", "turned_about", "passings", "never_pass", "never", "_law_dip", "_law_take", "_law_folded", "_law_same", "_law_of", "_law_row", "_law_lets", "_law_passed", "_law_ended", "_law_sorted_right", "_law_stair_right", "_law_quiet_right", "_law_dear_right", "_law_strong_right", "_law_right"]
theorem run (w : World) : HandSHeadRun.RunEq R (PySem.W.view R.prog [31]) hk ob 3000 loose w := by
  intro os
  kernel_rfl
end K67
set_option maxHeartbeats 0
namespace K67
open PySem PySem.Spec PyProof.Rows L2 Evl HH RZ
theorem facts {P : Program} {w : World} {K : PySem.W.Frag} {h : Heap} {mg : Str → Option Value} {f : Addr} (X : K.In h) (G : h.Ns mainGlobals mg) (hfa : mg ("law" : Str) = some (.ref f)) (c : He.SaysD faL fnsL K) :
    ∃ fd : FuncData, (∀ (s : Shared) (v : Value), BindsTo s fd ⟨[v], []⟩ [("_law_script", v)]) ∧ ∀ base : Heap, K.In base → base.Ns mainGlobals mg → FnOk P w K mg base CX0 8 f fd ["_law_script"] (spLaw K) := by
  obtain ⟨fd_can_pass, F_can_pass⟩ := c.def_ 0 (d := d_can_pass) rfl
  have g_can_pass := He.glo_ok X G (c.fact 0 (f := .glo "can_pass") rfl)
  have b_can_pass : Binds K fd_can_pass ["row", "place"] [] := F_can_pass.bindsN fun _ _ _ _ _ _ us hl => match us, hl with | [_, _], _ => rfl
  obtain ⟨fd_may_pass, F_may_pass⟩ := c.def_ 1 (d := d_may_pass) rfl
  have g_may_pass := He.glo_ok X G (c.fact 1 (f := .glo "may_pass") rfl)
  have b_may_pass : Binds K fd_may_pass ["row"] [] := F_may_pass.bindsN fun _ _ _ _ _ _ us hl => match us, hl with | [_], _ => rfl
  obtain ⟨fd_pass_all, F_pass_all⟩ := c.def_ 2 (d := d_pass_all) rfl
  have g_pass_all := He.glo_ok X G (c.fact 2 (f := .glo "pass_all") rfl)
  have b_pass_all : Binds K fd_pass_all ["line", "strengths", "tolls", "who"] [] := F_pass_all.bindsN fun _ _ _ _ _ _ us hl => match us, hl with | [_, _, _, _], _ => rfl
  obtain ⟨fd_fall_all, F_fall_all⟩ := c.def_ 3 (d := d_fall_all) rfl
  have g_fall_all := He.glo_ok X G (c.fact 3 (f := .glo "fall_all") rfl)
  have b_fall_all : Binds K fd_fall_all ["line", "strengths", "tolls", "who"] [] := F_fall_all.bindsN fun _ _ _ _ _ _ us hl => match us, hl with | [_, _, _, _], _ => rfl
  obtain ⟨fd_row_and_order, F_row_and_order⟩ := c.def_ 4 (d := d_row_and_order) rfl
  have g_row_and_order := He.glo_ok X G (c.fact 4 (f := .glo "row_and_order") rfl)
  have b_row_and_order : Binds K fd_row_and_order ["line", "strengths", "tolls"] [] := F_row_and_order.bindsN fun _ _ _ _ _ _ us hl => match us, hl with | [_, _, _], _ => rfl
  obtain ⟨fd_last, F_last⟩ := c.def_ 5 (d := d_last) rfl
  have g_last := He.glo_ok X G (c.fact 5 (f := .glo "last") rfl)
  have b_last : Binds K fd_last ["row"] [] := F_last.bindsN fun _ _ _ _ _ _ us hl => match us, hl with | [_], _ => rfl
  obtain ⟨fd_first, F_first⟩ := c.def_ 6 (d := d_first) rfl
  have g_first := He.glo_ok X G (c.fact 6 (f := .glo "first") rfl)
  have b_first : Binds K fd_first ["row"] [] := F_first.bindsN fun _ _ _ _ _ _ us hl => match us, hl with | [_], _ => rfl
  obtain ⟨fd_places_of, F_places_of⟩ := c.def_ 7 (d := d_places_of) rfl
  have g_places_of := He.glo_ok X G (c.fact 7 (f := .glo "places_of") rfl)
  have b_places_of : Binds K fd_places_of ["order"] [] := F_places_of.bindsN fun _ _ _ _ _ _ us hl => match us, hl with | [_], _ => rfl
  obtain ⟨fd_turned_about, F_turned_about⟩ := c.def_ 8 (d := d_turned_about) rfl
  have g_turned_about := He.glo_ok X G (c.fact 8 (f := .glo "turned_about") rfl)
  have b_turned_about : Binds K fd_turned_about ["order"] [] := F_turned_about.bindsN fun _ _ _ _ _ _ us hl => match us, hl with | [_], _ => rfl
  obtain ⟨fd_passings, F_passings⟩ := c.def_ 9 (d := d_passings) rfl
  have g_passings := He.glo_ok X G (c.fact 9 (f := .glo "passings") rfl)
  have b_passings : Binds K fd_passings ["row"] [] := F_passings.bindsN fun _ _ _ _ _ _ us hl => match us, hl with | [_], _ => rfl
  obtain ⟨fd_never_pass, F_never_pass⟩ := c.def_ 10 (d := d_never_pass) rfl
  have g_never_pass := He.glo_ok X G (c.fact 10 (f := .glo "never_pass") rfl)
  have b_never_pass : Binds K fd_never_pass ["row", "one"] [] := F_never_pass.bindsN fun _ _ _ _ _ _ us hl => match us, hl with | [_, _], _ => rfl
  obtain ⟨fd_never, F_never⟩ := c.def_ 11 (d := d_never) rfl
  have g_never := He.glo_ok X G (c.fact 11 (f := .glo "never") rfl)
  have b_never : Binds K fd_never ["row"] [] := F_never.bindsN fun _ _ _ _ _ _ us hl => match us, hl with | [_], _ => rfl
  obtain ⟨fd_law_dip, F_law_dip⟩ := c.def_ 12 (d := d_law_dip) rfl
  have g_law_dip := He.glo_ok X G (c.fact 12 (f := .glo "_law_dip") rfl)
  have b_law_dip : Binds K fd_law_dip ["_law_script", "_law_k"] [] := F_law_dip.bindsN fun _ _ _ _ _ _ us hl => match us, hl with | [_, _], _ => rfl
  obtain ⟨fd_law_take, F_law_take⟩ := c.def_ 13 (d := d_law_take) rfl
  have g_law_take := He.glo_ok X G (c.fact 13 (f := .glo "_law_take") rfl)
  have b_law_take : Binds K fd_law_take ["_law_box", "_law_many"] [] := F_law_take.bindsN fun _ _ _ _ _ _ us hl => match us, hl with | [_, _], _ => rfl
  obtain ⟨fd_law_folded, F_law_folded⟩ := c.def_ 14 (d := d_law_folded) rfl
  have g_law_folded := He.glo_ok X G (c.fact 14 (f := .glo "_law_folded") rfl)
  have b_law_folded : Binds K fd_law_folded ["_law_script", "_law_many"] [] := F_law_folded.bindsN fun _ _ _ _ _ _ us hl => match us, hl with | [_, _], _ => rfl
  obtain ⟨fd_law_same, F_law_same⟩ := c.def_ 15 (d := d_law_same) rfl
  have g_law_same := He.glo_ok X G (c.fact 15 (f := .glo "_law_same") rfl)
  have b_law_same : Binds K fd_law_same ["_law_found", "_law_due"] [] := F_law_same.bindsN fun _ _ _ _ _ _ us hl => match us, hl with | [_, _], _ => rfl
  obtain ⟨fd_law_of, F_law_of⟩ := c.def_ 16 (d := d_law_of) rfl
  have g_law_of := He.glo_ok X G (c.fact 16 (f := .glo "_law_of") rfl)
  have b_law_of : Binds K fd_law_of ["_law_box", "_law_pool"] [] := F_law_of.bindsN fun _ _ _ _ _ _ us hl => match us, hl with | [_, _], _ => rfl
  obtain ⟨fd_law_row, F_law_row⟩ := c.def_ 17 (d := d_law_row) rfl
  have g_law_row := He.glo_ok X G (c.fact 17 (f := .glo "_law_row") rfl)
  have b_law_row : Binds K fd_law_row ["_law_box", "_law_most"] [] := F_law_row.bindsN fun _ _ _ _ _ _ us hl => match us, hl with | [_, _], _ => rfl
  obtain ⟨fd_law_lets, F_law_lets⟩ := c.def_ 18 (d := d_law_lets) rfl
  have g_law_lets := He.glo_ok X G (c.fact 18 (f := .glo "_law_lets") rfl)
  have b_law_lets : Binds K fd_law_lets ["_law_row_here", "_law_place"] [] := F_law_lets.bindsN fun _ _ _ _ _ _ us hl => match us, hl with | [_, _], _ => rfl
  obtain ⟨fd_law_passed, F_law_passed⟩ := c.def_ 19 (d := d_law_passed) rfl
  have g_law_passed := He.glo_ok X G (c.fact 19 (f := .glo "_law_passed") rfl)
  have b_law_passed : Binds K fd_law_passed ["_law_row_here", "_law_place"] [] := F_law_passed.bindsN fun _ _ _ _ _ _ us hl => match us, hl with | [_, _], _ => rfl
  obtain ⟨fd_law_ended, F_law_ended⟩ := c.def_ 20 (d := d_law_ended) rfl
  have g_law_ended := He.glo_ok X G (c.fact 20 (f := .glo "_law_ended") rfl)
  have b_law_ended : Binds K fd_law_ended ["_law_box", "_law_row_here"] [] := F_law_ended.bindsN fun _ _ _ _ _ _ us hl => match us, hl with | [_, _], _ => rfl
  obtain ⟨fd_law_sorted_right, F_law_sorted_right⟩ := c.def_ 21 (d := d_law_sorted_right) rfl
  have g_law_sorted_right := He.glo_ok X G (c.fact 21 (f := .glo "_law_sorted_right") rfl)
  have b_law_sorted_right : Binds K fd_law_sorted_right ["_law_box", "_law_many"] [] := F_law_sorted_right.bindsN fun _ _ _ _ _ _ us hl => match us, hl with | [_, _], _ => rfl
  obtain ⟨fd_law_stair_right, F_law_stair_right⟩ := c.def_ 22 (d := d_law_stair_right) rfl
  have g_law_stair_right := He.glo_ok X G (c.fact 22 (f := .glo "_law_stair_right") rfl)
  have b_law_stair_right : Binds K fd_law_stair_right ["_law_box", "_law_many"] [] := F_law_stair_right.bindsN fun _ _ _ _ _ _ us hl => match us, hl with | [_, _], _ => rfl
  obtain ⟨fd_law_quiet_right, F_law_quiet_right⟩ := c.def_ 23 (d := d_law_quiet_right) rfl
  have g_law_quiet_right := He.glo_ok X G (c.fact 23 (f := .glo "_law_quiet_right") rfl)
  have b_law_quiet_right : Binds K fd_law_quiet_right ["_law_box", "_law_many"] [] := F_law_quiet_right.bindsN fun _ _ _ _ _ _ us hl => match us, hl with | [_, _], _ => rfl
  obtain ⟨fd_law_dear_right, F_law_dear_right⟩ := c.def_ 24 (d := d_law_dear_right) rfl
  have g_law_dear_right := He.glo_ok X G (c.fact 24 (f := .glo "_law_dear_right") rfl)
  have b_law_dear_right : Binds K fd_law_dear_right ["_law_box", "_law_many"] [] := F_law_dear_right.bindsN fun _ _ _ _ _ _ us hl => match us, hl with | [_, _], _ => rfl
  obtain ⟨fd_law_strong_right, F_law_strong_right⟩ := c.def_ 25 (d := d_law_strong_right) rfl
  have g_law_strong_right := He.glo_ok X G (c.fact 25 (f := .glo "_law_strong_right") rfl)
  have b_law_strong_right : Binds K fd_law_strong_right ["_law_box", "_law_many"] [] := F_law_strong_right.bindsN fun _ _ _ _ _ _ us hl => match us, hl with | [_, _], _ => rfl
  obtain ⟨fd_law_right, F_law_right⟩ := c.def_ 26 (d := d_law_right) rfl
  have g_law_right := He.glo_ok X G (c.fact 26 (f := .glo "_law_right") rfl)
  have b_law_right : Binds K fd_law_right ["_law_box"] [] := F_law_right.bindsN fun _ _ _ _ _ _ us hl => match us, hl with | [_], _ => rfl
  obtain ⟨fd_law, F_law⟩ := c.def_ 27 (d := d_law) rfl
  have m_abs := He.free_ok X G (c.fact 28 (f := .free "abs") rfl)
  have m_all := He.free_ok X G (c.fact 29 (f := .free "all") rfl)
  have m_any := He.free_ok X G (c.fact 30 (f := .free "any") rfl)
  have m_bool := He.free_ok X G (c.fact 31 (f := .free "bool") rfl)
  have m_enumerate := He.free_ok X G (c.fact 32 (f := .free "enumerate") rfl)
  have m_int := He.free_ok X G (c.fact 33 (f := .free "int") rfl)
  have m_isinstance := He.free_ok X G (c.fact 34 (f := .free "isinstance") rfl)
  have m_len := He.free_ok X G (c.fact 35 (f := .free "len") rfl)
  have m_list := He.free_ok X G (c.fact 36 (f := .free "list") rfl)
  have m_max := He.free_ok X G (c.fact 37 (f := .free "max") rfl)
  have m_range := He.free_ok X G (c.fact 38 (f := .free "range") rfl)
  have m_reversed := He.free_ok X G (c.fact 39 (f := .free "reversed") rfl)
  have m_sorted := He.free_ok X G (c.fact 40 (f := .free "sorted") rfl)
  have m_str := He.free_ok X G (c.fact 41 (f := .free "str") rfl)
  have m_tuple := He.free_ok X G (c.fact 42 (f := .free "tuple") rfl)
  have m_zip := He.free_ok X G (c.fact 43 (f := .free "zip") rfl)
  have e := hfa.symm.trans (He.glo_ok X G (c.fact 27 (f := .glo "law") rfl))
  cases e
  have bl := FunD.bindsA (ps := ["_law_script"]) F_law fun _ _ _ _ _ _ us hl => match us, hl with | [_], _ => rfl
  refine ⟨fd_law, fun s v => bl s [v] rfl, fun base _ _ => ?_⟩
  have h_can_pass := ok_can_pass (P := P) (w := w) (mg := mg) (base := base) F_can_pass g_can_pass b_can_pass m_len
  have h_may_pass := ok_may_pass (P := P) (w := w) (mg := mg) (base := base) F_may_pass g_may_pass b_may_pass h_can_pass m_len m_range
  have h_pass_all := ok_pass_all (P := P) (w := w) (mg := mg) (base := base) F_pass_all g_pass_all b_pass_all m_len
  have h_fall_all := ok_fall_all (P := P) (w := w) (mg := mg) (base := base) F_fall_all g_fall_all b_fall_all m_len
  have h_row_and_order := ok_row_and_order (P := P) (w := w) (mg := mg) (base := base) F_row_and_order g_row_and_order b_row_and_order m_tuple
  have h_last := ok_last (P := P) (w := w) (mg := mg) (base := base) F_last g_last b_last h_pass_all h_row_and_order m_range m_len
  have h_first := ok_first (P := P) (w := w) (mg := mg) (base := base) F_first g_first b_first h_fall_all h_row_and_order m_range m_len m_reversed
  have h_places_of := ok_places_of (P := P) (w := w) (mg := mg) (base := base) F_places_of g_places_of b_places_of m_enumerate
  have h_turned_about := ok_turned_about (P := P) (w := w) (mg := mg) (base := base) F_turned_about g_turned_about b_turned_about h_places_of m_len m_range
  have h_passings := ok_passings (P := P) (w := w) (mg := mg) (base := base) F_passings g_passings b_passings h_turned_about h_last
  have h_never_pass := ok_never_pass (P := P) (w := w) (mg := mg) (base := base) F_never_pass g_never_pass b_never_pass m_range m_len
  have h_never := ok_never (P := P) (w := w) (mg := mg) (base := base) F_never g_never b_never h_never_pass m_range m_len
  have h_law_dip := ok_law_dip (P := P) (w := w) (mg := mg) (base := base) F_law_dip g_law_dip b_law_dip m_len m_abs m_int
  have h_law_take := ok_law_take (P := P) (w := w) (mg := mg) (base := base) F_law_take g_law_take b_law_take
  have h_law_folded := ok_law_folded (P := P) (w := w) (mg := mg) (base := base) F_law_folded g_law_folded b_law_folded m_list m_enumerate
  have h_law_same := ok_law_same (P := P) (w := w) (mg := mg) (base := base) F_law_same g_law_same b_law_same m_isinstance m_list m_tuple m_bool m_str m_int m_len m_all m_zip 5
  have h_law_of := ok_law_of (P := P) (w := w) (mg := mg) (base := base) F_law_of g_law_of b_law_of h_law_take m_len
  have h_law_row := ok_law_row (P := P) (w := w) (mg := mg) (base := base) F_law_row g_law_row b_law_row h_law_take h_law_of m_range m_tuple
  have h_law_lets := ok_law_lets (P := P) (w := w) (mg := mg) (base := base) F_law_lets g_law_lets b_law_lets
  have h_law_passed := ok_law_passed (P := P) (w := w) (mg := mg) (base := base) F_law_passed g_law_passed b_law_passed
  have h_law_ended := ok_law_ended (P := P) (w := w) (mg := mg) (base := base) F_law_ended g_law_ended b_law_ended h_law_of h_law_lets h_law_passed m_range m_tuple m_list m_len
  have h_law_sorted_right := ok_law_sorted_right (P := P) (w := w) (mg := mg) (base := base) F_law_sorted_right g_law_sorted_right b_law_sorted_right h_law_take h_law_of h_law_same h_last h_first h_passings m_range m_tuple m_sorted
  have h_law_stair_right := ok_law_stair_right (P := P) (w := w) (mg := mg) (base := base) F_law_stair_right g_law_stair_right b_law_stair_right h_law_take h_law_same h_last h_first h_never h_may_pass m_range m_tuple
  have h_law_quiet_right := ok_law_quiet_right (P := P) (w := w) (mg := mg) (base := base) F_law_quiet_right g_law_quiet_right b_law_quiet_right h_law_take h_law_same h_last h_passings h_never m_range m_tuple m_list
  have h_law_dear_right := ok_law_dear_right (P := P) (w := w) (mg := mg) (base := base) F_law_dear_right g_law_dear_right b_law_dear_right h_law_take h_law_same h_last h_passings m_range m_tuple m_sorted m_len m_any
  have h_law_strong_right := ok_law_strong_right (P := P) (w := w) (mg := mg) (base := base) F_law_strong_right g_law_strong_right b_law_strong_right h_law_take h_law_same h_last h_law_ended h_law_row m_range m_tuple m_len m_enumerate
  have h_law_right := ok_law_right (P := P) (w := w) (mg := mg) (base := base) F_law_right g_law_right b_law_right h_law_take h_law_sorted_right h_law_stair_right h_law_quiet_right h_law_dear_right h_law_strong_right m_range m_all
  exact ok_law F_law h_law_folded h_law_dip h_law_right m_range m_len m_all m_max
end K67
open PySem PySem.W PySem.Calls PyProof.Rows
theorem PySem.Challenge.cw_hayherd_k67_whole_known_by_their_make_holds : PySem.Challenge.rw_hayherd_k67_whole_known_by_their_make.Holds := by
  w_on; o_law
  refine HandSHeadRun.head_any (r := OpenLaw.row PySem.Challenge.rw_hayherd_k67_whole_known_by_their_make) (q := view (OpenLaw.row PySem.Challenge.rw_hayherd_k67_whole_known_by_their_make).prog [31]) (H := K67.hk) (ob := K67.ob) (M := 3000) (loose := K67.loose) (d := HandSHeadRun.topDef (OpenLaw.row PySem.Challenge.rw_hayherd_k67_whole_known_by_their_make).prog 31) (kwd := []) K67.ob_eq
    (by kernel_rfl) (fun s => by kernel_rfl) K67.run (by kernel_rfl) (by kernel_rfl) (by kernel_rfl) (by rfl) (by first | assumption | decide +kernel) (by decide +kernel) ⟨rfl, rfl, rfl, rfl, rfl, by decide +kernel⟩ ?hw ?hc
  case hw => w_witness2
  case hc =>
    refine L2.walk_ofE (l := PySem.Challenge.rw_hayherd_k67_whole_known_by_their_make) (n := 63) (k := 8) (x := "_law_script") (CX := L2.CX0) rfl (by decide) (by kernel_rfl) ⟨rfl, by decide, by decide⟩ ?F (fun _ _ _ _ z => z)
    intro w mg fa h Y G hmg0
    obtain ⟨K, KX, c⟩ := Y
    have hmg : mg ("law" : PySem.Str) = some (.ref fa) := by
      have e : (HandSHeadRun.topDef (OpenLaw.row PySem.Challenge.rw_hayherd_k67_whole_known_by_their_make).prog 31).name = ("law" : PySem.Str) := by kernel_rfl
      rw [← e]
      exact hmg0
    obtain ⟨fd, hb, hF⟩ := K67.facts (P := (PySem.Challenge.rw_hayherd_k67_whole_known_by_their_make).prog) (w := w) KX G hmg c
    exact ⟨K, fd, HH.spLaw K, KX, hb, fun H a ns hl _ hS => ⟨a, ns, rfl, hS, hl, fun _ => rfl⟩, hF⟩
