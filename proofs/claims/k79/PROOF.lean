import PyProof.Rows.All
import Wide.All
import OpenK.AllK
import Wide.FinOn
import KE.KStateDown
import HandS.ForMost
import HandS.Conv
import HandS.Flow
import HandS.Style
import HandS.TupAny
import HandS.TupMul
import HandS.IsInst
import HandS.Wide
import HandS.Defaults
import HandS.Zip
import HandS.Evl
import HandS.More
import HandS.WordsExc
import HandS.Head2
import HandS.HeadEnd
import HandS.HeadHook2
import HandS.Walk
import HandS.ExcInit
import HandS.HeadHook4
import KE.KExcIs
import KE.KTryMore
import KE.KExcInit
import PyProof.ReprRoads
import PyProof.ReprText
import PyProof.ReprLen
import HandS.RevRange
import HandS.SortInts
import KE.GoesMore
import HandS.DictComp
import HandS.Dict
import HandS.SortRule
import HandS.Deep
import HandS.Strs
import KE.GoesZip
import KE.GoesEnum
import HandS.DictTup
import KE.KDictZip
import HandS.SetFor
import HandS.Small
import KE.KSortTupAny
import HandS.CallLocal
import KE.DataMinMax
import PyProof.SumAnyB
import HandS.TupLe
import PySem.Challenge.RW_hayherd_k79_whole_great_lots
set_option Elab.async false
set_option linter.all false
set_option maxRecDepth 100000
set_option maxHeartbeats 4000000
namespace HH
open PySem PySem.Spec PyProof.Rows L2
section
variable {X : Cx}
def CPowW (i j : Int) : Prop := 0 ≤ j ∧ (Builtin.Int.intBits i : Int) * j ≤ 2 ^ 27
theorem op_powW : OpR X (binaryOp .Pow) (rI CPowW fun i j => .int (i ^ j.toNat)) := opI fun _ _ _ _ _ _ _ hc q => pow_int hc.1 hc.2 q
theorem ix_tupK {K : PySem.W.Frag} (h : X.K = K := by rfl) : IxR X (rIxT K) := by
  subst h
  exact ix_tup
theorem ix_listK {K : PySem.W.Frag} (h : X.K = K := by rfl) : IxR X (rIxL K) := by
  subst h
  exact ix_list
end
end HH
set_option maxHeartbeats 4000000
namespace HH
open PySem PySem.Spec PyProof.Rows L2 Evl
abbrev FnP (K : PySem.W.Frag) (x : Str) (st : Stmt) (f : Addr) (fd : FuncData) : Prop := FunD K x x (defArgs st) (defBody st) (defScope st) [] [] f fd
structure Has (P : Program) (w : World) (K : PySem.W.Frag) (mg : Str → Option Value) (base : Heap) (k : Nat) (x : Str) (ps : List Str) (sp : Sp) (f : Addr) (fd : FuncData) : Prop where
  G : FnOk P w K mg base CX0 k f fd ps sp
  g : mg x = some (.ref f)
  kp : PySem.W.keepIn K (.ref f) = true
  b : Binds K fd ps []
def ExB (b : Addr) (H H' : Hp) : Prop := ∀ a o, a ≠ b → H a = some o → H' a = some o
theorem ExB.refl (b : Addr) (H : Hp) : ExB b H H := fun _ _ _ h => h
theorem ExB.trans {b : Addr} {H H1 H2 : Hp} (x : ExB b H H1) (y : ExB b H1 H2) : ExB b H H2 := fun a o n h => y a o n (x a o n h)
theorem ExB.of {b : Addr} {H H' : Hp} (e : Ex H H') : ExB b H H' := fun a o _ h => e a o h
theorem ExB.new {b p : Addr} {H H' : Hp} {o : HO} (e : ExB b H H') (h : H' p = none) : ExB b H (upd H' p o) := e.trans (.of (Ex.new h))
theorem ExB.upd {b : Addr} {H H' : Hp} {o : HO} (e : ExB b H H') : ExB b H (upd H' b o) := fun a u n h => by
  rw [upd_ne n]
  exact e a u n h
theorem ExB.mut {b p : Addr} {H H' : Hp} {o : HO} (e : ExB b H H') (h : H p = none) : ExB b H (L2.upd H' p o) := fun a u n ha => by
  rw [upd_ne (ne_of_none ha h)]
  exact e a u n ha
theorem ExB.rd {b a : Addr} {H H' : Hp} {u : HO} (e : ExB b H H') (n : a ≠ b) (h : Rd H a u) : Rd H' a u := by
  rcases h with h | ⟨o, h⟩
  · exact .inl (e a _ n h)
  · exact .inr ⟨o, e a _ n h⟩
theorem ExB.l {K : PySem.W.Frag} {b a : Addr} {H H' : Hp} {xs : List V} (e : ExB b H H') (n : a ≠ b) (h : SqL K H a xs) : SqL K H' a xs := by
  rcases h with h | h
  · exact .inl (e.rd n h)
  · exact .inr h
theorem ExB.t {K : PySem.W.Frag} {b a : Addr} {H H' : Hp} {xs ys : List V} (e : ExB b H H') (hb : H b = some (.lst ys)) (h : SqT K H a xs) : SqT K H' a xs := by
  rcases h with h | h
  · refine .inl (e.rd (fun z => ?_) h)
    subst z
    rcases h with h | ⟨o, h⟩
    · rw [hb] at h
      cases h
    · rw [hb] at h
      cases h
  · exact .inr h
def Lim : Nat := 2 ^ 4000
def Bx (H : Hp) (p : Addr) (n : Nat) : Prop := ∃ a b c : Int, H p = some (.lst [.int a, .int b, .int c]) ∧ 0 ≤ a ∧ 0 ≤ b ∧ b < 2 ^ 62 ∧ 0 ≤ c ∧ c ≤ n
theorem Bx.ex {H H' : Hp} {p : Addr} {n : Nat} (h : Bx H p n) (e : Ex H H') : Bx H' p n := by
  obtain ⟨a, b, c, h1, h2⟩ := h
  exact ⟨a, b, c, e _ _ h1, h2⟩
theorem Bx.mut {H : Hp} {p q : Addr} {n : Nat} {o : HO} (h : Bx H p n) (e : p ≠ q) : Bx (upd H q o) p n := by
  obtain ⟨a, b, c, h1, h2⟩ := h
  exact ⟨a, b, c, by rw [upd_ne e]; exact h1, h2⟩
theorem Bx.le {H : Hp} {p : Addr} {n m : Nat} (h : Bx H p n) (e : n ≤ m) : Bx H p m := by
  obtain ⟨a, b, c, h1, h2, h3, h4, h5, h6⟩ := h
  exact ⟨a, b, c, h1, h2, h3, h4, h5, by omega⟩
theorem Bx.lst {H : Hp} {p : Addr} {n : Nat} (h : Bx H p n) : ∃ xs, H p = some (.lst xs) := by
  obtain ⟨a, b, c, h1, _⟩ := h
  exact ⟨_, h1⟩
theorem Bx.ne {H : Hp} {p q : Addr} {n : Nat} (h : Bx H p n) (hq : H q = none) : p ≠ q := by
  obtain ⟨xs, h⟩ := h.lst
  exact ne_of_none h hq
abbrev Row := List (Int × Int)
def BeastAt (K : PySem.W.Frag) (H : Hp) (v : V) (b : Int × Int) : Prop := ∃ p, v = .ref p ∧ SqT K H p [.int b.1, .int b.2]
def Beasts (K : PySem.W.Frag) (H : Hp) (vs : List V) (rs : Row) : Prop := vs.length = rs.length ∧ ∀ (i : Nat) (b : Int × Int), rs[i]? = some b → ∃ u, vs[i]? = some u ∧ BeastAt K H u b
def RowAt (K : PySem.W.Frag) (H : Hp) (v : V) (rs : Row) : Prop := ∃ a vs, v = .ref a ∧ SqT K H a vs ∧ Beasts K H vs rs
theorem BeastAt.ex {K : PySem.W.Frag} {H H' : Hp} {v : V} {b : Int × Int} (e : Ex H H') (h : BeastAt K H v b) : BeastAt K H' v b := by
  obtain ⟨p, h1, h2⟩ := h
  exact ⟨p, h1, ex_t e h2⟩
theorem BeastAt.exB {K : PySem.W.Frag} {H H' : Hp} {v : V} {b : Int × Int} {q : Addr} {ys : List V} (e : ExB q H H') (hq : H q = some (.lst ys)) (h : BeastAt K H v b) : BeastAt K H' v b := by
  obtain ⟨p, h1, h2⟩ := h
  exact ⟨p, h1, e.t hq h2⟩
theorem Beasts.ex {K : PySem.W.Frag} {H H' : Hp} {vs : List V} {rs : Row} (e : Ex H H') (h : Beasts K H vs rs) : Beasts K H' vs rs := ⟨h.1, fun i b hi => by
  obtain ⟨u, h1, h2⟩ := h.2 i b hi
  exact ⟨u, h1, h2.ex e⟩⟩
theorem Beasts.exB {K : PySem.W.Frag} {H H' : Hp} {vs : List V} {rs : Row} {q : Addr} {ys : List V} (e : ExB q H H') (hq : H q = some (.lst ys)) (h : Beasts K H vs rs) : Beasts K H' vs rs := ⟨h.1, fun i b hi => by
  obtain ⟨u, h1, h2⟩ := h.2 i b hi
  exact ⟨u, h1, h2.exB e hq⟩⟩
theorem RowAt.ex {K : PySem.W.Frag} {H H' : Hp} {v : V} {rs : Row} (h : RowAt K H v rs) (e : Ex H H') : RowAt K H' v rs := by
  obtain ⟨a, vs, h1, h2, h3⟩ := h
  exact ⟨a, vs, h1, ex_t e h2, h3.ex e⟩
theorem RowAt.exB {K : PySem.W.Frag} {H H' : Hp} {v : V} {rs : Row} {q : Addr} {n : Nat} (h : RowAt K H v rs) (e : ExB q H H') (hb : Bx H q n) : RowAt K H' v rs := by
  obtain ⟨a, vs, h1, h2, h3⟩ := h
  obtain ⟨ys, hy⟩ := hb.lst
  exact ⟨a, vs, h1, e.t hy h2, h3.exB e hy⟩
theorem Beasts.nil {K : PySem.W.Frag} {H : Hp} : Beasts K H [] [] := ⟨rfl, fun i b h => by simp at h⟩
theorem Beasts.app {K : PySem.W.Frag} {H : Hp} {vs us : List V} {rs ss : Row} (h : Beasts K H vs rs) (g : Beasts K H us ss) : Beasts K H (vs ++ us) (rs ++ ss) := by
  refine ⟨by rw [List.length_append, List.length_append, h.1, g.1], fun i b hi => ?_⟩
  by_cases hl : i < rs.length
  · rw [List.getElem?_append_left hl] at hi
    rw [List.getElem?_append_left (by rw [h.1]; exact hl)]
    exact h.2 i b hi
  · rw [List.getElem?_append_right (by omega)] at hi
    rw [List.getElem?_append_right (by rw [h.1]; omega), h.1]
    exact g.2 _ b hi
theorem Beasts.one {K : PySem.W.Frag} {H : Hp} {v : V} {b : Int × Int} (h : BeastAt K H v b) : Beasts K H [v] [b] := by
  refine ⟨rfl, fun i c hi => ?_⟩
  cases i with
  | zero =>
    cases hi
    exact ⟨v, rfl, h⟩
  | succ i => simp at hi
theorem Beasts.take {K : PySem.W.Frag} {H : Hp} {vs : List V} {rs : Row} (n : Nat) (h : Beasts K H vs rs) : Beasts K H (vs.take n) (rs.take n) := by
  refine ⟨by rw [List.length_take, List.length_take, h.1], fun i b hi => ?_⟩
  rw [List.getElem?_take] at hi ⊢
  by_cases hl : i < n
  · rw [if_pos hl] at hi ⊢
    exact h.2 i b hi
  · rw [if_neg hl] at hi
    cases hi
theorem Beasts.drop {K : PySem.W.Frag} {H : Hp} {vs : List V} {rs : Row} (n : Nat) (h : Beasts K H vs rs) : Beasts K H (vs.drop n) (rs.drop n) := by
  refine ⟨by rw [List.length_drop, List.length_drop, h.1], fun i b hi => ?_⟩
  rw [List.getElem?_drop] at hi ⊢
  exact h.2 _ b hi
theorem cut_to (xs : List V) (j : Nat) : cutV xs none (some (j : Int)) = xs.take j := by
  unfold cutV
  rw [HT.sIx_none, HT.sIx_nat, Nat.sub_zero, List.drop_zero]
  by_cases h : j ≤ xs.length
  · rw [Nat.min_eq_left h]
  · rw [Nat.min_eq_right (by omega), List.take_of_length_le (Nat.le_refl _), List.take_of_length_le (by omega)]
theorem cut_from (xs : List V) (j : Nat) : cutV xs (some (j : Int)) none = xs.drop j := by
  unfold cutV
  rw [HT.sIx_none, HT.sIx_nat]
  by_cases h : j ≤ xs.length
  · rw [Nat.min_eq_left h]
    exact List.take_of_length_le (by rw [List.length_drop]; omega)
  · rw [Nat.min_eq_right (by omega), Nat.sub_self, List.take_zero, List.drop_of_length_le (by omega)]
theorem cut_all {xs : List V} {lo hi : Option Int} (h : HT.sIx xs.length 0 lo = 0 ∧ HT.sIx xs.length xs.length hi = xs.length) : cutV xs lo hi = xs := by
  unfold cutV
  rw [h.1, h.2, Nat.sub_zero, List.drop_zero]
  exact List.take_of_length_le (Nat.le_refl _)
end HH
set_option maxHeartbeats 4000000
namespace HH
open PySem PySem.Spec PyProof.Rows L2 Evl
section
variable {K : PySem.W.Frag} {σ : L2.St} {H H' : Hp} {ta tb te tx : TE} {x y z v : V}
end
def sS (rs : Row) (i : Nat) : Int := (rs[i]?.getD (0, 0)).1
def tS (rs : Row) (i : Nat) : Int := (rs[i]?.getD (0, 0)).2
theorem row_get {rs : Row} {i : Nat} (h : i < rs.length) : rs[i]? = some (sS rs i, tS rs i) := by
  unfold sS tS
  rw [List.getElem?_eq_getElem h] <;> rfl
end HH
set_option maxHeartbeats 4000000
namespace HH
open PySem PySem.Spec PyProof.Rows L2 Evl
section
variable {K : PySem.W.Frag} {σ : L2.St} {H H' : Hp} {ta tb te tx : TE} {x y z v : V} {D : Ends} {tz : TS}
theorem q_asgT2 {i j : Nat} {p : Addr} (h : Ev te σ H (.ref p)) (hp : SqT K H p [x, y]) (k : ∀ H1, Ex H H1 → tz D ((σ.set i (some x)).set j (some y)) H1) : tSeq (tAsg te (gTup K 2 (gCons (gName i) (gCons (gName j) gNil)))) tz D σ H :=
  h H (Ex.refl H) _ fun H1 e => ⟨p, [x, y], rfl, ex_t e hp, rfl, x, [y], rfl, y, [], rfl, rfl, k H1 e⟩
end
end HH
set_option maxHeartbeats 4000000
namespace HH
open PySem PySem.Spec PyProof.Rows L2 Evl
theorem bits_le {i : Int} {n : Nat} (h : i.natAbs < 2 ^ n) : Builtin.Int.intBits i ≤ n := by
  unfold Builtin.Int.intBits
  split
  · exact Nat.zero_le _
  · rename_i z
    have hz : i.natAbs ≠ 0 := by
      intro e
      apply z
      have : i = 0 := by omega
      rw [this]
      rfl
    have := (Nat.log2_lt hz).mpr h
    omega
theorem pow_ok {i : Int} (h : i.natAbs < 2 ^ 4100) : CPowW i 5 := by
  refine ⟨by decide, ?_⟩
  have h1 := bits_le h
  have h2 : (Builtin.Int.intBits i : Int) ≤ 4100 := by omega
  have h3 : (2 : Int) ^ 27 = 134217728 := by decide
  rw [h3]
  omega
theorem mulW_ok {i j : Int} (h : i.natAbs < 2 ^ 4100) (g : j.natAbs < 2 ^ 4100) : CMulW i j := wide_mul h g (by decide) (by decide) (by decide)
theorem two_split : (2 : Nat) ^ 4100 = 2 ^ 4000 * 2 ^ 100 := by rw [← Nat.pow_add]
theorem big_of {c : Int} (h0 : 0 ≤ c) (h : c ≤ (Lim : Int) + 1) (k b : Int) (hk : 0 ≤ k) (hk2 : k ≤ 40000) (hb : 0 ≤ b) (hb2 : b ≤ 2 ^ 63) : (b + k * c).natAbs < 2 ^ 4100 := by
  have hl : Lim = 2 ^ 4000 := rfl
  have hp : 0 < (2 : Nat) ^ 4000 := Nat.pow_pos (by decide)
  rw [two_split]
  generalize (2 : Nat) ^ 4000 = L at *
  have h2 : c.toNat ≤ L + 1 := by omega
  have h3 : k.toNat * c.toNat ≤ 40000 * (L + 1) := Nat.mul_le_mul (by omega) h2
  have h4 : (b + k * c) = ((b.toNat + k.toNat * c.toNat : Nat) : Int) := by
    rw [Int.natCast_add, Int.natCast_mul, Int.toNat_of_nonneg hb, Int.toNat_of_nonneg hk, Int.toNat_of_nonneg h0]
  rw [h4, Int.natAbs_natCast]
  have h5 : b.toNat ≤ 2 ^ 63 := by omega
  have h6 : (2 : Nat) ^ 100 = 1267650600228229401496703205376 := by decide
  have h7 : (2 : Nat) ^ 63 = 9223372036854775808 := by decide
  rw [h6]
  rw [h7] at h5
  have h8 : L * 1267650600228229401496703205376 ≥ L * 40000 + L * 9223372036854775808 + L * 50000 := by omega
  omega
def spTake : Sp := fun vs H Q _ => ∃ (p : Addr) (m : Int) (n : Nat), vs = [.ref p, .int m] ∧ 0 < m ∧ m < 1073741824 ∧ Bx H p n ∧ n < Lim ∧ ∀ (r : Int) H', 0 ≤ r → r < m → ExB p H H' → Bx H' p (n + 1) → Q (.int r) H'
theorem divW_ok {i m : Int} (h : 0 < m) (g : m < 1073741824) : CDivW i m := wide_div h (show m.natAbs < 2 ^ 30 by
  have : (2 : Nat) ^ 30 = 1073741824 := by decide
  omega) (by decide) (by decide)
theorem fmod_lo {a m : Int} (h : 0 < m) : 0 ≤ a.fmod m := Int.fmod_nonneg_of_pos a h
theorem fmod_hi {a m : Int} (h : 0 < m) : a.fmod m < m := Int.fmod_lt_of_pos a h
end HH
set_option maxHeartbeats 4000000
namespace HH
open PySem PySem.Spec PyProof.Rows L2 Evl RZ
inductive TyN (K : PySem.W.Frag) (H : Hp) : V → String → Prop where
  | non : TyN K H .non "NoneType"
  | bl (b : Bool) : TyN K H (.bl b) "bool"
  | int (i : Int) : TyN K H (.int i) "int"
  | str (s : Str) : TyN K H (.str s) "str"
  | lst {a : Addr} {xs : List V} (e : SqL K H a xs) : TyN K H (.ref a) "list"
  | tup {a : Addr} {xs : List V} (e : SqT K H a xs) : TyN K H (.ref a) "tuple"
theorem TyN.ex {K : PySem.W.Frag} {H H' : Hp} {x : V} {t : String} (h : TyN K H x t) (e : Ex H H') : TyN K H' x t := by
  cases h with
  | non => exact .non
  | bl b => exact .bl b
  | int i => exact .int i
  | str s => exact .str s
  | lst h => exact .lst (ex_l e h)
  | tup h => exact .tup (ex_t e h)
theorem TyN.x {K : PySem.W.Frag} {H : Hp} {x : V} {t : String} (h : TyN K H x t) : TyX K H x (.type t) := by
  cases h with
  | non => exact .base .non
  | bl b => exact .base (.bl b)
  | int i => exact .base (.int i)
  | str s => exact .base (.str s)
  | lst h =>
    rcases h with (h | ⟨o, h⟩) | h
    · exact .base (.lst h)
    · exact .base (.frz h)
    · obtain ⟨o, _, _, h1, h2, _⟩ := h
      exact .kList h1 h2
  | tup h =>
    rcases h with (h | ⟨o, h⟩) | h
    · exact .base (.tup h)
    · exact .fTuple h
    · obtain ⟨o, _, _, h1, h2, _⟩ := h
      exact .kTuple h1 h2
section
variable {K : PySem.W.Frag} {σ : L2.St} {H H' : Hp} {ta tb te tx : TE} {x y z v : V} {D : Ends} {tz : TS}
theorem ev_isi {T C : String} {b : Bool} (h : Ev te σ H x) (ht : TyN K H x T) (k : kitB T C = some b) : Ev (tCB (rIsi K) (tCons te (tCons (tC (.ty C)) tNil))) σ H (.bl b) := fun H1 e Q q =>
  h H1 e _ fun H2 e2 => ⟨x, .ty C, .type T, .type C, b, rfl, .ty C, (ht.ex (e.trans e2)).x, kit_ty k, q H2 e2⟩
theorem ev_isiT {T C C2 : String} {b : Bool} (h : Ev te σ H x) (ht : TyN K H x T) (k : PySem.W.kitAny K (.type T) [.type C, .type C2] = some b) : Ev (tCB (rIsiT K) (tCons te (tCons (tTup (tCons (tC (.ty C)) (tCons (tC (.ty C2)) tNil))) tNil))) σ H (.bl b) := fun H1 e Q q =>
  h H1 e _ fun H2 e2 => ⟨by show 2 ≤ sizeLine; decide, fun p hp => ⟨x, p, [.ty C, .ty C2], .type T, [.type C, .type C2], b, rfl, upd_same, .cons (.ty C) (.cons (.ty C2) .nil), (ht.ex ((e.trans e2).trans (Ex.new hp))).x, k, q _ (e2.trans (Ex.new hp))⟩⟩
theorem rv_isN2 {b : Bool} (h : decide (x = V.non) = b) : RV (fun x y H Q => y = .non ∧ Q (.bl (decide (x = .non))) H) x .non H (.bl b) := fun H1 _ _ q => ⟨rfl, by rw [h]; exact q H1 (Ex.refl H1)⟩
end
theorem walk_zipT {K : PySem.W.Frag} {a b : Addr} {xs ys : List V} {n : Nat} (hn : n = min xs.length ys.length) : Walk (ItzT K a b) n (fun H => SqT K H a xs ∧ SqT K H b ys) (YPair (fun i => xs[i]?) (fun i => ys[i]?)) := by
  subst hn
  refine ⟨fun i _ hi q => ?_, fun _ q => ⟨xs, ys, q.1, q.2, by omega⟩, fun i H v H' _ q y => ?_⟩
  · have g1 : i < xs.length := by omega
    have g2 : i < ys.length := by omega
    exact ⟨xs, ys, xs[i], ys[i], q.1, q.2, by simp [g1], by simp [g2]⟩
  · obtain ⟨T, x, z, h1, h2, h3, h4, h5⟩ := y
    exact ⟨T, x, z, h1, h2, h3, h4 xs q.1, h5 ys q.2⟩
def Flat : V → Prop
  | .int _ => True
  | .bl _ => True
  | .str _ => True
  | .non => True
  | _ => False
def Alike (K : PySem.W.Frag) (H : Hp) : Nat → V → V → Prop
  | 0, _, _ => False
  | d + 1, x, y => (x = y ∧ Flat x) ∨ ∃ (a b : Addr) (xs ys : List V), x = .ref a ∧ y = .ref b ∧ ((SqL K H a xs ∧ SqL K H b ys) ∨ (SqT K H a xs ∧ SqT K H b ys)) ∧ xs.length = ys.length ∧ xs.length ≤ 40000 ∧
    ∀ (i : Nat) (u v : V), xs[i]? = some u → ys[i]? = some v → Alike K H d u v
theorem Alike.ex {K : PySem.W.Frag} {H H' : Hp} (e : Ex H H') : ∀ {d : Nat} {x y : V}, Alike K H d x y → Alike K H' d x y
  | 0, _, _, h => h
  | d + 1, x, y, h => by
    rcases h with h | ⟨a, b, xs, ys, h1, h2, h3, h4, h5, h6⟩
    · exact .inl h
    · refine .inr ⟨a, b, xs, ys, h1, h2, ?_, h4, h5, fun i u v hu hv => Alike.ex e (h6 i u v hu hv)⟩
      rcases h3 with h3 | h3
      · exact .inl ⟨ex_l e h3.1, ex_l e h3.2⟩
      · exact .inr ⟨ex_t e h3.1, ex_t e h3.2⟩
def spSame (K : PySem.W.Frag) (d : Nat) : Sp := fun vs H Q _ => ∃ x y, vs = [x, y] ∧ Alike K H d x y ∧ RetV (.bl true) H Q
theorem has_none {P : Program} {w : World} {K : PySem.W.Frag} {mg : Str → Option Value} {base : Heap} {f : Addr} {fd : FuncData} {ps : List Str} : FnOk P w K mg base CX0 0 f fd ps (spSame K 0) :=
  ⟨fun _ _ _ _ h => by obtain ⟨_, _, _, h, _⟩ := h; exact h.elim, fun _ _ _ _ _ _ _ _ _ _ _ _ _ h => by obtain ⟨_, _, _, h, _⟩ := h; exact h.elim⟩
section
variable {K : PySem.W.Frag} {σ : L2.St} {H H' : Hp}
theorem el_same {d : Nat} {a b : Addr} {xs ys : List V} (hl : xs.length = ys.length) (hz : xs.length ≤ 40000) (h3 : (SqL K H a xs ∧ SqL K H b ys) ∨ (SqT K H a xs ∧ SqT K H b ys)) (h6 : ∀ (i : Nat) (u v : V), xs[i]? = some u → ys[i]? = some v → Alike K H d u v) :
    EvL (tLc (iZipA K (tCons (tVar 0) (tCons (tVar 1) tNil))) (gTup K 2 (gCons (gName 2) (gCons (gName 3) gNil))) tYes (tCall (spSame K d) [] E0 (tCons (tVar 2) (tCons (tVar 3) tNil))) [2, 3]) [some (.ref a), some (.ref b), none, none] H ((List.replicate xs.length true).map V.bl) := fun H0 e Q q => by
  have turn : ∀ (Dl : Addr) (i : Nat) (x : V) (H1 H2 : Hp), H0 Dl = none → i < xs.length → (Ex H0 H1 ∧ H1 Dl = some (.lst ((List.replicate i true).map V.bl))) → YPair (fun i => xs[i]?) (fun i => ys[i]?) i H1 x H2 →
      gTup K 2 (gCons (gName 2) (gCons (gName 3) gNil)) x (wipe [some (.ref a), some (.ref b), none, none] [2, 3]) H2 fun σ2 H3 => wipe σ2 [2, 3] = wipe [some (.ref a), some (.ref b), none, none] [2, 3] ∧ tYes σ2 H3 fun b H4 =>
      if b = true then tCall (spSame K d) [] E0 (tCons (tVar 2) (tCons (tVar 3) tNil)) σ2 H4 fun y H5 => ∃ acc, H5 Dl = some (.lst acc) ∧ acc.length < sizeLine ∧ (Ex H0 (upd H5 Dl (.lst (acc ++ [y]))) ∧ (upd H5 Dl (.lst (acc ++ [y]))) Dl = some (.lst ((List.replicate (i + 1) true).map V.bl))) else (Ex H0 H4 ∧ H4 Dl = some (.lst ((List.replicate (i + 1) true).map V.bl))) := by
    intro Dl i x H1 H2 hD hi p y
    obtain ⟨T, u, v, rfl, nT, rfl, hu, hv⟩ := y
    refine ⟨T, [u, v], rfl, st_of upd_same, rfl, u, [v], rfl, v, [], rfl, rfl, rfl, ?_⟩
    show tCall (spSame K d) [] E0 (tCons (tVar 2) (tCons (tVar 3) tNil)) _ _ _
    have e2 : Ex H0 (upd H1 T (.tup [u, v])) := p.1.trans (Ex.new nT)
    refine ⟨u, rfl, v, rfl, u, v, rfl, (h6 i u v hu hv).ex (e.trans e2), fun H5 e5 => ⟨_, e5 _ _ ((Ex.new nT) _ _ p.2), ?_, ?_, ?_⟩⟩
    · rw [List.length_map, List.length_replicate]
      exact sz_lt (by omega)
    · exact Ex.mut (e2.trans e5) hD
    · rw [upd_same, List.replicate_succ', List.map_append]
      rfl
  rcases h3 with ⟨ha, hb⟩ | ⟨ha, hb⟩
  · refine ⟨.ref a, rfl, .ref b, rfl, a, b, xs, ys, rfl, .inl ⟨ex_l e ha, ex_l e hb, fun Dl hD => ?_⟩⟩
    refine lc_it (walk_zip (n := xs.length) (xs := xs) (ys := ys) (by omega)) (fun i H1 => Ex H0 H1 ∧ H1 Dl = some (.lst ((List.replicate i true).map V.bl))) ⟨Ex.new hD, upd_same⟩ (fun i H1 _ p => ⟨ex_l (e.trans p.1) ha, ex_l (e.trans p.1) hb⟩) (fun i x H1 H2 hi p y => turn Dl i x H1 H2 hD hi p y) (fun H1 p => q Dl H1 hD p.1 p.2)
  · refine ⟨.ref a, rfl, .ref b, rfl, a, b, xs, ys, rfl, .inr ⟨ex_t e ha, ex_t e hb, fun Dl hD => ?_⟩⟩
    refine lc_it (walk_zipT (n := xs.length) (xs := xs) (ys := ys) (by omega)) (fun i H1 => Ex H0 H1 ∧ H1 Dl = some (.lst ((List.replicate i true).map V.bl))) ⟨Ex.new hD, upd_same⟩ (fun i H1 _ p => ⟨ex_t (e.trans p.1) ha, ex_t (e.trans p.1) hb⟩) (fun i x H1 H2 hi p y => turn Dl i x H1 H2 hD hi p y) (fun H1 p => q Dl H1 hD p.1 p.2)
theorem ev_allT {n : Nat} {te : TE} (h : EvL te σ H ((List.replicate n true).map V.bl)) : Ev (tCB (rAll K) (tCons te tNil)) σ H (.bl true) := fun H1 e Q q =>
  h H1 e _ fun p H2 hp e2 h2 => ⟨p, List.replicate n true, rfl, sq_of h2, by
    have e3 : (List.replicate n true).all id = true := by
      rw [List.all_eq_true]
      intro x hx
      rw [(List.mem_replicate.mp hx).2]
      rfl
    rw [e3]
    exact q H2 e2⟩
theorem ev_lenA {a : Addr} {xs : List V} {te : TE} (h : Ev te σ H (.ref a)) (h3 : SqL K H a xs ∨ SqT K H a xs) : Ev (tCB (rLenS K) (tCons te tNil)) σ H (.int (xs.length : Int)) := fun H1 e Q q =>
  h H1 e _ fun H2 e2 => ⟨a, xs, rfl, by
    rcases h3 with h3 | h3
    · exact .inl (ex_l (e.trans e2) h3)
    · exact .inr (ex_t (e.trans e2) h3), q H2 e2⟩
end
theorem kit_list {K : PySem.W.Frag} : PySem.W.kitAny K (.type "list") [.type "list", .type "tuple"] = some true := kitAny_cons (b := true) (kit_ty (by decide +kernel)) (fun h => by cases h) (fun _ => rfl)
theorem kit_tuple {K : PySem.W.Frag} : PySem.W.kitAny K (.type "tuple") [.type "list", .type "tuple"] = some true := kitAny_cons (b := false) (kit_ty (by decide +kernel)) (fun _ => kitAny_cons (b := true) (kit_ty (by decide +kernel)) (fun h => by cases h) (fun _ => rfl)) (fun h => by cases h)
theorem kit_int {K : PySem.W.Frag} : PySem.W.kitAny K (.type "int") [.type "list", .type "tuple"] = some false := kitAny_cons (b := false) (kit_ty (by decide +kernel)) (fun _ => kitAny_cons (b := false) (kit_ty (by decide +kernel)) (fun _ => kitAny_nil) (fun h => by cases h)) (fun h => by cases h)
theorem kit_bool {K : PySem.W.Frag} : PySem.W.kitAny K (.type "bool") [.type "list", .type "tuple"] = some false := kitAny_cons (b := false) (kit_ty (by decide +kernel)) (fun _ => kitAny_cons (b := false) (kit_ty (by decide +kernel)) (fun _ => kitAny_nil) (fun h => by cases h)) (fun h => by cases h)
theorem kit_str {K : PySem.W.Frag} : PySem.W.kitAny K (.type "str") [.type "list", .type "tuple"] = some false := kitAny_cons (b := false) (kit_ty (by decide +kernel)) (fun _ => kitAny_cons (b := false) (kit_ty (by decide +kernel)) (fun _ => kitAny_nil) (fun h => by cases h)) (fun h => by cases h)
theorem kit_non {K : PySem.W.Frag} : PySem.W.kitAny K (.type "NoneType") [.type "list", .type "tuple"] = some false := kitAny_cons (b := false) (kit_ty (by decide +kernel)) (fun _ => kitAny_cons (b := false) (kit_ty (by decide +kernel)) (fun _ => kitAny_nil) (fun h => by cases h)) (fun h => by cases h)
end HH
set_option maxHeartbeats 4000000
namespace HH
open PySem PySem.Spec PyProof.Rows L2 Evl RZ
def spDip (K : PySem.W.Frag) : Sp := fun vs H Q _ => ∃ (a : Addr) (k : Nat) (ns : List Int), vs = [.ref a, .int (k : Int)] ∧ SqL K H a (ns.map V.int) ∧ k ≤ 100 ∧ ∀ p H', H p = none → Ex H H' → Bx H' p 0 → Q (.ref p) H'
def spFolded (K : PySem.W.Frag) : Sp := fun vs H Q _ => ∃ (a : Addr) (m : Nat) (ns : List Int), vs = [.ref a, .int (m : Int)] ∧ 0 < m ∧ m ≤ 10 ∧ SqL K H a (ns.map V.int) ∧ ns.length ≤ 63 ∧ ∀ p H' (ms : List Int), H p = none → Ex H H' → ms.length ≤ m → H' p = some (.lst (ms.map V.int)) → Q (.ref p) H'
def Tame (b : Int × Int) : Prop := -(10 ^ 12) < b.1 ∧ b.1 < 10 ^ 12 ∧ 0 ≤ b.2 ∧ b.2 < 10 ^ 12
section
variable {K : PySem.W.Frag} {σ : L2.St} {H H' : Hp} {ta tb te tx : TE} {x y z v : V} {D : Ends} {tz : TS}
theorem el_listN {xs : List V} (ha : EvL ta σ H xs) : EvL (tCB (rListS K) (tCons ta tNil)) σ H xs := fun H1 e Q q =>
  ha H1 e _ fun p H2 hp e2 h2 => ⟨p, xs, rfl, .inl (sq_of h2), fun l hl => q l _ (fresh_back e2 hl) (e2.trans (Ex.new hl)) upd_same⟩
theorem rc_abs {i : Int} : RC (fun xs H Q => ∃ i, xs = [.int i] ∧ Q (.int (if i < 0 then -i else i)) H) [.int i] H (.int (if i < 0 then -i else i)) := fun H1 _ _ q => ⟨i, rfl, q H1 (Ex.refl H1)⟩
theorem rc_intB {b : Bool} : RC (fun xs H Q => (∃ i, xs = [.int i] ∧ Q (.int i) H) ∨ ∃ k, xs = [.bl k] ∧ Q (.int (if k then 1 else 0)) H) [.bl b] H (.int (if b then 1 else 0)) := fun H1 _ _ q => .inr ⟨b, rfl, q H1 (Ex.refl H1)⟩
end
theorem b01 (b : Bool) : -(2 ^ 64) < (if b = true then (1 : Int) else 0) ∧ (if b = true then (1 : Int) else 0) < 2 ^ 64 := by
  cases b <;> decide
theorem b01n (b : Bool) : 0 ≤ (if b = true then (1 : Int) else 0) := by
  cases b <;> decide
theorem cut_ints (ns : List Int) (lo hi : Option Int) : ∃ ms : List Int, cutV (ns.map V.int) lo hi = ms.map V.int ∧ ms.length ≤ ns.length - HT.sIx ns.length 0 lo := by
  refine ⟨(ns.drop (HT.sIx ns.length 0 lo)).take (HT.sIx ns.length ns.length hi - HT.sIx ns.length 0 lo), ?_, ?_⟩
  · unfold cutV
    rw [List.length_map, List.map_take, List.map_drop]
  · rw [List.length_take, List.length_drop]
    omega
section
variable {K : PySem.W.Frag} {σ : L2.St} {H H' : Hp} {D : Ends} {tz tu : TS} {g : TG}
theorem q_forE {xs : List V} {tl : TE} (h : EvL tl σ H xs) (Pv : Addr → Nat → L2.St → Hp → Prop) (h0 : ∀ c H1, H c = none → Ex H H1 → H1 c = some (.lst xs) → Pv c 0 σ H1) (hl : ∀ c i σ' H', i ≤ xs.length → Pv c i σ' H' → SqL K H' c xs)
    (hs : ∀ c i x σ' H' T, xs[i]? = some x → Pv c i σ' H' → H' T = none → g (.ref T) σ' (upd H' T (.tup [.int (i : Nat), x])) fun σ2 H2 => tu { D with nx := Pv c (i + 1), ct := Pv c (i + 1), bk := tz D } σ2 H2) (hd : ∀ c σ' H', Pv c xs.length σ' H' → tz D σ' H') : tSeq (tFor (iEnum K (tCons tl tNil)) g tu) tz D σ H :=
  h H (Ex.refl H) _ fun c H1 hc e h1 => ⟨c, xs, rfl, sq_of h1, for_it (walk_enum (xs := xs)) (D := { D with nx := tz D }) (Pv c) (h0 c H1 hc e h1) (hl c) (fun i x σ' H' H2 hi p y => by
    obtain ⟨T, u, z, rfl, nT, rfl, hu, hz⟩ := y
    cases hu
    exact hs c i z σ' H' T hz p nT) (hd c)⟩
end
theorem fmod_nat (i m : Nat) : ((i : Nat) : Int).fmod ((m : Nat) : Int) = ((i % m : Nat) : Int) := by
  rw [Int.fmod_eq_emod_of_nonneg _ (Int.natCast_nonneg m)]
  rfl
theorem ExB.back {b p : Addr} {H H' : Hp} (e : ExB b H H') (h : H' p = none) (n : p ≠ b) : H p = none := by
  cases z : H p with
  | none => rfl
  | some o =>
    rw [e p o n z] at h
    cases h
end HH
set_option maxHeartbeats 4000000
namespace HH
open PySem PySem.Spec PyProof.Rows L2 Evl RZ
def Nice (k : Nat) (d : PyData) : Prop := d.canLay0 = true ∧ d.depth ≤ k
theorem nice_all {k : Nat} : ∀ {ds : List PyData}, (∀ d ∈ ds, Nice k d) → PyData.canLayAll0 ds = true ∧ PyData.depthAll ds ≤ k
  | [], _ => ⟨by simp [PyData.canLayAll0], by simp [PyData.depthAll]⟩
  | d :: ds, h => by
    have h1 := h d (List.mem_cons_self ..)
    have h2 := nice_all (fun e he => h e (List.mem_cons_of_mem _ he))
    refine ⟨by simp [PyData.canLayAll0, h1.1, h2.1], ?_⟩
    have e : PyData.depthAll (d :: ds) = max d.depth (PyData.depthAll ds) := by simp [PyData.depthAll]
    rw [e]
    have := h1.2
    have := h2.2
    omega
theorem nice_int (k : Nat) (i : Int) : Nice k (.int i) := ⟨by simp [PyData.canLay0], by simp [PyData.depth]⟩
theorem nice_list {k : Nat} {ds : List PyData} (h : ∀ d ∈ ds, Nice k d) : Nice (k + 1) (.list ds) := ⟨by simp [PyData.canLay0, (nice_all h).1], by
  have := (nice_all h).2
  simp [PyData.depth]
  omega⟩
theorem nice_tuple {k : Nat} {ds : List PyData} (h : ∀ d ∈ ds, Nice k d) : Nice (k + 1) (.tuple ds) := ⟨by simp [PyData.canLay0, (nice_all h).1], by
  have := (nice_all h).2
  simp [PyData.depth]
  omega⟩
theorem Nice.shaped {k : Nat} {d : PyData} (h : Nice k d) (hk : k ≤ 64) : SeqAt.shaped d = true := by
  unfold SeqAt.shaped
  rw [h.1, decide_eq_true (Nat.le_trans h.2 hk)]
  rfl
theorem dp_ints {K : PySem.W.Frag} {H : Hp} : ∀ ns : List Int, DpAll K H (ns.map V.int) (ns.map PyData.int)
  | [] => .nil
  | n :: ns => .cons (.int n) (dp_ints ns)
theorem nice_ints (ns : List Int) : ∀ d ∈ ns.map PyData.int, Nice 0 d := fun d hd => by
  obtain ⟨i, _, rfl⟩ := List.mem_map.mp hd
  exact nice_int 0 i
mutual
theorem dp_ex {K : PySem.W.Frag} {H H' : Hp} (e : Ex H H') : ∀ {v : V} {d : PyData}, Dp K H v d → Dp K H' v d
  | _, _, .non => .non
  | _, _, .bl b => .bl b
  | _, _, .int i => .int i
  | _, _, .str x => .str x
  | _, _, .lst h g => .lst (ex_l e h) (dps_ex e g)
  | _, _, .tup h g => .tup (ex_t e h) (dps_ex e g)
theorem dps_ex {K : PySem.W.Frag} {H H' : Hp} (e : Ex H H') : ∀ {v : List V} {d : List PyData}, DpAll K H v d → DpAll K H' v d
  | _, _, .nil => .nil
  | _, _, .cons h g => .cons (dp_ex e h) (dps_ex e g)
end
theorem dps_len {K : PySem.W.Frag} {H : Hp} : ∀ {v : List V} {d : List PyData}, DpAll K H v d → v.length = d.length
  | _, _, .nil => rfl
  | _, _, .cons h g => by
    rw [List.length_cons, List.length_cons, dps_len g]
section
variable {K : PySem.W.Frag} {σ : L2.St} {H H' : Hp} {te : TE}
theorem et_neNil {k : Nat} {a : Addr} {xs : List V} {ds : List PyData} (h : Ev te σ H (.ref a)) (ha : SqL K H a xs) (hd : DpAll K H xs ds) (hn : ∀ d ∈ ds, Nice k d) (hk : k < 64) : EvT (tTest (tOp (rNeD K) te (tLst tNil))) σ H (!xs.isEmpty) := fun H1 e Q q =>
  h H1 e _ fun H2 e2 => ⟨by show 0 ≤ sizeLine; decide, fun p hp => by
    have e3 := (e.trans e2).trans (Ex.new (o := .lst []) hp)
    refine ⟨.list ds, .list [], .lst (ex_l e3 ha) (dps_ex e3 hd), .lst (sq_of upd_same) .nil, (nice_list hn).shaped (by omega), (nice_list (k := 0) (fun d h => by cases h)).shaped (by omega), _, rfl, ?_⟩
    have e4 : PyData.eqv (.list ds) (.list []) = xs.isEmpty := by
      have hl := dps_len hd
      cases ds with
      | nil =>
        have : xs = [] := List.length_eq_zero_iff.mp hl
        subst this
        simp [PyData.eqv, PyData.eqvAll]
      | cons d ds =>
        cases xs with
        | nil => cases hl
        | cons x xs => simp [PyData.eqv, PyData.eqvAll]
    rw [e4]
    exact q _ (e2.trans (Ex.new hp))⟩
end
def tsum : Row → Int
  | [] => 0
  | b :: r => b.2 + tsum r
end HH
set_option maxHeartbeats 4000000
namespace HH
abbrev Cow := Nat × (Int × Int)
def Chk (id : Nat) : Int → List Cow → Prop
  | _, [] => True
  | c, y :: r => (y.1 < id → y.2.1 < c) ∧ Chk id (if y.1 < id then c + y.2.2 else c) r
def PInv : List Cow → Prop
  | [] => True
  | x :: r => Chk x.1 (x.2.1 + x.2.2) r ∧ PInv r
def FChk (id : Nat) : Int → List Cow → Prop
  | _, [] => True
  | c, y :: r => (y.1 < id → c < y.2.1) ∧ FChk id (if id < y.1 then c + y.2.2 else c) r
def FInv : List Cow → Prop
  | [] => True
  | x :: r => FChk x.1 x.2.1 r ∧ FInv r
def tag : Nat → Row → List Cow
  | _, [] => []
  | k, b :: r => (k, b) :: tag (k + 1) r
theorem tag_snd : ∀ (k : Nat) (rs : Row), (tag k rs).map (·.2) = rs
  | _, [] => rfl
  | k, b :: r => by
    show b :: (tag (k + 1) r).map (·.2) = b :: r
    rw [tag_snd]
theorem tag_fst : ∀ (k : Nat) (rs : Row), (tag k rs).map (·.1) = (List.range rs.length).map (k + ·)
  | _, [] => rfl
  | k, b :: r => by
    show k :: (tag (k + 1) r).map (·.1) = (List.range (r.length + 1)).map (k + ·)
    rw [tag_fst, List.range_succ_eq_map, List.map_cons, List.map_map]
    have e : (List.range r.length).map (fun x => k + 1 + x) = (List.range r.length).map ((fun x => k + x) ∘ Nat.succ) := List.map_congr_left fun i _ => by
      show k + 1 + i = k + (i + 1)
      omega
    rw [e]
    rfl
theorem tag_len (k : Nat) (rs : Row) : (tag k rs).length = rs.length := by
  have := congrArg List.length (tag_snd k rs)
  rw [List.length_map] at this
  exact this
theorem chk_tag : ∀ (id k : Nat) (c : Int) (rs : Row), id ≤ k → Chk id c (tag k rs)
  | _, _, _, [], _ => True.intro
  | id, k, c, b :: r, h => by
    refine ⟨fun h1 => ?_, ?_⟩
    · have h2 : k < id := h1
      omega
    · rw [if_neg (show ¬ k < id by omega)]
      exact chk_tag id (k + 1) c r (by omega)
theorem fchk_tag : ∀ (id k : Nat) (c : Int) (rs : Row), id ≤ k → FChk id c (tag k rs)
  | _, _, _, [], _ => True.intro
  | id, k, c, b :: r, h => by
    refine ⟨fun h1 => ?_, fchk_tag id (k + 1) _ r (by omega)⟩
    have h2 : k < id := h1
    omega
theorem pinv_tag : ∀ (k : Nat) (rs : Row), PInv (tag k rs)
  | _, [] => True.intro
  | k, b :: r => ⟨chk_tag k (k + 1) _ r (by omega), pinv_tag (k + 1) r⟩
theorem finv_tag : ∀ (k : Nat) (rs : Row), FInv (tag k rs)
  | _, [] => True.intro
  | k, b :: r => ⟨fchk_tag k (k + 1) _ r (by omega), finv_tag (k + 1) r⟩
theorem pinv_tail : ∀ {pre post : List Cow}, PInv (pre ++ post) → PInv post
  | [], _, h => h
  | _ :: pre, _, h => pinv_tail (pre := pre) h.2
theorem finv_tail : ∀ {pre post : List Cow}, FInv (pre ++ post) → FInv post
  | [], _, h => h
  | _ :: pre, _, h => finv_tail (pre := pre) h.2
theorem pinv_lt {pre post : List Cow} {a b : Cow} (h : PInv (pre ++ a :: b :: post)) (hp : b.2.1 - a.2.2 > a.2.1) (hne : a.1 ≠ b.1) : a.1 < b.1 := by
  have h1 := (pinv_tail h).1.1
  rcases Nat.lt_or_ge a.1 b.1 with h2 | h2
  · exact h2
  · have := h1 (by omega)
    omega
theorem finv_lt {pre post : List Cow} {a b : Cow} (h : FInv (pre ++ a :: b :: post)) (hp : a.2.1 > b.2.1) (hne : a.1 ≠ b.1) : a.1 < b.1 := by
  have h1 := (finv_tail h).1.1
  rcases Nat.lt_or_ge a.1 b.1 with h2 | h2
  · exact h2
  · have := h1 (by omega)
    omega
theorem chk_pass {id : Nat} {a b : Cow} {post : List Cow} (hab : a.1 < b.1) (ht : 0 ≤ b.2.2) (hp : b.2.1 - a.2.2 > a.2.1) : ∀ {pre : List Cow} {c : Int}, Chk id c (pre ++ a :: b :: post) → Chk id c (pre ++ (b.1, (b.2.1 - a.2.2, b.2.2)) :: a :: post)
  | [], c, h => by
    obtain ⟨h1, h2, h3⟩ := h
    show (b.1 < id → b.2.1 - a.2.2 < c) ∧ (a.1 < id → a.2.1 < if b.1 < id then c + b.2.2 else c) ∧ Chk id _ post
    by_cases hb : b.1 < id
    · have ha : a.1 < id := by omega
      rw [if_pos ha] at h2 h3
      rw [if_pos hb] at h3 ⊢
      have g1 := h1 ha
      have g2 := h2 hb
      refine ⟨fun _ => by omega, fun _ => by omega, ?_⟩
      rw [if_pos ha]
      have e : c + b.2.2 + a.2.2 = c + a.2.2 + b.2.2 := by omega
      show Chk id (c + b.2.2 + a.2.2) post
      rw [e]
      exact h3
    · rw [if_neg hb] at h3 ⊢
      refine ⟨fun z => absurd z hb, h1, ?_⟩
      exact h3
  | x :: pre, c, h => ⟨h.1, chk_pass hab ht hp (pre := pre) h.2⟩
theorem fchk_fall {id : Nat} {a b : Cow} {post : List Cow} (hab : a.1 < b.1) (ht : 0 ≤ b.2.2) (hp : a.2.1 > b.2.1) : ∀ {pre : List Cow} {c : Int}, FChk id c (pre ++ a :: b :: post) → FChk id c (pre ++ b :: (a.1, (a.2.1 + b.2.2, a.2.2)) :: post)
  | [], c, h => by
    obtain ⟨h1, h2, h3⟩ := h
    show (b.1 < id → c < b.2.1) ∧ (a.1 < id → (if id < b.1 then c + b.2.2 else c) < a.2.1 + b.2.2) ∧ FChk id (if id < a.1 then (if id < b.1 then c + b.2.2 else c) + a.2.2 else (if id < b.1 then c + b.2.2 else c)) post
    by_cases ha : id < a.1
    · have hb : id < b.1 := by omega
      rw [if_pos ha] at h2 h3
      rw [if_pos hb] at h3
      rw [if_pos ha, if_pos hb]
      refine ⟨fun z => by omega, fun z => by omega, ?_⟩
      have e : c + b.2.2 + a.2.2 = c + a.2.2 + b.2.2 := by omega
      rw [e]
      exact h3
    · rw [if_neg ha] at h2 h3
      rw [if_neg ha]
      by_cases hb : id < b.1
      · rw [if_pos hb] at h3
        rw [if_pos hb]
        refine ⟨fun z => by omega, fun z => ?_, h3⟩
        have := h1 z
        omega
      · rw [if_neg hb] at h3
        rw [if_neg hb]
        refine ⟨h2, fun z => ?_, h3⟩
        have := h1 z
        omega
  | x :: pre, c, h => ⟨h.1, fchk_fall hab ht hp (pre := pre) h.2⟩
theorem pinv_pass {a b : Cow} {post : List Cow} (hab : a.1 < b.1) (ht : 0 ≤ b.2.2) (hp : b.2.1 - a.2.2 > a.2.1) : ∀ {pre : List Cow}, PInv (pre ++ a :: b :: post) → PInv (pre ++ (b.1, (b.2.1 - a.2.2, b.2.2)) :: a :: post)
  | [], h => by
    obtain ⟨⟨_, h1⟩, h2, h3⟩ := h
    rw [if_neg (show ¬ b.1 < a.1 by omega)] at h1
    refine ⟨⟨fun _ => ?_, ?_⟩, h1, h3⟩
    · show a.2.1 < b.2.1 - a.2.2 + b.2.2
      omega
    · show Chk b.1 (if a.1 < b.1 then b.2.1 - a.2.2 + b.2.2 + a.2.2 else _) post
      rw [if_pos hab]
      have e : b.2.1 - a.2.2 + b.2.2 + a.2.2 = b.2.1 + b.2.2 := by omega
      rw [e]
      exact h2
  | x :: pre, h => ⟨chk_pass hab ht hp h.1, pinv_pass hab ht hp (pre := pre) h.2⟩
theorem finv_fall {a b : Cow} {post : List Cow} (hab : a.1 < b.1) (ht : 0 ≤ b.2.2) (hp : a.2.1 > b.2.1) : ∀ {pre : List Cow}, FInv (pre ++ a :: b :: post) → FInv (pre ++ b :: (a.1, (a.2.1 + b.2.2, a.2.2)) :: post)
  | [], h => by
    obtain ⟨⟨_, h1⟩, h2, h3⟩ := h
    rw [if_pos hab] at h1
    refine ⟨⟨fun _ => ?_, ?_⟩, h1, h3⟩
    · show b.2.1 < a.2.1 + b.2.2
      omega
    · show FChk b.1 (if b.1 < a.1 then b.2.1 + a.2.2 else b.2.1) post
      rw [if_neg (by omega)]
      exact h2
  | x :: pre, h => ⟨fchk_fall hab ht hp h.1, finv_fall hab ht hp (pre := pre) h.2⟩
def cnt (a : Nat) : List Nat → Nat
  | [] => 0
  | y :: r => (if a < y then 1 else 0) + cnt a r
def asc : List Nat → Nat
  | [] => 0
  | a :: r => cnt a r + asc r
theorem cnt_swap {x a b : Nat} {post : List Nat} : ∀ pre : List Nat, cnt x (pre ++ a :: b :: post) = cnt x (pre ++ b :: a :: post)
  | [] => by
    show (if x < a then 1 else 0) + ((if x < b then 1 else 0) + cnt x post) = (if x < b then 1 else 0) + ((if x < a then 1 else 0) + cnt x post)
    omega
  | y :: pre => by
    show (if x < y then 1 else 0) + cnt x (pre ++ a :: b :: post) = (if x < y then 1 else 0) + cnt x (pre ++ b :: a :: post)
    rw [cnt_swap pre]
theorem asc_swap {a b : Nat} {post : List Nat} (h : a < b) : ∀ pre : List Nat, asc (pre ++ a :: b :: post) = asc (pre ++ b :: a :: post) + 1
  | [] => by
    show ((if a < b then 1 else 0) + cnt a post) + (cnt b post + asc post) = ((if b < a then 1 else 0) + cnt b post) + (cnt a post + asc post) + 1
    rw [if_pos h, if_neg (by omega)]
    omega
  | x :: pre => by
    show cnt x (pre ++ a :: b :: post) + asc (pre ++ a :: b :: post) = cnt x (pre ++ b :: a :: post) + asc (pre ++ b :: a :: post) + 1
    rw [cnt_swap pre, asc_swap h pre]
    omega
theorem cnt_le (a : Nat) : ∀ l : List Nat, cnt a l ≤ l.length
  | [] => Nat.le_refl _
  | y :: r => by
    show (if a < y then 1 else 0) + cnt a r ≤ r.length + 1
    have := cnt_le a r
    split <;> omega
theorem asc_le : ∀ l : List Nat, asc l ≤ l.length * l.length
  | [] => Nat.le_refl _
  | a :: r => by
    show cnt a r + asc r ≤ (r.length + 1) * (r.length + 1)
    have h1 := cnt_le a r
    have h2 := asc_le r
    have e : (r.length + 1) * (r.length + 1) = r.length * r.length + 2 * r.length + 1 := by
      rw [Nat.add_mul, Nat.mul_add]
      omega
    omega
inductive PRun (L0 : List Cow) : List Cow → List (Int × Int) → Prop
  | nil : PRun L0 L0 []
  | step {pre post : List Cow} {a b : Cow} {ps : List (Int × Int)} : PRun L0 (pre ++ a :: b :: post) ps → b.2.1 - a.2.2 > a.2.1 → PRun L0 (pre ++ (b.1, (b.2.1 - a.2.2, b.2.2)) :: a :: post) (ps ++ [((a.1 : Int), (b.1 : Int))])
inductive FRun (L0 : List Cow) : List Cow → List (Int × Int) → Prop
  | nil : FRun L0 L0 []
  | step {pre post : List Cow} {a b : Cow} {ps : List (Int × Int)} : FRun L0 (pre ++ a :: b :: post) ps → a.2.1 > b.2.1 → FRun L0 (pre ++ b :: (a.1, (a.2.1 + b.2.2, a.2.2)) :: post) (ps ++ [((a.1 : Int), (b.1 : Int))])
structure Facts (n : Nat) (L : List Cow) (ps : List (Int × Int)) : Prop where
  len : L.length = n
  tl : ∀ x ∈ L, 0 ≤ x.2.2
  nd : (L.map (·.1)).Nodup
  few : ps.length + asc (L.map (·.1)) ≤ n * n
theorem nd_ne {pre post : List Cow} {a b : Cow} (h : ((pre ++ a :: b :: post).map (·.1)).Nodup) : a.1 ≠ b.1 := by
  rw [List.map_append] at h
  have h1 := (List.nodup_append.mp h).2.1
  intro e
  have h2 := (List.nodup_cons.mp h1).1
  apply h2
  show a.1 ∈ b.1 :: post.map (·.1)
  rw [e]
  exact List.mem_cons_self ..
theorem nd_swap {pre post : List Cow} {a b : Cow} {u v : Int × Int} (h : ((pre ++ a :: b :: post).map (·.1)).Nodup) : ((pre ++ (b.1, u) :: (a.1, v) :: post).map (·.1)).Nodup := by
  rw [List.map_append] at h ⊢
  refine (List.Perm.nodup_iff ?_).mp h
  exact List.Perm.append_left _ (List.Perm.swap ..)
theorem asc_step {pre post : List Cow} {a b : Cow} {u v : Int × Int} (h : a.1 < b.1) : asc ((pre ++ a :: b :: post).map (·.1)) = asc ((pre ++ (b.1, u) :: (a.1, v) :: post).map (·.1)) + 1 := by
  rw [List.map_append, List.map_append]
  exact asc_swap h (pre.map (·.1))
theorem facts_tag {rs : Row} (h : ∀ b ∈ rs, 0 ≤ b.2) : Facts rs.length (tag 0 rs) [] := by
  refine ⟨tag_len 0 rs, fun x hx => ?_, ?_, ?_⟩
  · apply h
    rw [← tag_snd 0 rs]
    exact List.mem_map_of_mem (f := (·.2)) hx
  · rw [tag_fst]
    have e : (fun x => 0 + x) = (id : Nat → Nat) := by
      funext x
      exact Nat.zero_add x
    rw [e, List.map_id]
    exact List.nodup_range
  · have := asc_le ((tag 0 rs).map (·.1))
    rw [List.length_map, tag_len] at this
    show 0 + asc _ ≤ _
    omega
theorem facts_pass {n : Nat} {pre post : List Cow} {a b : Cow} {ps : List (Int × Int)} {q : Int × Int} (f : Facts n (pre ++ a :: b :: post) ps) (i : PInv (pre ++ a :: b :: post)) (hp : b.2.1 - a.2.2 > a.2.1) :
    Facts n (pre ++ (b.1, (b.2.1 - a.2.2, b.2.2)) :: a :: post) (ps ++ [q]) ∧ PInv (pre ++ (b.1, (b.2.1 - a.2.2, b.2.2)) :: a :: post) ∧ asc ((pre ++ (b.1, (b.2.1 - a.2.2, b.2.2)) :: a :: post).map (·.1)) < asc ((pre ++ a :: b :: post).map (·.1)) := by
  have hab := pinv_lt i hp (nd_ne f.nd)
  have hs := asc_step (pre := pre) (post := post) (a := a) (b := b) (u := (b.2.1 - a.2.2, b.2.2)) (v := a.2) hab
  have hb := f.tl b (by simp)
  have ha := f.tl a (by simp)
  refine ⟨⟨?_, fun x hx => ?_, nd_swap (v := a.2) f.nd, ?_⟩, pinv_pass hab hb hp i, ?_⟩
  · rw [← f.len, List.length_append, List.length_append]
    rfl
  · rcases List.mem_append.mp hx with h | h
    · exact f.tl x (List.mem_append_left _ h)
    · rcases List.mem_cons.mp h with rfl | h
      · exact hb
      · rcases List.mem_cons.mp h with rfl | h
        · exact ha
        · exact f.tl x (by simp [h])
  · have := f.few
    rw [List.length_append]
    show ps.length + 1 + asc ((pre ++ (b.1, (b.2.1 - a.2.2, b.2.2)) :: (a.1, a.2) :: post).map (·.1)) ≤ n * n
    omega
  · show asc ((pre ++ (b.1, (b.2.1 - a.2.2, b.2.2)) :: (a.1, a.2) :: post).map (·.1)) < _
    omega
theorem facts_fall {n : Nat} {pre post : List Cow} {a b : Cow} {ps : List (Int × Int)} {q : Int × Int} (f : Facts n (pre ++ a :: b :: post) ps) (i : FInv (pre ++ a :: b :: post)) (hp : a.2.1 > b.2.1) :
    Facts n (pre ++ b :: (a.1, (a.2.1 + b.2.2, a.2.2)) :: post) (ps ++ [q]) ∧ FInv (pre ++ b :: (a.1, (a.2.1 + b.2.2, a.2.2)) :: post) ∧ asc ((pre ++ b :: (a.1, (a.2.1 + b.2.2, a.2.2)) :: post).map (·.1)) < asc ((pre ++ a :: b :: post).map (·.1)) := by
  have hab := finv_lt i hp (nd_ne f.nd)
  have hs := asc_step (pre := pre) (post := post) (a := a) (b := b) (u := b.2) (v := (a.2.1 + b.2.2, a.2.2)) hab
  have hb := f.tl b (by simp)
  have ha := f.tl a (by simp)
  refine ⟨⟨?_, fun x hx => ?_, nd_swap (u := b.2) f.nd, ?_⟩, finv_fall hab hb hp i, ?_⟩
  · rw [← f.len, List.length_append, List.length_append]
    rfl
  · rcases List.mem_append.mp hx with h | h
    · exact f.tl x (List.mem_append_left _ h)
    · rcases List.mem_cons.mp h with rfl | h
      · exact hb
      · rcases List.mem_cons.mp h with rfl | h
        · exact ha
        · exact f.tl x (by simp [h])
  · have := f.few
    rw [List.length_append]
    show ps.length + 1 + asc ((pre ++ (b.1, b.2) :: (a.1, (a.2.1 + b.2.2, a.2.2)) :: post).map (·.1)) ≤ n * n
    omega
  · show asc ((pre ++ (b.1, b.2) :: (a.1, (a.2.1 + b.2.2, a.2.2)) :: post).map (·.1)) < _
    omega
end HH
set_option maxHeartbeats 4000000
namespace HH
open PySem PySem.Spec PyProof.Rows L2 Evl RZ
def rowsOf (L : List Cow) : HH.Row := L.map (·.2)
def ordL (L : List Cow) : List V := L.map fun x => V.int (x.1 : Int)
theorem RowAt.exL {K : PySem.W.Frag} {H H' : Hp} {v : V} {rs : HH.Row} {q : Addr} {ys : List V} (h : RowAt K H v rs) (e : ExB q H H') (hy : H q = some (.lst ys)) : RowAt K H' v rs := by
  obtain ⟨a, vs, h1, h2, h3⟩ := h
  exact ⟨a, vs, h1, e.t hy h2, h3.exB e hy⟩
section
variable {K : PySem.W.Frag} {σ : L2.St} {H H' : Hp} {te to ta tc : TE} {D : Ends} {tz : TS}
end
structure EndAt (K : PySem.W.Frag) (H H' : Hp) (p : Addr) (q : Addr) (v' : V) (ot lp : Addr) (pvs : List V) (L : List Cow) (ps : List (Int × Int)) (n : Nat) : Prop where
  ex : ExB p H H'
  bx : Bx H' p (n + 1000)
  q : H' q = some (.tup [v', .ref ot, .ref lp])
  row : RowAt K H' v' (rowsOf L)
  ord : H' ot = some (.tup (ordL L))
  lst : H' lp = some (.lst pvs)
  prs : Beasts K H' pvs ps
end HH
set_option maxHeartbeats 4000000
namespace HH
open PySem PySem.Spec PyProof.Rows L2 Evl RZ
inductive All2 {α : Type} (R : V → α → Prop) : List V → List α → Prop
  | nil : All2 R [] []
  | cons {v : V} {x : α} {vs : List V} {xs : List α} : R v x → All2 R vs xs → All2 R (v :: vs) (x :: xs)
theorem All2.mono {α : Type} {R S : V → α → Prop} (h : ∀ v x, R v x → S v x) : ∀ {vs : List V} {xs : List α}, All2 R vs xs → All2 S vs xs
  | _, _, .nil => .nil
  | _, _, .cons a b => .cons (h _ _ a) (All2.mono h b)
theorem All2.app {α : Type} {R : V → α → Prop} : ∀ {vs : List V} {xs : List α} {us : List V} {ys : List α}, All2 R vs xs → All2 R us ys → All2 R (vs ++ us) (xs ++ ys)
  | _, _, _, _, .nil, h => h
  | _, _, _, _, .cons a b, h => .cons a (All2.app b h)
theorem All2.len {α : Type} {R : V → α → Prop} : ∀ {vs : List V} {xs : List α}, All2 R vs xs → vs.length = xs.length
  | _, _, .nil => rfl
  | _, _, .cons a b => by rw [List.length_cons, List.length_cons, All2.len b]
theorem All2.get {α : Type} {R : V → α → Prop} : ∀ {vs : List V} {xs : List α} {i : Nat} {v : V}, All2 R vs xs → vs[i]? = some v → ∃ x, xs[i]? = some x ∧ R v x
  | _, _, _, _, .nil, h => by simp at h
  | _, _, 0, _, .cons a b, h => by
    cases h
    exact ⟨_, rfl, a⟩
  | _, _, i + 1, _, .cons a b, h => All2.get (i := i) b h
abbrev Deed := Bool × Nat
def wordOf (b : Bool) : Str := if b then "pass" else "fall"
def DeedAt (K : PySem.W.Frag) (H : Hp) (v : V) (d : Deed) : Prop := ∃ p, v = .ref p ∧ SqT K H p [.str (wordOf d.1), .int (d.2 : Int)]
section
variable {K : PySem.W.Frag} {σ : L2.St} {H H' : Hp} {t : TT}
end
inductive MRun (L0 : List Cow) : List Cow → List Deed → Prop
  | nil : MRun L0 L0 []
  | pass {pre post : List Cow} {a b : Cow} {ds : List Deed} : MRun L0 (pre ++ a :: b :: post) ds → b.2.1 - a.2.2 > a.2.1 → MRun L0 (pre ++ (b.1, (b.2.1 - a.2.2, b.2.2)) :: a :: post) (ds ++ [(true, pre.length + 1)])
  | fall {pre post : List Cow} {a b : Cow} {ds : List Deed} : MRun L0 (pre ++ a :: b :: post) ds → a.2.1 > b.2.1 → MRun L0 (pre ++ b :: (a.1, (a.2.1 + b.2.2, a.2.2)) :: post) (ds ++ [(false, pre.length)])
structure WanAt (K : PySem.W.Frag) (H H' : Hp) (p : Addr) (q : Addr) (v' : V) (ot lp : Addr) (us : List V) (L : List Cow) (ds : List Deed) (n m : Nat) : Prop where
  ex : ExB p H H'
  bx : Bx H' p (n + m)
  q : H' q = some (.tup [v', .ref ot, .ref lp])
  row : RowAt K H' v' (rowsOf L)
  ord : H' ot = some (.tup (ordL L))
  lst : H' lp = some (.lst us)
  prs : All2 (DeedAt K H') us ds
end HH
set_option maxHeartbeats 4000000
namespace HH
open PySem PySem.Spec PyProof.Rows L2 Evl RZ
section
variable {X : Cx}
end
section
variable {K : PySem.W.Frag} {σ : L2.St} {H H' : Hp} {te : TE} {D : Ends} {tz tu : TS} {g : TG}
theorem et_yes : EvT tYes σ H true := fun H1 _ _ q => q H1 (Ex.refl H1)
theorem ev_any {bs : List Bool} (h : EvL te σ H (bs.map V.bl)) : Ev (tCB (rAny K) (tCons te tNil)) σ H (.bl (bs.any id)) := fun H1 e Q q =>
  h H1 e _ fun p H2 hp e2 h2 => ⟨p, bs, rfl, sq_of h2, q H2 e2⟩
theorem given_all (n : Nat) (f : Nat → Bool) : given n (fun _ => true) (fun i => V.bl (f i)) = ((List.range n).map f).map V.bl := by
  unfold given
  rw [List.filter_eq_self.mpr (fun _ _ => rfl), List.map_map]
  rfl
end
def spRight : Sp := fun vs H Q _ => ∃ (p : Addr), vs = [.ref p] ∧ Bx H p 0 ∧ ∀ H', ExB p H H' → Q (.bl true) H'
def spLaw (K : PySem.W.Frag) : Sp := fun vs H Q _ => ∃ (a : Addr) (ns : List Int), vs = [.ref a] ∧ SqL K H a (ns.map V.int) ∧ ns.length ≤ 63 ∧ ∀ H', Q (.bl true) H'
section
variable {K : PySem.W.Frag} {σ : L2.St} {H H' : Hp} {te t1 t2 : TE}
end
theorem q_call {sp : Sp} {dvs : List V} {E : XK} {ta : TA} {i : Nat} {D : Ends} {tz : TS} {σ : L2.St} {H : Hp} (h : ta σ H fun vs H1 => sp (vs ++ dvs) H1 (fun x H2 => tz D (σ.set i (some x)) H2) E) : tSeq (tAsg (tCall sp dvs E ta) (gName i)) tz D σ H := h
end HH
set_option maxHeartbeats 4000000
namespace HH
open PySem PySem.Spec PyProof.Rows L2 Evl RZ
inductive Bk where
  | val
  | run
  | look
  | over
namespace Bk
def nm : Bk → String
  | val => "ValueError"
  | run => "RuntimeError"
  | look => "LookupError"
  | over => "OverflowError"
def st : Bk → Str
  | val => "ValueError"
  | run => "RuntimeError"
  | look => "LookupError"
  | over => "OverflowError"
def nw : Bk → String
  | val => "ValueError.__new__"
  | run => "RuntimeError.__new__"
  | look => "LookupError.__new__"
  | over => "OverflowError.__new__"
def ini : Bk → String
  | val => "ValueError.__init__"
  | run => "RuntimeError.__init__"
  | look => "LookupError.__init__"
  | over => "OverflowError.__init__"
def mro : Bk → List Value
  | val => [.type "ValueError", .type "Exception", .type "BaseException", .type "object"]
  | run => [.type "RuntimeError", .type "Exception", .type "BaseException", .type "object"]
  | look => [.type "LookupError", .type "Exception", .type "BaseException", .type "object"]
  | over => [.type "OverflowError", .type "ArithmeticError", .type "Exception", .type "BaseException", .type "object"]
theorem base : (b : Bk) → ExcBaseFacts b.nm b.nw b.ini b.mro
  | val => F.excBase_ValueError
  | run => F.excBase_RuntimeError
  | look => F.excBase_LookupError
  | over => F.excBase_OverflowError
end Bk
structure ExcTy (K : PySem.W.Frag) (b : Bk) (f : Str) (C fI : Addr) : Prop where
  ok : PySem.W.excInitIn K C b.mro b.nw = true
  ov : PySem.W.excOver K C b.mro = true
  tk : PySem.W.takerIn K C f = some none
  hd : PySem.W.hasDictIn K C = true
  sa : PySem.W.findIn K (.ref C) "__setattr__" = some (some (.builtin "object.__setattr__"))
  ga : PySem.W.findIn K (.ref C) "__getattribute__" = some (some (.builtin "BaseException.__getattribute__"))
  gg : PySem.W.findIn K (.ref C) "__getattr__" = some none
  no : PySem.W.findIn K (.ref C) f = some none
  iC : PySem.W.findIn K (.ref C) "__init__" = some (some (.ref fI))
  ca : PySem.W.findIn K (.ref C) "__class__" = some (some (.builtin "object.__class__"))
  gs : PySem.W.specialIn K (.builtin "object.__class__") "__get__" = some (some (.builtin "getset_descriptor.__get__"))
  tI : PySem.W.typeIn K (.ref fI) = some (.type "function")
  kC : PySem.W.keepIn K (.ref C) = true
  ex : PySem.W.subIn K (.ref C) (.type "BaseException") = some true
  ty : PySem.W.typeIn K (.ref C) = some (.type "type")
  ts : PySem.W.takesIn K (.builtin "object.__class__") = some true
  mo : PySem.W.mroIn K C (.type "object") = some true
  bi : PySem.W.findCls K (.type b.nm) (.type "type") "__init__" = some (.val (.builtin b.ini))
section
variable {X : Cx} {pins : List (Addr × Obj)} {σ : L2.St} {H : Hp} {s : Shared} {a C fI : Addr} {f : Str} {b : Bk} {y : V} {u : Value} {A : Around} {E : Value → Shared → Prop}
end
def spIni (C : Addr) (f : Str) : Sp := fun vs H Q _ => ∃ (a : Addr) (v : V), vs = [.ref a, v] ∧ H a = some (exo a C none) ∧ ∀ dx, H dx = none → dx ≠ a → Q .non (upd (upd H dx (exd dx [(f, v)])) a (exo a C (some dx)))
section
variable {X : Cx} {C fI : Addr} {f : Str} {b : Bk}
end
end HH
set_option maxHeartbeats 4000000
namespace HH
open PySem PySem.Spec PyProof.Rows L2 Evl RZ
section
variable {X : Cx} {pins : List (Addr × Obj)} {σ : L2.St} {H : Hp} {s : Shared} {a : Addr} {oe : Obj} {cls : Value} {d : Option Addr} {vs : Array Value}
end
section
variable {X : Cx} {x1 x2 x3 x4 : Str} {c1 c2 c3 c4 : Value} {p1 p2 p3 p4 tp : Pos} {kk : Nat}
end
section
variable {X : Cx} {t : Expr} {n : Str} {i : Nat} {m : Value → Prop} {body suite : List Stmt} {b0 : Stmt} {pos pos' : Pos} {tb : WX → TS} {ts : Addr → Value → Option Addr → TS}
end
section
variable {X : Cx} {C fI : Addr} {f : Str} {b : Bk}
end
end HH
set_option maxHeartbeats 4000000
namespace HH
open PySem PySem.Spec PyProof.Rows L2 Evl RZ
structure FnG (P : Program) (w : World) (K : PySem.W.Frag) (mg : Str → Option Value) (base : Heap) (k : Nat) (f : Addr) (fd : FuncData) (ps : List Str) (sp : Sp) : Prop where
  len : ∀ vs H Q E, sp vs H Q E → vs.length = ps.length
  run : ∀ (A : Around) (outer : List Env) (s : Shared) (H : Hp) (args : Args) (us : List Value) (vs : List V) (Q : VK) (E : XK), A.guards = some [] → Room k A → Env0 P w K mg base A outer s H → BindsTo s fd args (ps.zip us) → Vals vs us → sp vs H Q E →
    codeAny (model P w) A (.call (.ref f) args) (CR CX0 outer P w H s Q E) s
theorem FnG.of {P : Program} {w : World} {K : PySem.W.Frag} {mg : Str → Option Value} {base : Heap} {k : Nat} {f : Addr} {x qual : Str} {params : Arguments} {body : List Stmt} {scope : Scope} {kws : List (Str × V)} {fd : FuncData} {N ps : List Str} {sp : Sp}
    (F : FunD K x qual params body scope [] kws f fd) (S : FnScope N ps scope) (len : ∀ vs H Q E, sp vs H Q E → vs.length = ps.length)
    (hbody : ∀ (cdv : Value) (A : Around) (outer : List Env) (s : Shared) (H : Hp) (vs : List V) (Q : VK) (E : XK), (A.deeper (envOfC qual scope s.heap.objs.size f cdv)).guards = some [] → Room k (A.deeper (envOfC qual scope s.heap.objs.size f cdv)) → sp vs H Q E →
      ∃ t, PSs (cxOf CX0 P w K mg base N qual scope f cdv A outer s H E) body t ∧ t { nx := fun _ H' => Q .non H', rt := Q } (start N vs) H) : FnG P w K mg base (k + 1) f fd ps sp := by
  obtain ⟨oc, od, dV, kV, doc, pm, an, cdv, ct, osl, rfl, lk, hcd, _, _⟩ := F.ex
  refine ⟨len, fun A outer s H args us vs Q E hg hr e0 hb r hsp => ?_⟩
  have inK : K.In s.heap := e0.mod.kin.keeps fun c o z => (e0.bs c o z).1
  have noL : s.heap.NoLimit := e0.mod.nolimit.keeps fun c o z => (e0.bs c o z).1
  have kinds : ∀ y ∈ ps.zip us, scope.names.lookup y.1 = some .local ∨ (scope.names.lookup y.1 = some .cell ∧ ((cellsFrom (s.heap.objs.size + 1) scope.names []).lookup y.1).isSome = true) := fun ⟨nm, v⟩ hy =>
    (S.par nm (List.of_mem_zip hy).1).elim .inl fun z => .inr ⟨z, PySem.W.cellsFrom_some _ _ _ (.inl z)⟩
  refine codeAny_call_function hr.depth (inK _ _ lk) rfl S.co S.gen rfl (PySem.W.codeRec_of inK hcd) (hb _ _ _ _ (wpAny_newFunctionEnv_cells S.kind kinds fun env he s1 x => ?_))
  subst he
  refine ⟨noL.keeps x.toInCall.keep, codeAny_func ?_⟩
  obtain ⟨t, ht, hq⟩ := hbody cdv A outer s H vs Q E hg (hr.deeper _) hsp
  have I0 := inv_start (CX := CX0) (E := E) S hr.hd e0 (len _ _ _ _ hsp) r x
  refine wpAny_mono (ht.run [] s1 (start N vs) H _ I0 hq) (fun fl s' hs => ?_) fun e s' hs => hs
  cases fl with
  | ret u =>
    obtain ⟨v, σ', H', J, rv, q⟩ := hs
    exact ⟨v, H', J.os, J.bare, J.base, J.hok, rv, q⟩
  | next =>
    obtain ⟨σ', H', J, q⟩ := hs
    exact ⟨.non, H', J.os, J.bare, J.base, J.hok, rfl, q⟩
  | brk => exact hs.elim fun _ z => z.elim fun _ z => z.2.elim
  | cont => exact hs.elim fun _ z => z.elim fun _ z => z.2.elim
structure HasG (P : Program) (w : World) (K : PySem.W.Frag) (mg : Str → Option Value) (base : Heap) (k : Nat) (x : Str) (ps : List Str) (sp : Sp) (f : Addr) (fd : FuncData) : Prop where
  G : FnG P w K mg base k f fd ps sp
  g : mg x = some (.ref f)
  kp : PySem.W.keepIn K (.ref f) = true
  b : Binds K fd ps []
section
variable {X : Cx}
end
end HH
set_option maxHeartbeats 4000000
namespace HH
open PySem PySem.Spec PyProof.Rows L2 Evl RZ
end HH
set_option maxHeartbeats 4000000
namespace HH
open PySem PySem.Spec PyProof.Rows L2 Evl RZ
section
variable {X : Cx}
def rGetN : V → V → Hp → VK → Prop := fun x y H Q => ∃ (l : Addr) (xs : List V) (j : Nat) (v : V), x = .ref l ∧ y = .int (j : Int) ∧ H l = some (.lst xs) ∧ xs[j]? = some v ∧ Q v H
theorem get_listN : PGet X rGetN := by
  intro pins s σ H o i ov iv Q I0 ro ri h
  obtain ⟨l, xs, j, v, rfl, rfl, hl, hv, q⟩ := h
  cases ro
  obtain ⟨t, rfl⟩ := ri
  obtain ⟨its, r, pl, hz⟩ := I0.list (SqL.of hl)
  obtain ⟨w, ew, rw'⟩ := r.get hv
  have hj : j < xs.length := (List.getElem?_eq_some_iff.mp hv).1
  have hn := line63
  exact wpAny_getItem_list pl.isList (Int.natCast_nonneg j) (by omega) (by simpa using ew) ⟨v, H, I0, rw', q⟩
end
def Step (L M : List Cow) : Prop := ∃ (pre post : List Cow) (a b : Cow), L = pre ++ a :: b :: post ∧ b.2.1 - a.2.2 > a.2.1 ∧ M = pre ++ (b.1, (b.2.1 - a.2.2, b.2.2)) :: a :: post
inductive Steps : List Cow → List Cow → Prop
  | refl (L : List Cow) : Steps L L
  | head {L M N : List Cow} : Step L M → Steps M N → Steps L N
theorem Steps.trans {L M N : List Cow} (h : Steps L M) (g : Steps M N) : Steps L N := by
  induction h with
  | refl => exact g
  | head s _ ih => exact .head s (ih g)
theorem Steps.one {L M : List Cow} (h : Step L M) : Steps L M := .head h (.refl M)
def Nf (L : List Cow) : Prop := ∀ M, ¬ Step L M
theorem Step.under {L M : List Cow} (pre post : List Cow) (h : Step L M) : Step (pre ++ L ++ post) (pre ++ M ++ post) := by
  obtain ⟨p, q, a, b, rfl, hp, rfl⟩ := h
  exact ⟨pre ++ p, q ++ post, a, b, by simp, hp, by simp⟩
theorem Steps.under {L M : List Cow} (pre post : List Cow) (h : Steps L M) : Steps (pre ++ L ++ post) (pre ++ M ++ post) := by
  induction h with
  | refl => exact .refl _
  | head s _ ih => exact .head (s.under pre post) ih
theorem three {a b c : Cow} (ta : 0 ≤ a.2.2) (tb : 0 ≤ b.2.2) (h1 : b.2.1 - a.2.2 > a.2.1) (h2 : c.2.1 - b.2.2 > b.2.1) :
    Steps [(b.1, (b.2.1 - a.2.2, b.2.2)), a, c] [(c.1, (c.2.1 - a.2.2 - b.2.2, c.2.2)), (b.1, (b.2.1 - a.2.2, b.2.2)), a] ∧ Steps [a, (c.1, (c.2.1 - b.2.2, c.2.2)), b] [(c.1, (c.2.1 - a.2.2 - b.2.2, c.2.2)), (b.1, (b.2.1 - a.2.2, b.2.2)), a] := by
  constructor
  · refine .head (M := [(b.1, (b.2.1 - a.2.2, b.2.2)), (c.1, (c.2.1 - a.2.2, c.2.2)), a]) ⟨[(b.1, (b.2.1 - a.2.2, b.2.2))], [], a, c, rfl, by omega, rfl⟩ (.one ⟨[], [a], (b.1, (b.2.1 - a.2.2, b.2.2)), (c.1, (c.2.1 - a.2.2, c.2.2)), rfl, by dsimp only; omega, rfl⟩)
  · have e : c.2.1 - a.2.2 - b.2.2 = c.2.1 - b.2.2 - a.2.2 := by omega
    rw [e]
    exact .head (M := [(c.1, (c.2.1 - b.2.2 - a.2.2, c.2.2)), a, b]) ⟨[], [b], a, (c.1, (c.2.1 - b.2.2, c.2.2)), rfl, by dsimp only; omega, rfl⟩ (.one ⟨[(c.1, (c.2.1 - b.2.2 - a.2.2, c.2.2))], [], a, b, rfl, h1, rfl⟩)
theorem splits {α : Type} : ∀ {p p' : List α} {a b a' b' : α} {q q' : List α}, p ++ a :: b :: q = p' ++ a' :: b' :: q' →
    (p = p' ∧ a = a' ∧ b = b' ∧ q = q') ∨ (∃ c, p' = p ++ [a] ∧ a' = b ∧ b' = c ∧ q = c :: q') ∨ (∃ c, p = p' ++ [a'] ∧ a = b' ∧ b = c ∧ q' = c :: q) ∨ (∃ m, p' = p ++ a :: b :: m ∧ q = m ++ a' :: b' :: q') ∨ (∃ m, p = p' ++ a' :: b' :: m ∧ q' = m ++ a :: b :: q)
  | [], [], _, _, _, _, _, _, h => by
    simp only [List.nil_append, List.cons.injEq] at h
    exact .inl ⟨rfl, h.1, h.2.1, h.2.2⟩
  | [], [x], a, b, a', b', q, q', h => by
    simp only [List.nil_append, List.cons_append, List.cons.injEq] at h
    exact .inr (.inl ⟨b', by simp [h.1], h.2.1.symm, rfl, h.2.2⟩)
  | [], x :: y :: m, a, b, a', b', q, q', h => by
    simp only [List.nil_append, List.cons_append, List.cons.injEq] at h
    exact .inr (.inr (.inr (.inl ⟨m, by simp [h.1, h.2.1], h.2.2⟩)))
  | [x], [], a, b, a', b', q, q', h => by
    simp only [List.nil_append, List.cons_append, List.cons.injEq] at h
    exact .inr (.inr (.inl ⟨b, by simp [h.1], h.2.1, rfl, h.2.2.symm⟩))
  | x :: y :: m, [], a, b, a', b', q, q', h => by
    simp only [List.nil_append, List.cons_append, List.cons.injEq] at h
    exact .inr (.inr (.inr (.inr ⟨m, by simp [h.1, h.2.1], h.2.2.symm⟩)))
  | x :: p, y :: p', a, b, a', b', q, q', h => by
    simp only [List.cons_append, List.cons.injEq] at h
    obtain ⟨rfl, h⟩ := h
    rcases splits h with ⟨rfl, k⟩ | ⟨c, rfl, k⟩ | ⟨c, rfl, k⟩ | ⟨m, rfl, k⟩ | ⟨m, rfl, k⟩
    · exact .inl ⟨rfl, k⟩
    · exact .inr (.inl ⟨c, rfl, k⟩)
    · exact .inr (.inr (.inl ⟨c, rfl, k⟩))
    · exact .inr (.inr (.inr (.inl ⟨m, rfl, k⟩)))
    · exact .inr (.inr (.inr (.inr ⟨m, rfl, k⟩)))
theorem near {L M N : List Cow} (ht : ∀ x ∈ L, 0 ≤ x.2.2) (h : Step L M) (g : Step L N) : ∃ J, Steps M J ∧ Steps N J := by
  obtain ⟨p, q, a, b, rfl, h1, rfl⟩ := h
  obtain ⟨p', q', a', b', e, h2, rfl⟩ := g
  rcases splits e with ⟨rfl, rfl, rfl, rfl⟩ | ⟨c, rfl, rfl, rfl, rfl⟩ | ⟨c, rfl, rfl, rfl, rfl⟩ | ⟨m, rfl, rfl⟩ | ⟨m, rfl, rfl⟩
  · exact ⟨_, .refl _, .refl _⟩
  · obtain ⟨s1, s2⟩ := three (a := a) (b := a') (c := b') (ht a (by simp)) (ht a' (by simp)) h1 h2
    refine ⟨p ++ [(b'.1, (b'.2.1 - a.2.2 - a'.2.2, b'.2.2)), (a'.1, (a'.2.1 - a.2.2, a'.2.2)), a] ++ q', ?_, ?_⟩
    · have := s1.under p q'
      simpa using this
    · have := s2.under p q'
      simpa using this
  · obtain ⟨s1, s2⟩ := three (a := a') (b := a) (c := b) (ht a' (by simp)) (ht a (by simp)) h2 h1
    refine ⟨p' ++ [(b.1, (b.2.1 - a'.2.2 - a.2.2, b.2.2)), (a.1, (a.2.1 - a'.2.2, a.2.2)), a'] ++ q, ?_, ?_⟩
    · have := s2.under p' q
      simpa using this
    · have := s1.under p' q
      simpa using this
  · refine ⟨p ++ (b.1, (b.2.1 - a.2.2, b.2.2)) :: a :: (m ++ (b'.1, (b'.2.1 - a'.2.2, b'.2.2)) :: a' :: q'), .one ⟨p ++ (b.1, (b.2.1 - a.2.2, b.2.2)) :: a :: m, q', a', b', by simp, h2, by simp⟩, .one ⟨p, m ++ (b'.1, (b'.2.1 - a'.2.2, b'.2.2)) :: a' :: q', a, b, by simp, h1, by simp⟩⟩
  · refine ⟨p' ++ (b'.1, (b'.2.1 - a'.2.2, b'.2.2)) :: a' :: (m ++ (b.1, (b.2.1 - a.2.2, b.2.2)) :: a :: q), .one ⟨p', m ++ (b.1, (b.2.1 - a.2.2, b.2.2)) :: a :: q, a', b', by simp, h2, by simp⟩, .one ⟨p' ++ (b'.1, (b'.2.1 - a'.2.2, b'.2.2)) :: a' :: m, q, a, b, by simp, h1, by simp⟩⟩
structure Good (L : List Cow) : Prop where
  tl : ∀ x ∈ L, 0 ≤ x.2.2
  nd : (L.map (·.1)).Nodup
  iv : PInv L
theorem Good.step {L M : List Cow} (g : Good L) (h : Step L M) : Good M ∧ asc (M.map (·.1)) < asc (L.map (·.1)) := by
  obtain ⟨p, q, a, b, rfl, h1, rfl⟩ := h
  obtain ⟨f1, f2, f3⟩ := facts_pass (n := (p ++ a :: b :: q).length) (ps := []) (q := (0, 0)) ⟨rfl, g.tl, g.nd, by
    have := asc_le ((p ++ a :: b :: q).map (·.1))
    rw [List.length_map] at this
    show 0 + _ ≤ _
    omega⟩ g.iv h1
  exact ⟨⟨f1.tl, f1.nd, f2⟩, f3⟩
theorem Good.steps {L M : List Cow} (g : Good L) (h : Steps L M) : Good M := by
  induction h with
  | refl => exact g
  | head s _ ih => exact ih (g.step s).1
theorem some_nf : ∀ (n : Nat) {L : List Cow}, Good L → asc (L.map (·.1)) ≤ n → ∃ N, Steps L N ∧ Nf N
  | n, L, g, h => by
    by_cases z : Nf L
    · exact ⟨L, .refl L, z⟩
    · have z' : ∃ M, Step L M := Classical.byContradiction fun e => z fun M s => e ⟨M, s⟩
      obtain ⟨M, s⟩ := z'
      obtain ⟨g2, lt⟩ := g.step s
      cases n with
      | zero => omega
      | succ n =>
        obtain ⟨N, s2, nf⟩ := some_nf n g2 (by omega)
        exact ⟨N, .head s s2, nf⟩
theorem one_nf : ∀ (n : Nat) {L N N' : List Cow}, Good L → asc (L.map (·.1)) ≤ n → Steps L N → Nf N → Steps L N' → Nf N' → N = N'
  | n, L, N, N', g, h, s, nf, s', nf' => by
    cases s with
    | refl =>
      cases s' with
      | refl => rfl
      | head t _ => exact (nf _ t).elim
    | @head _ M _ t u =>
      cases s' with
      | refl => exact (nf' _ t).elim
      | @head _ M' _ t' u' =>
        obtain ⟨J, j1, j2⟩ := near g.tl t t'
        obtain ⟨g2, l2⟩ := g.step t
        obtain ⟨g3, l3⟩ := g.step t'
        cases n with
        | zero => omega
        | succ n =>
          obtain ⟨O, so, nfo⟩ := some_nf _ (g2.steps j1) (Nat.le_refl _)
          have e1 := one_nf n g2 (by omega) u nf (j1.trans so) nfo
          have e2 := one_nf n g3 (by omega) u' nf' (j2.trans so) nfo
          rw [e1, e2]
theorem good_tag {rs : HH.Row} (h : ∀ b ∈ rs, 0 ≤ b.2) : Good (tag 0 rs) := ⟨(facts_tag h).tl, (facts_tag h).nd, pinv_tag 0 rs⟩
theorem Steps.snoc {L M N : List Cow} (h : Steps L M) (s : Step M N) : Steps L N := h.trans (.one s)
theorem PRun.steps {L0 L : List Cow} {ps : List (Int × Int)} (h : PRun L0 L ps) : Steps L0 L := by
  induction h with
  | nil => exact .refl _
  | step _ hp ih => exact ih.snoc ⟨_, _, _, _, rfl, hp, rfl⟩
end HH
set_option maxHeartbeats 4000000
namespace HH
open PySem PySem.Spec PyProof.Rows L2 Evl RZ
def NfR : List Cow → Prop
  | [] => True
  | [_] => True
  | a :: b :: r => ¬ (b.2.1 - a.2.2 > a.2.1) ∧ NfR (b :: r)
theorem nfr_tail {a : Cow} {r : List Cow} (h : NfR (a :: r)) : NfR r := by
  cases r with
  | nil => exact True.intro
  | cons b r => exact h.2
theorem nfr_nf : ∀ {L : List Cow}, NfR L → Nf L := by
  intro L h M s
  obtain ⟨p, q, a, b, rfl, hp, rfl⟩ := s
  induction p with
  | nil => exact h.1 hp
  | cons x p ih => exact ih (nfr_tail h)
theorem nfr_in {w : Cow} : ∀ {A B : List Cow}, NfR (A ++ B) → (∀ x, A.getLast? = some x → ¬ (w.2.1 - x.2.2 > x.2.1)) → (∀ b r, B = b :: r → ¬ (b.2.1 - w.2.2 > w.2.1)) → NfR (A ++ w :: B)
  | [], [], _, _, _ => True.intro
  | [], b :: r, h, _, g => ⟨g b r rfl, h⟩
  | [x], B, h, f, g => ⟨f x rfl, by
    have := nfr_in (w := w) (A := []) (B := B) (nfr_tail h) (fun _ z => by cases z) g
    exact this⟩
  | x :: y :: A, B, h, f, g => ⟨h.1, nfr_in (A := y :: A) (B := B) h.2 (fun z hz => f z (by rw [List.getLast?_cons_cons]; exact hz)) g⟩
structure Kept (S T : List Int) (N : List Cow) : Prop where
  s : ∀ x ∈ N, S[x.1]? = some x.2.1
  t : ∀ x ∈ N, T[x.1]? = some x.2.2
def ExB2 (a b : Addr) (H H' : Hp) : Prop := ∀ c o, c ≠ a → c ≠ b → H c = some o → H' c = some o
structure LastAt (K : PySem.W.Frag) (H : Hp) (q : Addr) (L : List Cow) : Prop where
  ex : ∃ (v : V) (ot : Addr), H q = some (.tup [v, .ref ot]) ∧ RowAt K H v (rowsOf L) ∧ H ot = some (.tup (ordL L))
theorem LastAt.mono {K : PySem.W.Frag} {H H' : Hp} {q : Addr} {L : List Cow} (h : LastAt K H q L) (e : Ex H H') : LastAt K H' q L := by
  obtain ⟨v, ot, h1, h2, h3⟩ := h.ex
  exact ⟨v, ot, e _ _ h1, h2.ex e, e _ _ h3⟩
section
variable {K : PySem.W.Frag} {σ : L2.St} {H H' : Hp} {te : TE} {v : V}
theorem getI {S : List Int} {j : Nat} {x : Int} (h : S[j]? = some x) : (S.map V.int)[j]? = some (.int x) := by
  rw [List.getElem?_map, h]
  rfl
end
theorem set_self {α : Type} {S : List α} {k : Nat} {x : α} (h : S[k]? = some x) : S.set k x = S := by
  refine List.ext_getElem? fun i => ?_
  rw [List.getElem?_set]
  by_cases e : k = i
  · subst e
    rw [if_pos rfl, h, if_pos (List.getElem?_eq_some_iff.mp h).1]
  · rw [if_neg e]
theorem set_at {α : Type} {S : List α} {k : Nat} {x y : α} (h : S[k]? = some x) : (S.set k y)[k]? = some y := by
  rw [List.getElem?_set, if_pos rfl, if_pos (List.getElem?_eq_some_iff.mp h).1]
end HH
set_option maxHeartbeats 4000000
namespace HH
open PySem PySem.Spec PyProof.Rows L2 Evl RZ
section
variable {K : PySem.W.Frag} {σ : L2.St} {p : Addr} {ta tb te : TE} {D : Ends} {tz : TS}
def Dr (te : TE) (σ : L2.St) (p : Addr) (c : Nat) (P : Int → Prop) : Prop := ∀ (H : Hp) (n : Nat), Bx H p n → n + c < Lim → ∀ Q : VK, (∀ r H', P r → ExB p H H' → Bx H' p (n + c) → Q (.int r) H') → te σ H Q
theorem dr_c {i : Int} (h : ∀ H, Ev te σ H (.int i)) : Dr te σ p 0 (fun r => r = i) := fun H n hb hn Q q => h H H (Ex.refl H) Q fun H1 e1 => q i H1 rfl (.of e1) (hb.ex e1)
theorem dr_take {ib : Nat} {tm : TE} {E : XK} {m : Int} (hb : σ[ib]? = some (some (.ref p))) (hm : ∀ H, Ev tm σ H (.int m)) (h0 : 0 < m) (h1 : m < 1073741824) : Dr (tCall spTake [] E (tCons (tVar ib) (tCons tm tNil))) σ p 1 (fun r => 0 ≤ r ∧ r < m) := fun H n bx hn Q q =>
  ⟨.ref p, hb, hm H H (Ex.refl H) _ fun H1 e1 => ⟨p, m, n, rfl, h0, h1, bx.ex e1, by omega, fun r H2 r0 r1 x2 b2 => q r H2 ⟨r0, r1⟩ ((ExB.of e1).trans x2) b2⟩⟩
theorem dr_I {C : Int → Int → Prop} {g : Int → Int → Int} {c d : Nat} {P R S : Int → Prop} (ha : Dr ta σ p c P) (hb : Dr tb σ p d R) (h : ∀ i j, P i → R j → C i j ∧ S (g i j)) : Dr (tOp (rI C fun i j => .int (g i j)) ta tb) σ p (c + d) S := fun H n bx hn Q q =>
  ha H n bx (by omega) _ fun i H1 pi x1 b1 => hb H1 (n + c) b1 (by omega) _ fun j H2 rj x2 b2 => ⟨i, j, rfl, rfl, (h i j pi rj).1, q _ H2 (h i j pi rj).2 (x1.trans x2) (by rw [show n + (c + d) = n + c + d by omega]; exact b2)⟩
theorem dr_I0 {g : Int → Int → Int} {c d : Nat} {P R S : Int → Prop} (ha : Dr ta σ p c P) (hb : Dr tb σ p d R) (h : ∀ i j, P i → R j → S (g i j)) : Dr (tOp (rI0 fun i j => .int (g i j)) ta tb) σ p (c + d) S := fun H n bx hn Q q =>
  ha H n bx (by omega) _ fun i H1 pi x1 b1 => hb H1 (n + c) b1 (by omega) _ fun j H2 rj x2 b2 => ⟨i, j, rfl, rfl, q _ H2 (h i j pi rj) (x1.trans x2) (by rw [show n + (c + d) = n + c + d by omega]; exact b2)⟩
theorem q_asgDr {i c n : Nat} {P : Int → Prop} {H : Hp} (h : Dr te σ p c P) (hb : Bx H p n) (hn : n + c < Lim) (k : ∀ r H', P r → ExB p H H' → Bx H' p (n + c) → tz D (σ.set i (some (.int r))) H') : tSeq (tAsg te (gName i)) tz D σ H := h H n hb hn _ k
end
theorem ev_pow {σ : L2.St} {H : Hp} {a b c : Int} (h : CPow a b) (e : a ^ b.toNat = c) : Ev (tOp (rI CPow fun i j => .int (i ^ j.toNat)) (tC (.int a)) (tC (.int b))) σ H (.int c) := ev_is (ev_op ev_c ev_c (rv_I h)) (by rw [e])
end HH
set_option maxHeartbeats 4000000
namespace HH
open PySem PySem.Spec PyProof.Rows L2 Evl RZ
def beastD (b : Int × Int) : PyData := .tuple [.int b.1, .int b.2]
def rowD (rs : HH.Row) : PyData := .tuple (rs.map beastD)
theorem Beasts.uncons {K : PySem.W.Frag} {H : Hp} {v : V} {vs : List V} {b : Int × Int} {rs : HH.Row} (h : Beasts K H (v :: vs) (b :: rs)) : BeastAt K H v b ∧ Beasts K H vs rs := by
  refine ⟨?_, Nat.succ.inj h.1, fun i c hi => ?_⟩
  · obtain ⟨u, hu, g⟩ := h.2 0 b rfl
    cases hu
    exact g
  · obtain ⟨u, hu, g⟩ := h.2 (i + 1) c hi
    exact ⟨u, hu, g⟩
theorem beasts_dp {K : PySem.W.Frag} {H : Hp} : ∀ {vs : List V} {rs : HH.Row}, Beasts K H vs rs → DpAll K H vs (rs.map beastD)
  | [], [], _ => .nil
  | [], _ :: _, h => by cases h.1
  | _ :: _, [], h => by cases h.1
  | v :: vs, b :: rs, h => by
    obtain ⟨⟨p, rfl, hp⟩, h2⟩ := h.uncons
    exact .cons (.tup hp (.cons (.int _) (.cons (.int _) .nil))) (beasts_dp h2)
theorem RowAt.dp {K : PySem.W.Frag} {H : Hp} {v : V} {rs : HH.Row} (h : RowAt K H v rs) : ∃ a, v = .ref a ∧ Dp K H (.ref a) (rowD rs) := by
  obtain ⟨a, vs, rfl, h1, h2⟩ := h
  exact ⟨a, rfl, .tup h1 (beasts_dp h2)⟩
theorem nice_beast (b : Int × Int) : Nice 1 (beastD b) := nice_tuple (k := 0) fun d hd => by
  rcases List.mem_cons.mp hd with rfl | hd
  · exact nice_int 0 _
  · rcases List.mem_cons.mp hd with rfl | hd
    · exact nice_int 0 _
    · cases hd
def Low (b : Int × Int) : Prop := b.1.natAbs < 10 ^ 18 ∧ b.2.natAbs < 10 ^ 18
theorem Tame.low {b : Int × Int} (h : Tame b) : Low b := by
  unfold Tame at h
  have e : (10 : Int) ^ 12 = 1000000000000 := by decide
  have e2 : (10 : Nat) ^ 18 = 1000000000000000000 := by decide
  rw [e] at h
  unfold Low
  rw [e2]
  omega
section
variable {K : PySem.W.Frag} {σ : L2.St} {H H' : Hp} {te : TE} {v : V}
end
theorem Alike.up {K : PySem.W.Frag} {H : Hp} : ∀ {d : Nat} {x y : V}, Alike K H d x y → Alike K H (d + 1) x y
  | 0, _, _, h => h.elim
  | d + 1, x, y, h => by
    rcases h with h | ⟨a, b, xs, ys, h1, h2, h3, h4, h5, h6⟩
    · exact .inl h
    · exact .inr ⟨a, b, xs, ys, h1, h2, h3, h4, h5, fun i u v hu hv => (h6 i u v hu hv).up⟩
def lastD (L : List Cow) : PyData := .tuple [rowD (rowsOf L), .tuple ((L.map fun x => (x.1 : Int)).map PyData.int)]
theorem LastAt.dp {K : PySem.W.Frag} {H : Hp} {p : Addr} {L : List Cow} (h : LastAt K H p L) : Dp K H (.ref p) (lastD L) := by
  obtain ⟨v, ot, h1, h2, h3⟩ := h.ex
  obtain ⟨a, rfl, hd⟩ := h2.dp
  have e : ordL L = (L.map fun x => (x.1 : Int)).map V.int := by
    unfold ordL
    rw [List.map_map]
    rfl
  rw [e] at h3
  exact .tup (st_of h1) (.cons hd (.cons (.tup (st_of h3) (dp_ints _)) .nil))
end HH
set_option maxHeartbeats 4000000
namespace HH
open PySem PySem.Spec PyProof.Rows L2 Evl RZ
def FStep (L M : List Cow) : Prop := ∃ (pre post : List Cow) (a b : Cow), L = pre ++ a :: b :: post ∧ a.2.1 > b.2.1 ∧ M = pre ++ b :: (a.1, (a.2.1 + b.2.2, a.2.2)) :: post
inductive FSteps : List Cow → List Cow → Prop
  | refl (L : List Cow) : FSteps L L
  | head {L M N : List Cow} : FStep L M → FSteps M N → FSteps L N
theorem FSteps.trans {L M N : List Cow} (h : FSteps L M) (g : FSteps M N) : FSteps L N := by
  induction h with
  | refl => exact g
  | head s _ ih => exact .head s (ih g)
theorem FSteps.one {L M : List Cow} (h : FStep L M) : FSteps L M := .head h (.refl M)
def Ff (L : List Cow) : Prop := ∀ M, ¬ FStep L M
theorem FStep.under {L M : List Cow} (pre post : List Cow) (h : FStep L M) : FStep (pre ++ L ++ post) (pre ++ M ++ post) := by
  obtain ⟨p, q, a, b, rfl, hp, rfl⟩ := h
  exact ⟨pre ++ p, q ++ post, a, b, by simp, hp, by simp⟩
theorem FSteps.under {L M : List Cow} (pre post : List Cow) (h : FSteps L M) : FSteps (pre ++ L ++ post) (pre ++ M ++ post) := by
  induction h with
  | refl => exact .refl _
  | head s _ ih => exact .head (s.under pre post) ih
theorem threeF {a b c : Cow} (tb : 0 ≤ b.2.2) (tc : 0 ≤ c.2.2) (h1 : a.2.1 > b.2.1) (h2 : b.2.1 > c.2.1) :
    FSteps [b, (a.1, (a.2.1 + b.2.2, a.2.2)), c] [c, (b.1, (b.2.1 + c.2.2, b.2.2)), (a.1, (a.2.1 + b.2.2 + c.2.2, a.2.2))] ∧ FSteps [a, c, (b.1, (b.2.1 + c.2.2, b.2.2))] [c, (b.1, (b.2.1 + c.2.2, b.2.2)), (a.1, (a.2.1 + b.2.2 + c.2.2, a.2.2))] := by
  constructor
  · exact .head (M := [b, c, (a.1, (a.2.1 + b.2.2 + c.2.2, a.2.2))]) ⟨[b], [], (a.1, (a.2.1 + b.2.2, a.2.2)), c, rfl, by dsimp only; omega, rfl⟩ (.one ⟨[], [(a.1, (a.2.1 + b.2.2 + c.2.2, a.2.2))], b, c, rfl, h2, rfl⟩)
  · have e : a.2.1 + b.2.2 + c.2.2 = a.2.1 + c.2.2 + b.2.2 := by omega
    rw [e]
    exact .head (M := [c, (a.1, (a.2.1 + c.2.2, a.2.2)), (b.1, (b.2.1 + c.2.2, b.2.2))]) ⟨[], [(b.1, (b.2.1 + c.2.2, b.2.2))], a, c, rfl, by omega, rfl⟩ (.one ⟨[c], [], (a.1, (a.2.1 + c.2.2, a.2.2)), (b.1, (b.2.1 + c.2.2, b.2.2)), rfl, by dsimp only; omega, rfl⟩)
theorem nearF {L M N : List Cow} (ht : ∀ x ∈ L, 0 ≤ x.2.2) (h : FStep L M) (g : FStep L N) : ∃ J, FSteps M J ∧ FSteps N J := by
  obtain ⟨p, q, a, b, rfl, h1, rfl⟩ := h
  obtain ⟨p', q', a', b', e, h2, rfl⟩ := g
  rcases splits e with ⟨rfl, rfl, rfl, rfl⟩ | ⟨c, rfl, rfl, rfl, rfl⟩ | ⟨c, rfl, rfl, rfl, rfl⟩ | ⟨m, rfl, rfl⟩ | ⟨m, rfl, rfl⟩
  · exact ⟨_, .refl _, .refl _⟩
  · obtain ⟨s1, s2⟩ := threeF (a := a) (b := a') (c := b') (ht a' (by simp)) (ht b' (by simp)) h1 h2
    refine ⟨p ++ [b', (a'.1, (a'.2.1 + b'.2.2, a'.2.2)), (a.1, (a.2.1 + a'.2.2 + b'.2.2, a.2.2))] ++ q', ?_, ?_⟩
    · have := s1.under p q'
      simpa using this
    · have := s2.under p q'
      simpa using this
  · obtain ⟨s1, s2⟩ := threeF (a := a') (b := a) (c := b) (ht a (by simp)) (ht b (by simp)) h2 h1
    refine ⟨p' ++ [b, (a.1, (a.2.1 + b.2.2, a.2.2)), (a'.1, (a'.2.1 + a.2.2 + b.2.2, a'.2.2))] ++ q, ?_, ?_⟩
    · have := s2.under p' q
      simpa using this
    · have := s1.under p' q
      simpa using this
  · refine ⟨p ++ b :: (a.1, (a.2.1 + b.2.2, a.2.2)) :: (m ++ b' :: (a'.1, (a'.2.1 + b'.2.2, a'.2.2)) :: q'), .one ⟨p ++ b :: (a.1, (a.2.1 + b.2.2, a.2.2)) :: m, q', a', b', by simp, h2, by simp⟩, .one ⟨p, m ++ b' :: (a'.1, (a'.2.1 + b'.2.2, a'.2.2)) :: q', a, b, by simp, h1, by simp⟩⟩
  · refine ⟨p' ++ b' :: (a'.1, (a'.2.1 + b'.2.2, a'.2.2)) :: (m ++ b :: (a.1, (a.2.1 + b.2.2, a.2.2)) :: q), .one ⟨p', m ++ b :: (a.1, (a.2.1 + b.2.2, a.2.2)) :: q, a', b', by simp, h2, by simp⟩, .one ⟨p' ++ b' :: (a'.1, (a'.2.1 + b'.2.2, a'.2.2)) :: m, q, a, b, by simp, h1, by simp⟩⟩
structure FGood (L : List Cow) : Prop where
  tl : ∀ x ∈ L, 0 ≤ x.2.2
  nd : (L.map (·.1)).Nodup
  iv : FInv L
theorem FGood.step {L M : List Cow} (g : FGood L) (h : FStep L M) : FGood M ∧ asc (M.map (·.1)) < asc (L.map (·.1)) := by
  obtain ⟨p, q, a, b, rfl, h1, rfl⟩ := h
  obtain ⟨f1, f2, f3⟩ := facts_fall (n := (p ++ a :: b :: q).length) (ps := []) (q := (0, 0)) ⟨rfl, g.tl, g.nd, by
    have := asc_le ((p ++ a :: b :: q).map (·.1))
    rw [List.length_map] at this
    show 0 + _ ≤ _
    omega⟩ g.iv h1
  exact ⟨⟨f1.tl, f1.nd, f2⟩, f3⟩
theorem FGood.steps {L M : List Cow} (g : FGood L) (h : FSteps L M) : FGood M := by
  induction h with
  | refl => exact g
  | head s _ ih => exact ih (g.step s).1
theorem some_ff : ∀ (n : Nat) {L : List Cow}, FGood L → asc (L.map (·.1)) ≤ n → ∃ N, FSteps L N ∧ Ff N
  | n, L, g, h => by
    by_cases z : Ff L
    · exact ⟨L, .refl L, z⟩
    · have z' : ∃ M, FStep L M := Classical.byContradiction fun e => z fun M s => e ⟨M, s⟩
      obtain ⟨M, s⟩ := z'
      obtain ⟨g2, lt⟩ := g.step s
      cases n with
      | zero => omega
      | succ n =>
        obtain ⟨N, s2, nf⟩ := some_ff n g2 (by omega)
        exact ⟨N, .head s s2, nf⟩
theorem one_ff : ∀ (n : Nat) {L N N' : List Cow}, FGood L → asc (L.map (·.1)) ≤ n → FSteps L N → Ff N → FSteps L N' → Ff N' → N = N'
  | n, L, N, N', g, h, s, nf, s', nf' => by
    cases s with
    | refl =>
      cases s' with
      | refl => rfl
      | head t _ => exact (nf _ t).elim
    | @head _ M _ t u =>
      cases s' with
      | refl => exact (nf' _ t).elim
      | @head _ M' _ t' u' =>
        obtain ⟨J, j1, j2⟩ := nearF g.tl t t'
        obtain ⟨g2, l2⟩ := g.step t
        obtain ⟨g3, l3⟩ := g.step t'
        cases n with
        | zero => omega
        | succ n =>
          obtain ⟨O, so, nfo⟩ := some_ff _ (g2.steps j1) (Nat.le_refl _)
          have e1 := one_ff n g2 (by omega) u nf (j1.trans so) nfo
          have e2 := one_ff n g3 (by omega) u' nf' (j2.trans so) nfo
          rw [e1, e2]
theorem fgood_tag {rs : HH.Row} (h : ∀ b ∈ rs, 0 ≤ b.2) : FGood (tag 0 rs) := ⟨(facts_tag h).tl, (facts_tag h).nd, finv_tag 0 rs⟩
theorem FSteps.snoc {L M N : List Cow} (h : FSteps L M) (s : FStep M N) : FSteps L N := h.trans (.one s)
theorem FRun.steps {L0 L : List Cow} {ps : List (Int × Int)} (h : FRun L0 L ps) : FSteps L0 L := by
  induction h with
  | nil => exact .refl _
  | step _ hp ih => exact ih.snoc ⟨_, _, _, _, rfl, hp, rfl⟩
def FfR : List Cow → Prop
  | [] => True
  | [_] => True
  | a :: b :: r => ¬ (a.2.1 > b.2.1) ∧ FfR (b :: r)
theorem ffr_tail {a : Cow} {r : List Cow} (h : FfR (a :: r)) : FfR r := by
  cases r with
  | nil => exact True.intro
  | cons b r => exact h.2
theorem ffr_ff : ∀ {L : List Cow}, FfR L → Ff L := by
  intro L h M s
  obtain ⟨p, q, a, b, rfl, hp, rfl⟩ := s
  induction p with
  | nil => exact h.1 hp
  | cons x p ih => exact ih (ffr_tail h)
section
variable {K : PySem.W.Frag} {σ : L2.St} {H : Hp} {D : Ends} {tz tu : TS}
theorem q_forRev {te : TE} {j n : Nat} (h : Ev te σ H (.int (n : Int))) (hn : n ≤ 100000) (Pv : Nat → L2.St → Hp → Prop) (h0 : ∀ H1, Ex H H1 → Pv 0 σ H1)
    (hs : ∀ i σ' H', i < n → Pv i σ' H' → tu { D with nx := Pv (i + 1), ct := Pv (i + 1), bk := tz D } (σ'.set j (some (.int ((n - 1 - i : Nat) : Int)))) H') (hd : ∀ σ' H', Pv n σ' H' → tz D σ' H') : tSeq (tFor (iRevR (tRg1 te)) (gName j) tu) tz D σ H :=
  h H (Ex.refl H) _ fun H1 e => ⟨(n : Int), rfl, by omega, by omega, by omega, by omega, by
    rw [show ((n : Int) - 0).toNat = n by omega]
    refine for_rangeC (D := { D with nx := tz D }) Pv (h0 H1 e) (fun i σ' H' hi p => ?_) hd
    rw [show (0 : Int) + ((n : Nat) : Int) - 1 + ((i : Nat) : Int) * (-1) = ((n - 1 - i : Nat) : Int) by omega]
    exact hs i σ' H' hi p⟩
end
end HH
set_option maxHeartbeats 4000000
namespace PySem
open Sem (wp)
open AutoSeq1 (wpAny_loadPart')
theorem meets_enum_newT (t : Addr) (items : Array Value) (n : Nat) (dct : Option Addr) (sl : Array (Option Value)) :
    Meets (Builtin.«enumerate.__new__» ⟨[.type "enumerate", .ref t], []⟩) (fun _ R s => s.heap.get? t = some { cls := .type "tuple", dict := dct, data := .seq items n, slots := sl } ∧
      R (.ok (.ret (.ref (s.heap.push { cls := .type "tuple_iterator", data := .fields #[.ref t, .int 0 0] }).objs.size)))
        { s with heap := (s.heap.push { cls := .type "tuple_iterator", data := .fields #[.ref t, .int 0 0] }).push { cls := .type "enumerate", data := .fields #[.none, .bool false, .ref s.heap.objs.size, rawInt 0, .none, .none] } }) :=
  .of_wp fun prog w A R s h => by
    obtain ⟨hp, g, d, tk, os⟩ := s; obtain ⟨hl, h⟩ := h
    have hsub := sub_enumerate
    have hT : Heap.IsTuple (Shared.heap ⟨hp, g, d, tk, os⟩) t items := ⟨_, hl, rfl, n, rfl⟩
    wp_walk using wpAny_loadPart' hl
    refine wpAny_stack_any fun st => wpAny_pure ?_
    split
    · rename_i c _ _ _ _ _
      cases (c == Value.type "enumerate")
      · wp_walk using wpAny_loadPart' hl, wpAny_pyIter_tuple hT
        exact ⟨_, rfl, h⟩
      · wp_walk using wpAny_loadPart' hl, wpAny_pyIter_tuple hT
        exact ⟨_, rfl, h⟩
    · wp_walk using wpAny_loadPart' hl, wpAny_pyIter_tuple hT
      exact ⟨_, rfl, h⟩
section
variable {prog : Program} {w : World} {A : Around} {E : Value → Shared → Prop} {s : Shared}
theorem call_enum_tuple {t : Addr} {items : Array Value} {Q : Value → Shared → Prop} (hL : s.heap.IsTuple t items)
    (h : ∀ h', IsEnum h' (s.heap.objs.size + 1) s.heap.objs.size 0 .none → h'.IsTupleIter s.heap.objs.size t 0 → h'.objs.size = s.heap.objs.size + 2 →
      (∀ b o, s.heap.get? b = some o → h'.get? b = some o) → Q (.ref (s.heap.objs.size + 1)) { s with heap := h' }) :
    wpAny (model prog w) A (call (.type "enumerate") [.ref t]) Q E s := by
  obtain ⟨⟨c, dct, dt, sl⟩, hl, hc, n, hd⟩ := hL
  replace hc : c = .type "tuple" := hc
  replace hd : dt = .seq items n := hd
  subst hc hd
  refine callType_new F.called_enumerate (by decide) (F.typeCall_enumerate_1 _) (F.newCall_enumerate_1 _) (fun obj => F.args_object_init_2 obj _) F.entry_enumerate_new
    (meets_enum_newT t items n dct sl) ⟨hl, ?_⟩
  have hz : (s.heap.push { cls := .type "tuple_iterator", data := .fields #[.ref t, .int 0 0] }).objs.size = s.heap.objs.size + 1 := Heap.size_push ..
  show _ ∧ _
  rw [hz]
  have he : IsEnum ((s.heap.push { cls := .type "tuple_iterator", data := .fields #[.ref t, .int 0 0] }).push
      { cls := .type "enumerate", data := .fields #[.none, .bool false, .ref s.heap.objs.size, rawInt 0, .none, .none] }) (s.heap.objs.size + 1) s.heap.objs.size 0 .none := by
    have := Heap.get?_push_size (s.heap.push { cls := .type "tuple_iterator", data := .fields #[.ref t, .int 0 0] })
      (o := { cls := .type "enumerate", data := .fields #[.none, .bool false, .ref s.heap.objs.size, rawInt 0, .none, .none] }) rfl
    rw [hz] at this; exact this
  refine ⟨⟨_, he, rfl⟩, h _ he ⟨_, Heap.get?_push_of_some _ (Heap.get?_push_size _ rfl), rfl, rfl⟩ (by rw [Heap.size_push, hz]) fun b o x => Heap.get?_push_of_some _ (Heap.get?_push_of_some _ x)⟩
end
end PySem
namespace HH
open PySem PySem.Spec PyProof.Rows L2 Evl RZ
def IteT (K : PySem.W.Frag) (a : Addr) : It :=
  ⟨fun i H => ∃ (xs : List V) (x : V), SqT K H a xs ∧ xs[i]? = some x, fun i H v H' => ∃ T x, v = .ref T ∧ H T = none ∧ H' = upd H T (.tup [.int (i : Nat), x]) ∧ ∀ xs, SqT K H a xs → xs[i]? = some x, fun i H => ∃ xs : List V, SqT K H a xs ∧ xs.length = i⟩
theorem turn_enumT {P : Program} {w : World} {K : PySem.W.Frag} {elts : List Expr} {kk : Nat} {tpos : Pos} (a e it : Addr) :
    Turn P w K (.Tuple elts kk tpos) (IteT K a) [e, it] e (fun i h => (∃ old, IsEnum h e it ((i : Nat) : Int) old) ∧ h.IsTupleIter it a i ∧ e ≠ it) where
  mem := by simp
  obj := fun i h st b hb => by
    obtain ⟨⟨old, he⟩, ⟨o, ho, hc, hd⟩, _⟩ := st
    have e' : b = e ∨ b = it := by simpa using hb
    rcases e' with z | z
    · rw [z]; exact ⟨_, he, fun v q => nomatch q⟩
    · rw [z]; exact ⟨o, ho, fun v q => by rw [hd] at q; cases q⟩
  keep := fun i h h' st k => let ⟨⟨old, he⟩, hi, hne⟩ := st; ⟨⟨old, k e (by simp) _ he⟩, hi.at fun o q => k it (by simp) o q, hne⟩
  item := by
    intro X hP hw hK hc i pins s σ H E I hf st hg
    subst hP hw hK
    obtain ⟨⟨old, he⟩, hit, hne⟩ := st
    obtain ⟨xs, x, hq, hx⟩ := hg
    obtain ⟨its, rv, p, hz⟩ := I.tuple hq
    obtain ⟨u, hu, ru⟩ := rv.get hx
    have hel : e < s.heap.objs.size := Heap.lt_size he
    have hil : it < s.heap.objs.size := by obtain ⟨_, q, _⟩ := hit; exact Heap.lt_size q
    have pT : s.heap.IsTuple a its.toArray := p
    have hHa : ∀ b ∈ [e, it], a ≠ b := fun b hb z => by
      obtain ⟨o, ho, hoc, _⟩ := (show s.heap.IsTuple a its.toArray from p)
      obtain ⟨o2, ho2, hc2, _⟩ := hit
      have e' : b = e ∨ b = it := by simpa using hb
      rcases e' with z' | z'
      · rw [z, z', he] at ho
        rw [← Option.some.inj ho] at hoc
        revert hoc
        simp
      · rw [z, z', ho2] at ho
        rw [← Option.some.inj ho, hc2] at hoc
        revert hoc
        simp
    have hae : a ≠ e := hHa e (by simp)
    have hai : a ≠ it := hHa it (by simp)
    have hlt : i < its.toArray.size := by
      have := (List.getElem?_eq_some_iff.mp hu).1
      simpa using this
    refine wpAny_pyNext_enum_itemD (Draws.tuple (A := X.A.in1) (I.ok.hd hc) it a hai its.toArray) he ⟨hit, pT⟩ hlt hne (by simp; exact ⟨hne, Ne.symm hae⟩) fun y h' tk hy ho hst hT hsz hk => ?_
    have hyu : y = u := by
      have : its.toArray[i]? = some u := by simpa using hu
      rw [hy] at this
      exact Option.some.inj this
    subst hyu
    obtain ⟨hit', _⟩ := hst
    refine ⟨_, rfl, wpAny_letOwnedTupleGo_enum (s := { s with heap := h', toks := tk + 1 }) ho fun h'' he' sb => ?_⟩
    have hT2 : h''.get? s.heap.objs.size = some { cls := .type "tuple", data := .seq #[.int i tk, y] } := (sb.2 _ (Nat.ne_of_gt hel)).trans hT
    have new : ObjOk X.prog X.w (upd H s.heap.objs.size (.tup [.int (i : Nat), x])) h'' s.heap.objs.size (.tup [.int (i : Nat), x]) :=
      ⟨by show 2 ≤ sizeLine; decide, [.int i tk, y], .cons ⟨_, rfl⟩ (.cons ru .nil), ⟨_, hT2, rfl, _, rfl⟩⟩
    have I1 : Inv X pins σ (upd H s.heap.objs.size (.tup [.int (i : Nat), x])) { s with heap := h'', toks := tk + 1 } :=
      I.turnedNew (ch := [e, it]) (fun b ob hb q => (sb.2 b (fun z => hb (by simp [z]))).trans (hk b ob (fun z => hb (by simp [z])) (fun z => hb (by simp [z])) q)) hf (Nat.le_refl _) new
    refine ⟨.ref s.heap.objs.size, _, I1, rfl, ⟨_, x, rfl, I.hok.fresh (Nat.le_refl _), rfl, fun ys hy => by rw [I.tuple_inj hy hq]; exact hx⟩, ⟨⟨y, ?_⟩, hit'.at fun o q => (sb.2 it (Ne.symm hne)).trans q, hne⟩, fun b hb => ?_⟩
    · have e1 : ((i + 1 : Nat) : Int) = (i : Int) + 1 := by omega
      rw [e1]; exact he'
    · have hb' : b < s.heap.objs.size := by
        have e' : b = e ∨ b = it := by simpa using hb
        rcases e' with z | z
        · rw [z]; exact hel
        · rw [z]; exact hil
      rw [upd_ne (Nat.ne_of_lt hb')]
      exact (hf b hb).1
  done := by
    intro X hP hw hK hc i pins s σ H E I hf st hg
    subst hP hw hK
    obtain ⟨⟨old, he⟩, hit, hne⟩ := st
    obtain ⟨xs, hq, hx⟩ := hg
    obtain ⟨its, rv, p, hz⟩ := I.tuple hq
    have hHa : ∀ b ∈ [e, it], a ≠ b := fun b hb z => by
      obtain ⟨o, ho, hoc, _⟩ := (show s.heap.IsTuple a its.toArray from p)
      obtain ⟨o2, ho2, hc2, _⟩ := hit
      have e' : b = e ∨ b = it := by simpa using hb
      rcases e' with z' | z'
      · rw [z, z', he] at ho
        rw [← Option.some.inj ho] at hoc
        revert hoc
        simp
      · rw [z, z', ho2] at ho
        rw [← Option.some.inj ho, hc2] at hoc
        revert hoc
        simp
    have hai : a ≠ it := hHa it (by simp)
    have pT : s.heap.IsTuple a its.toArray := p
    obtain ⟨f0, f1, f2, f3, f4, f5⟩ := hf it (by simp)
    have hl := rv.length
    have hn : its.toArray.size = i := by simp; omega
    exact wpAny_pyNext_enum_endD (Draws.tuple (A := X.A.in1) (I.ok.hd hc) it a hai its.toArray) he (by rw [hn]; exact ⟨hit, pT⟩) fun h' eb => ⟨rfl, I.turned (t' := s.toks) (fun b o hb q => eb b o hb q) f0 f1 f3 f4 f5⟩
  self := fun A i s Q E st h => let ⟨⟨_, he⟩, _⟩ := st; wpAny_pyIter_enum he h
def iEnumT (K : PySem.W.Frag) (ta : TA) : TI := fun σ H R => ta σ H fun vs H1 => ∃ a xs, vs = [.ref a] ∧ SqT K H1 a xs ∧ R (IteT K a) H1
theorem pi_enumT {X : Cx} {e : Expr} {ta : TA} {p pos tpos : Pos} {elts : List Expr} {kk : Nat} (hg : Gl X "enumerate") (hm : X.mg "enumerate" = none) (ha : PA X [e] ta) (hs : starEach [e] X.env = [(false, eval e X.env)] := by rfl) :
    PI X (.Tuple elts kk tpos) (.Call (.Name "enumerate" p) [e] [] pos) (iEnumT X.K ta) := by
  refine ⟨fun pins s σ H R I h => ?_⟩
  refine Call_ (ld_blt I hg hm boot_enumerate (PyProof.Rows.callWith_type1 (thn (ha.run pos pins s σ H _ I h) fun us s1 ⟨vs, H1, I1, r1, q1⟩ => ?_) hs rfl))
  obtain ⟨a, xs, ex, hq, q⟩ := q1
  subst ex
  cases r1 with
  | cons r rr =>
    cases rr
    cases r
    obtain ⟨its, rv, p', hz⟩ := I1.tuple hq
    refine call_enum_tuple (show s1.heap.IsTuple a its.toArray from p') fun h' he hit hsz hk => wpAny_pyIter_enum he ?_
    have I2 : Inv X pins σ H1 { s1 with heap := h' } := I1.kept (t' := s1.toks) hk
    refine ⟨s1.heap.objs.size + 1, [s1.heap.objs.size + 1, s1.heap.objs.size], _, _, H1, rfl, I2, turn_enumT a (s1.heap.objs.size + 1) s1.heap.objs.size, ⟨⟨.none, he⟩, hit, Nat.succ_ne_self _⟩, fun b hb => ?_, q⟩
    have e' : b = s1.heap.objs.size + 1 ∨ b = s1.heap.objs.size := by simpa using hb
    have hle : s1.heap.objs.size ≤ b := by
      rcases e' with z | z
      · rw [z]; exact Nat.le_add_right _ _
      · rw [z]; exact Nat.le_refl _
    exact I1.fpOk hle (I1.hok.fresh hle)
theorem walk_enumT {K : PySem.W.Frag} {a : Addr} {xs : List V} : Walk (IteT K a) xs.length (fun H => SqT K H a xs) (YPair (fun i => some (.int (i : Nat))) (fun i => xs[i]?)) := by
  refine ⟨fun i _ hi q => ⟨xs, xs[i], q, by simp [hi]⟩, fun _ q => ⟨xs, q, rfl⟩, fun i H v H' _ q y => ?_⟩
  obtain ⟨T, x, h1, h2, h3, h4⟩ := y
  exact ⟨T, .int (i : Nat), x, h1, h2, h3, rfl, h4 xs q⟩
end HH
set_option maxHeartbeats 4000000
namespace HH
open PySem PySem.Spec PyProof.Rows L2 Evl RZ
def bef : List Nat → Nat → Nat → Bool
  | [], _, _ => false
  | x :: r, j, i => (decide (x = j) && decide (i ∈ r)) || bef r j i
theorem bef_cons {x : Nat} {r : List Nat} {j i : Nat} : bef (x :: r) j i = true ↔ (x = j ∧ i ∈ r) ∨ bef r j i = true := by
  simp [bef]
theorem bef_mem : ∀ {l : List Nat} {j i : Nat}, bef l j i = true → j ∈ l ∧ i ∈ l
  | [], _, _, h => by cases h
  | x :: r, j, i, h => by
    rcases bef_cons.mp h with ⟨rfl, h1⟩ | h1
    · exact ⟨List.mem_cons_self .., List.mem_cons_of_mem _ h1⟩
    · exact ⟨List.mem_cons_of_mem _ (bef_mem h1).1, List.mem_cons_of_mem _ (bef_mem h1).2⟩
theorem bef_swap {a b i j : Nat} {B : List Nat} (hab : a < b) (hij : i < j) : ∀ A : List Nat, bef (A ++ b :: a :: B) j i = true ↔ bef (A ++ a :: b :: B) j i = true ∨ (i = a ∧ j = b)
  | [] => by
    rw [List.nil_append, List.nil_append, bef_cons, bef_cons, bef_cons, bef_cons, List.mem_cons, List.mem_cons]
    constructor
    · rintro (⟨h1, h2 | h2⟩ | ⟨h1, h2⟩ | h)
      · exact .inr ⟨h2, h1.symm⟩
      · exact .inl (.inr (.inl ⟨h1, h2⟩))
      · exact .inl (.inl ⟨h1, .inr h2⟩)
      · exact .inl (.inr (.inr h))
    · rintro ((⟨h1, h2 | h2⟩ | ⟨h1, h2⟩ | h) | ⟨h1, h2⟩)
      · omega
      · exact .inr (.inl ⟨h1, h2⟩)
      · exact .inl ⟨h1, .inr h2⟩
      · exact .inr (.inr h)
      · exact .inl ⟨h2.symm, .inl h1⟩
  | x :: A => by
    rw [List.cons_append, List.cons_append, bef_cons, bef_cons, bef_swap hab hij A]
    have e : i ∈ A ++ b :: a :: B ↔ i ∈ A ++ a :: b :: B := by
      rw [List.mem_append, List.mem_append, List.mem_cons, List.mem_cons, List.mem_cons, List.mem_cons]
      constructor
      · rintro (h | h | h | h)
        · exact .inl h
        · exact .inr (.inr (.inl h))
        · exact .inr (.inl h)
        · exact .inr (.inr (.inr h))
      · rintro (h | h | h | h)
        · exact .inl h
        · exact .inr (.inr (.inl h))
        · exact .inr (.inl h)
        · exact .inr (.inr (.inr h))
    rw [e]
    constructor
    · rintro (h | h | h)
      · exact .inl (.inl h)
      · exact .inl (.inr h)
      · exact .inr h
    · rintro ((h | h) | h)
      · exact .inl h
      · exact .inr (.inl h)
      · exact .inr (.inr h)
theorem bef_lt : ∀ {l : List Nat} {p q j i : Nat}, l[p]? = some j → l[q]? = some i → p < q → bef l j i = true
  | [], p, q, j, i, h, _, _ => by cases h
  | x :: r, 0, 0, j, i, _, _, h => absurd h (Nat.lt_irrefl 0)
  | x :: r, 0, q + 1, j, i, h1, h2, _ => by
    have e : x = j := Option.some.inj h1
    exact bef_cons.mpr (.inl ⟨e, List.mem_of_getElem? (i := q) h2⟩)
  | x :: r, p + 1, 0, j, i, _, _, h => absurd h (Nat.not_lt_zero _)
  | x :: r, p + 1, q + 1, j, i, h1, h2, h => bef_cons.mpr (.inr (bef_lt (l := r) (p := p) (q := q) h1 h2 (by omega)))
theorem bef_get : ∀ {l : List Nat} {j i : Nat}, bef l j i = true → ∃ p q : Nat, p < q ∧ l[p]? = some j ∧ l[q]? = some i
  | [], _, _, h => by cases h
  | x :: r, j, i, h => by
    rcases bef_cons.mp h with ⟨rfl, h1⟩ | h1
    · obtain ⟨q, hq⟩ := List.getElem?_of_mem h1
      exact ⟨0, q + 1, by omega, rfl, hq⟩
    · obtain ⟨p, q, h2, h3, h4⟩ := bef_get h1
      exact ⟨p + 1, q + 1, by omega, h3, h4⟩
theorem nd_at {l : List Nat} (nd : l.Nodup) {p q j : Nat} (h1 : l[p]? = some j) (h2 : l[q]? = some j) : p = q := by
  have hp := (List.getElem?_eq_some_iff.mp h1).1
  exact (List.getElem?_inj hp nd).mp (h1.trans h2.symm)
theorem bef_iff {l : List Nat} (nd : l.Nodup) {p q j i : Nat} (h1 : l[p]? = some j) (h2 : l[q]? = some i) : bef l j i = decide (p < q) := by
  by_cases h : p < q
  · rw [decide_eq_true h]
    exact bef_lt h1 h2 h
  · rw [decide_eq_false h]
    cases hb : bef l j i with
    | false => rfl
    | true =>
      obtain ⟨p', q', h3, h4, h5⟩ := bef_get hb
      have := nd_at nd h1 h4
      have := nd_at nd h2 h5
      omega
def inP (l : List Nat) (i : Nat) (k : Nat) : Bool := bef l (i + 1 + k) i
def tabR (l : List Nat) (n i m : Nat) : List (Int × Int) := ((List.range m).filter (inP l i)).map fun k => ((i : Int), ((i + 1 + k : Nat) : Int))
def tab (l : List Nat) (n m : Nat) : List (Int × Int) := (List.range m).flatMap fun i => tabR l n i (n - (i + 1))
theorem tab_succ (l : List Nat) (n m : Nat) : tab l n (m + 1) = tab l n m ++ tabR l n m (n - (m + 1)) := by
  unfold tab
  rw [List.range_succ, List.flatMap_append]
  simp
theorem mem_tab {l : List Nat} {n : Nat} {p : Int × Int} : p ∈ tab l n n ↔ ∃ i j : Nat, i < j ∧ j < n ∧ p = ((i : Int), (j : Int)) ∧ bef l j i = true := by
  unfold tab tabR
  rw [List.mem_flatMap]
  constructor
  · rintro ⟨i, hi, h⟩
    obtain ⟨k, hk, rfl⟩ := List.mem_map.mp h
    obtain ⟨h1, h2⟩ := List.mem_filter.mp hk
    have h3 := List.mem_range.mp h1
    exact ⟨i, i + 1 + k, by omega, by omega, rfl, h2⟩
  · rintro ⟨i, j, h1, h2, rfl, h3⟩
    refine ⟨i, List.mem_range.mpr (by omega), List.mem_map.mpr ⟨j - (i + 1), List.mem_filter.mpr ⟨List.mem_range.mpr (by omega), ?_⟩, ?_⟩⟩
    · unfold inP
      rw [show i + 1 + (j - (i + 1)) = j by omega]
      exact h3
    · rw [show i + 1 + (j - (i + 1)) = j by omega]
def lexL (p q : Int × Int) : Prop := p.1 < q.1 ∨ (p.1 = q.1 ∧ p.2 < q.2)
theorem pw_tabR (l : List Nat) (n i m : Nat) : (tabR l n i m).Pairwise lexL := by
  unfold tabR
  rw [List.pairwise_map]
  refine List.Pairwise.filter _ ?_
  refine List.pairwise_lt_range.imp fun {a b} h => .inr ⟨rfl, ?_⟩
  show ((i + 1 + a : Nat) : Int) < ((i + 1 + b : Nat) : Int)
  omega
theorem pw_tab (l : List Nat) (n : Nat) : ∀ m, (tab l n m).Pairwise lexL
  | 0 => .nil
  | m + 1 => by
    rw [tab_succ]
    refine List.pairwise_append.mpr ⟨pw_tab l n m, pw_tabR l n m _, fun p hp q hq => ?_⟩
    obtain ⟨i, hi, h⟩ := List.mem_flatMap.mp hp
    obtain ⟨k, _, rfl⟩ := List.mem_map.mp h
    obtain ⟨k', _, rfl⟩ := List.mem_map.mp hq
    have := List.mem_range.mp hi
    exact .inl (by show (i : Int) < (m : Int); omega)
theorem lex_irr (p : Int × Int) : ¬ lexL p p := fun h => by
  rcases h with h | h
  · omega
  · omega
theorem nd_tab (l : List Nat) (n m : Nat) : (tab l n m).Nodup := (pw_tab l n m).imp fun {a b} h (e : a = b) => lex_irr b (by rw [e] at h; exact h)
structure Told (n : Nat) (l : List Nat) (ps : List (Int × Int)) : Prop where
  mem : ∀ p, p ∈ ps ↔ ∃ i j : Nat, i < j ∧ p = ((i : Int), (j : Int)) ∧ bef l j i = true
  nd : ps.Nodup
theorem told_swap {n a b : Nat} {A B : List Nat} {ps : List (Int × Int)} (t : Told n (A ++ a :: b :: B) ps) (hab : a < b) (nd : (A ++ a :: b :: B).Nodup) : Told n (A ++ b :: a :: B) (ps ++ [((a : Int), (b : Int))]) := by
  refine ⟨fun p => ?_, ?_⟩
  · rw [List.mem_append, List.mem_singleton, t.mem]
    constructor
    · rintro (⟨i, j, h1, h2, h3⟩ | rfl)
      · exact ⟨i, j, h1, h2, (bef_swap hab h1 A).mpr (.inl h3)⟩
      · exact ⟨a, b, hab, rfl, (bef_swap hab hab A).mpr (.inr ⟨rfl, rfl⟩)⟩
    · rintro ⟨i, j, h1, h2, h3⟩
      rcases (bef_swap hab h1 A).mp h3 with h4 | ⟨rfl, rfl⟩
      · exact .inl ⟨i, j, h1, h2, h4⟩
      · exact .inr h2
  · refine List.nodup_append.mpr ⟨t.nd, by simp, fun x hx y hy e => ?_⟩
    rw [List.mem_singleton] at hy
    subst e hy
    obtain ⟨i, j, h1, h2, h3⟩ := (t.mem _).mp hx
    have e1 : a = i := by
      have := congrArg Prod.fst h2
      have : (a : Int) = (i : Int) := this
      omega
    have e2 : b = j := by
      have := congrArg Prod.snd h2
      have : (b : Int) = (j : Int) := this
      omega
    subst e1 e2
    have g1 : (A ++ a :: b :: B)[A.length]? = some a := by simp
    have g2 : (A ++ a :: b :: B)[A.length + 1]? = some b := by
      rw [List.getElem?_append_right (by omega), show A.length + 1 - A.length = 1 by omega]
      rfl
    rw [bef_iff nd g2 g1] at h3
    have := of_decide_eq_true h3
    omega
theorem bef_range' : ∀ (k n : Nat) {j i : Nat}, bef (List.range' k n) j i = true → j < i
  | k, 0, _, _, h => by cases h
  | k, n + 1, j, i, h => by
    rw [List.range'_succ] at h
    rcases bef_cons.mp h with ⟨rfl, h1⟩ | h1
    · have := (List.mem_range'_1.mp h1).1
      omega
    · exact bef_range' _ n h1
theorem told_nil (n : Nat) : Told n (List.range n) [] := by
  refine ⟨fun p => ⟨(fun h => by cases h), ?_⟩, .nil⟩
  rintro ⟨i, j, h1, _, h2⟩
  rw [List.range_eq_range'] at h2
  have := bef_range' 0 n h2
  omega
theorem told_tab {n : Nat} {l : List Nat} {ps : List (Int × Int)} (t : Told n l ps) (hl : ∀ x ∈ l, x < n) : ps.Perm (tab l n n) := by
  refine (List.perm_ext_iff_of_nodup t.nd (nd_tab l n n)).mpr fun p => ?_
  rw [t.mem, mem_tab]
  constructor
  · rintro ⟨i, j, h1, h2, h3⟩
    exact ⟨i, j, h1, hl _ (bef_mem h3).1, h2, h3⟩
  · rintro ⟨i, j, h1, h2, h3, h4⟩
    exact ⟨i, j, h1, h3, h4⟩
end HH
set_option maxHeartbeats 4000000
namespace HH
open PySem PySem.Spec PyProof.Rows L2 Evl RZ
theorem in_it {J : It} {n : Nat} {G : Hp → Prop} {Y : Nat → Hp → V → Hp → Prop} (w : Walk J n G Y) {Step : V → Hp → (Hp → Prop) → Prop} {H1 : Hp} {Qd : Hp → Prop} (Pv : Nat → Hp → Prop) (h0 : Pv 0 H1) (hG : ∀ i H, i ≤ n → Pv i H → G H)
    (hs : ∀ i x H H', i < n → Pv i H → Y i H x H' → Step x H' (Pv (i + 1))) (hd : ∀ H, Pv n H → Qd H) :
    ∃ W : Nat → Nat → Hp → Prop, (∃ m, W 0 m H1) ∧ ∀ i m H, W i m H →
      (J.stop i H ∧ Qd H) ∨ (J.go i H ∧ ∃ Nx : Hp → Prop, (∀ H', Nx H' → ∃ m', m' < m ∧ W (i + 1) m' H') ∧ ∀ x H', J.yld i H x H' → Step x H' Nx) := by
  refine ⟨fun i m H => m = n - i ∧ i ≤ n ∧ Pv i H, ⟨n, by simp, Nat.zero_le _, h0⟩, ?_⟩
  rintro i m H ⟨rfl, hi, p⟩
  have q := hG i H hi p
  by_cases hlt : i < n
  · refine .inr ⟨w.goes i H hlt q, Pv (i + 1), fun H' p' => ⟨n - (i + 1), by omega, rfl, hlt, p'⟩, fun x H' y => hs i x H H' hlt p (w.yields i H x H' hlt q y)⟩
  · have e : i = n := by omega
    subst e
    exact .inl ⟨w.stops H q, hd H p⟩
theorem PRun.told {rs : HH.Row} {L : List Cow} {ps : List (Int × Int)} (r : PRun (tag 0 rs) L ps) (ht : ∀ b ∈ rs, 0 ≤ b.2) : Told rs.length (L.map (·.1)) ps ∧ Facts rs.length L ps ∧ PInv L := by
  induction r with
  | nil =>
    refine ⟨?_, facts_tag ht, pinv_tag 0 rs⟩
    have e : (tag 0 rs).map (·.1) = List.range rs.length := by
      rw [tag_fst]
      have e : (fun x => 0 + x) = (id : Nat → Nat) := by
        funext x
        exact Nat.zero_add x
      rw [e, List.map_id]
    rw [e]
    exact told_nil _
  | step r hp ih =>
    rename_i pre post a b ps
    obtain ⟨t, f, i⟩ := ih
    have hab := pinv_lt i hp (nd_ne f.nd)
    obtain ⟨f1, f2, f3⟩ := facts_pass (q := ((a.1 : Int), (b.1 : Int))) f i hp
    refine ⟨?_, f1, f2⟩
    have e1 : (pre ++ a :: b :: post).map (·.1) = pre.map (·.1) ++ a.1 :: b.1 :: post.map (·.1) := by simp
    have e2 : (pre ++ (b.1, (b.2.1 - a.2.2, b.2.2)) :: a :: post).map (·.1) = pre.map (·.1) ++ b.1 :: a.1 :: post.map (·.1) := by simp
    have nd := f.nd
    rw [e1] at t nd
    rw [e2]
    exact told_swap t hab nd
theorem FRun.told {rs : HH.Row} {L : List Cow} {ps : List (Int × Int)} (r : FRun (tag 0 rs) L ps) (ht : ∀ b ∈ rs, 0 ≤ b.2) : Told rs.length (L.map (·.1)) ps ∧ Facts rs.length L ps ∧ FInv L := by
  induction r with
  | nil =>
    refine ⟨?_, facts_tag ht, finv_tag 0 rs⟩
    have e : (tag 0 rs).map (·.1) = List.range rs.length := by
      rw [tag_fst]
      have e : (fun x => 0 + x) = (id : Nat → Nat) := by
        funext x
        exact Nat.zero_add x
      rw [e, List.map_id]
    rw [e]
    exact told_nil _
  | step r hp ih =>
    rename_i pre post a b ps
    obtain ⟨t, f, i⟩ := ih
    have hab := finv_lt i hp (nd_ne f.nd)
    obtain ⟨f1, f2, f3⟩ := facts_fall (q := ((a.1 : Int), (b.1 : Int))) f i hp
    refine ⟨?_, f1, f2⟩
    have e1 : (pre ++ a :: b :: post).map (·.1) = pre.map (·.1) ++ a.1 :: b.1 :: post.map (·.1) := by simp
    have e2 : (pre ++ b :: (a.1, (a.2.1 + b.2.2, a.2.2)) :: post).map (·.1) = pre.map (·.1) ++ b.1 :: a.1 :: post.map (·.1) := by simp
    have nd := f.nd
    rw [e1] at t nd
    rw [e2]
    exact told_swap t hab nd
theorem Step.ids {L M : List Cow} (h : Step L M) : (M.map (·.1)).Perm (L.map (·.1)) := by
  obtain ⟨pre, post, a, b, rfl, _, rfl⟩ := h
  rw [List.map_append, List.map_append]
  exact List.Perm.append_left _ (List.Perm.swap ..)
theorem FStep.ids {L M : List Cow} (h : FStep L M) : (M.map (·.1)).Perm (L.map (·.1)) := by
  obtain ⟨pre, post, a, b, rfl, _, rfl⟩ := h
  rw [List.map_append, List.map_append]
  exact List.Perm.append_left _ (List.Perm.swap ..)
theorem Steps.ids {L M : List Cow} (h : Steps L M) : (M.map (·.1)).Perm (L.map (·.1)) := by
  induction h with
  | refl => exact .refl _
  | head s _ ih => exact ih.trans s.ids
theorem FSteps.ids {L M : List Cow} (h : FSteps L M) : (M.map (·.1)).Perm (L.map (·.1)) := by
  induction h with
  | refl => exact .refl _
  | head s _ ih => exact ih.trans s.ids
theorem tag_ids (rs : HH.Row) : (tag 0 rs).map (·.1) = List.range rs.length := by
  rw [tag_fst]
  have e : (fun x => 0 + x) = (id : Nat → Nat) := by
    funext x
    exact Nat.zero_add x
  rw [e, List.map_id]
def natsV (l : List Nat) : List V := l.map fun (x : Nat) => V.int (x : Int)
structure PlacesD (l : List Nat) (k : Nat) (kvs : List (Key × V)) : Prop where
  at' : ∀ i x : Nat, i < k → l[i]? = some x → valV kvs (.inl (x : Int)) = some (.int (i : Int))
  few : kvs.length ≤ k
theorem ev_lenT {K : PySem.W.Frag} {ta : TE} {σ : L2.St} {H : Hp} {a : Addr} {xs : List V} (h : Ev ta σ H (.ref a)) (hr : SqT K H a xs) : Ev (tCB (rLenS K) (tCons ta tNil)) σ H (.int (xs.length : Int)) := fun H1 e Q q => h H1 e _ fun H2 e2 => ⟨a, xs, rfl, Or.inr (ex_t (e.trans e2) hr), q H2 e2⟩
theorem ev_dget {td ty : TE} {σ : L2.St} {H : Hp} {a : Addr} {kvs : List (Key × V)} {k : Key} {v : V} (hd : Ev td σ H (.ref a)) (hy : Ev ty σ H (kV k)) (h : H a = some (.dK kvs)) (hv : valV kvs k = some v) : Ev (tDGet td ty) σ H v := fun H1 e Q q =>
  hd H1 e _ fun H2 e2 => hy H2 (e.trans e2) _ fun H3 e3 => ⟨a, v, rfl, by rw [← hv]; exact DGet.k (((e.trans e2).trans e3) _ _ h), q H3 (e2.trans e3)⟩
theorem t_ev {t : TT} {σ : L2.St} {H : Hp} {b : Bool} {Q : Bool → Hp → Prop} (h : EvT t σ H b) (k : ∀ H1, Ex H H1 → Q b H1) : t σ H Q := h H (Ex.refl H) _ k
theorem t_yes {σ : L2.St} {H : Hp} {Q R : Hp → Prop} (h : Q H) : tYes σ H (fun b H1 => if b = true then Q H1 else R H1) := by
  show if true = true then Q H else R H
  rw [if_pos rfl]
  exact h
end HH
set_option maxHeartbeats 4000000
namespace HH
open PySem PySem.Spec PyProof.Rows L2 Evl RZ
theorem step_back {L M : List Cow} (h : Step L M) : FStep M L := by
  obtain ⟨pre, post, a, b, rfl, hp, rfl⟩ := h
  refine ⟨pre, post, _, a, rfl, hp, ?_⟩
  obtain ⟨bi, bs, bt⟩ := b
  show pre ++ a :: (bi, (bs, bt)) :: post = pre ++ a :: (bi, (bs - a.2.2 + a.2.2, bt)) :: post
  rw [Int.sub_add_cancel]
theorem fstep_back {L M : List Cow} (h : FStep L M) : Step M L := by
  obtain ⟨pre, post, a, b, rfl, hp, rfl⟩ := h
  refine ⟨pre, post, b, _, rfl, ?_, ?_⟩
  · show a.2.1 + b.2.2 - b.2.2 > b.2.1
    omega
  · obtain ⟨ai, as, at'⟩ := a
    show pre ++ (ai, (as, at')) :: b :: post = pre ++ (ai, (as + b.2.2 - b.2.2, at')) :: b :: post
    rw [Int.add_sub_cancel]
theorem FSteps.back {L M : List Cow} (h : FSteps L M) : Steps M L := by
  induction h with
  | refl => exact .refl _
  | head s _ ih => exact ih.snoc (fstep_back s)
theorem Steps.back {L M : List Cow} (h : Steps L M) : FSteps M L := by
  induction h with
  | refl => exact .refl _
  | head s _ ih => exact ih.snoc (step_back s)
def rl (f : Nat → Nat) (x : Cow) : Cow := (f x.1, x.2)
def rlL (f : Nat → Nat) (L : List Cow) : List Cow := L.map (rl f)
theorem rl_rows (f : Nat → Nat) (L : List Cow) : rowsOf (rlL f L) = rowsOf L := by
  unfold rowsOf rlL
  rw [List.map_map]
  rfl
theorem rl_ids (f : Nat → Nat) (L : List Cow) : (rlL f L).map (·.1) = (L.map (·.1)).map f := by
  unfold rlL
  rw [List.map_map, List.map_map]
  rfl
theorem Step.map {L M : List Cow} (f : Nat → Nat) (h : Step L M) : Step (rlL f L) (rlL f M) := by
  obtain ⟨pre, post, a, b, rfl, hp, rfl⟩ := h
  exact ⟨rlL f pre, rlL f post, rl f a, rl f b, by simp [rlL], hp, by simp [rlL, rl]⟩
theorem Step.unmap {f : Nat → Nat} {L0 M : List Cow} (h : Step (rlL f L0) M) : ∃ M0, Step L0 M0 ∧ M = rlL f M0 := by
  obtain ⟨pre, post, a, b, h1, hp, rfl⟩ := h
  obtain ⟨p0, r0, rfl, rfl, h2⟩ := List.map_eq_append_iff.mp h1
  obtain ⟨a0, r1, rfl, rfl, h3⟩ := List.map_eq_cons_iff.mp h2
  obtain ⟨b0, r2, rfl, rfl, rfl⟩ := List.map_eq_cons_iff.mp h3
  exact ⟨_, ⟨p0, r2, a0, b0, rfl, hp, rfl⟩, by simp [rlL, rl]⟩
theorem FStep.map {L M : List Cow} (f : Nat → Nat) (h : FStep L M) : FStep (rlL f L) (rlL f M) := step_back ((fstep_back h).map f)
theorem Steps.map {L M : List Cow} (f : Nat → Nat) (h : Steps L M) : Steps (rlL f L) (rlL f M) := by
  induction h with
  | refl => exact .refl _
  | head s _ ih => exact .head (s.map f) ih
theorem FSteps.map {L M : List Cow} (f : Nat → Nat) (h : FSteps L M) : FSteps (rlL f L) (rlL f M) := by
  induction h with
  | refl => exact .refl _
  | head s _ ih => exact .head (s.map f) ih
theorem FStep.unmap {f : Nat → Nat} {L0 M : List Cow} (h : FStep (rlL f L0) M) : ∃ M0, FStep L0 M0 ∧ M = rlL f M0 := by
  obtain ⟨pre, post, a, b, h1, hp, rfl⟩ := h
  obtain ⟨p0, r0, rfl, rfl, h2⟩ := List.map_eq_append_iff.mp h1
  obtain ⟨a0, r1, rfl, rfl, h3⟩ := List.map_eq_cons_iff.mp h2
  obtain ⟨b0, r2, rfl, rfl, rfl⟩ := List.map_eq_cons_iff.mp h3
  exact ⟨_, ⟨p0, r2, a0, b0, rfl, hp, rfl⟩, by simp [rlL, rl]⟩
theorem Steps.unmap {f : Nat → Nat} {L M : List Cow} (h : Steps L M) : ∀ {L0 : List Cow}, L = rlL f L0 → ∃ M0, Steps L0 M0 ∧ M = rlL f M0 := by
  induction h with
  | refl => exact fun e => ⟨_, .refl _, e⟩
  | head s _ ih =>
    intro L0 e
    subst e
    obtain ⟨M1, s1, e1⟩ := s.unmap
    obtain ⟨M0, s0, e0⟩ := ih e1
    exact ⟨M0, .head s1 s0, e0⟩
theorem FSteps.unmap {f : Nat → Nat} {L M : List Cow} (h : FSteps L M) : ∀ {L0 : List Cow}, L = rlL f L0 → ∃ M0, FSteps L0 M0 ∧ M = rlL f M0 := by
  induction h with
  | refl => exact fun e => ⟨_, .refl _, e⟩
  | head s _ ih =>
    intro L0 e
    subst e
    obtain ⟨M1, s1, e1⟩ := s.unmap
    obtain ⟨M0, s0, e0⟩ := ih e1
    exact ⟨M0, .head s1 s0, e0⟩
theorem nf_un {f : Nat → Nat} {L : List Cow} (h : Nf (rlL f L)) : Nf L := fun M s => h _ (s.map f)
theorem ff_un {f : Nat → Nat} {L : List Cow} (h : Ff (rlL f L)) : Ff L := fun M s => h _ (s.map f)
theorem nf_map {f : Nat → Nat} {L : List Cow} (h : Nf L) : Nf (rlL f L) := fun M s => by
  obtain ⟨M0, s0, _⟩ := s.unmap
  exact h _ s0
theorem ff_map {f : Nat → Nat} {L : List Cow} (h : Ff L) : Ff (rlL f L) := fun M s => by
  obtain ⟨M0, s0, _⟩ := s.unmap
  exact h _ s0
def ixN (l : List Nat) (i : Nat) : Nat := (l[i]?).getD 0
theorem tag_at : ∀ (k i : Nat) (rs : HH.Row), (tag k rs)[i]? = (rs[i]?).map fun b => (k + i, b)
  | _, _, [] => rfl
  | k, 0, b :: r => rfl
  | k, i + 1, b :: r => by
    show (tag (k + 1) r)[i]? = (r[i]?).map _
    rw [tag_at (k + 1) i r]
    rw [show k + 1 + i = k + (i + 1) by omega]
theorem rl_tag (L : List Cow) : rlL (ixN (L.map (·.1))) (tag 0 (rowsOf L)) = L := by
  refine List.ext_getElem? fun i => ?_
  unfold rlL
  rw [List.getElem?_map, tag_at]
  unfold rowsOf
  rw [List.getElem?_map]
  cases h : L[i]? with
  | none => rfl
  | some x =>
    show some (rl (ixN (L.map (·.1))) (0 + i, x.2)) = some x
    unfold rl ixN
    rw [Nat.zero_add, List.getElem?_map, h]
    rfl
theorem tolls_rows {L : List Cow} (h : ∀ x ∈ L, 0 ≤ x.2.2) : ∀ b ∈ rowsOf L, 0 ≤ b.2 := fun b hb => by
  obtain ⟨x, hx, rfl⟩ := List.mem_map.mp hb
  exact h x hx
theorem nf_any {L N N' : List Cow} (ht : ∀ x ∈ L, 0 ≤ x.2.2) (s : Steps L N) (n : Nf N) (s' : Steps L N') (n' : Nf N') : N = N' := by
  obtain ⟨M, t, rfl⟩ := s.unmap (rl_tag L).symm
  obtain ⟨M', t', rfl⟩ := s'.unmap (rl_tag L).symm
  rw [one_nf _ (good_tag (tolls_rows ht)) (Nat.le_refl _) t (nf_un n) t' (nf_un n')]
theorem ff_any {L N N' : List Cow} (ht : ∀ x ∈ L, 0 ≤ x.2.2) (s : FSteps L N) (n : Ff N) (s' : FSteps L N') (n' : Ff N') : N = N' := by
  obtain ⟨M, t, rfl⟩ := s.unmap (rl_tag L).symm
  obtain ⟨M', t', rfl⟩ := s'.unmap (rl_tag L).symm
  rw [one_ff _ (fgood_tag (tolls_rows ht)) (Nat.le_refl _) t (ff_un n) t' (ff_un n')]
theorem nf_is {L : List Cow} (ht : ∀ x ∈ L, 0 ≤ x.2.2) : ∃ N, Steps L N ∧ Nf N := by
  obtain ⟨N, s, n⟩ := some_nf _ (good_tag (tolls_rows ht)) (Nat.le_refl _)
  have s' := s.map (ixN (L.map (·.1)))
  rw [rl_tag] at s'
  exact ⟨_, s', nf_map n⟩
theorem ff_is {L : List Cow} (ht : ∀ x ∈ L, 0 ≤ x.2.2) : ∃ N, FSteps L N ∧ Ff N := by
  obtain ⟨N, s, n⟩ := some_ff _ (fgood_tag (tolls_rows ht)) (Nat.le_refl _)
  have s' := s.map (ixN (L.map (·.1)))
  rw [rl_tag] at s'
  exact ⟨_, s', ff_map n⟩
theorem step_tl {L M : List Cow} (h : Step L M) (ht : ∀ x ∈ L, 0 ≤ x.2.2) : ∀ x ∈ M, 0 ≤ x.2.2 := by
  obtain ⟨pre, post, a, b, rfl, hp, rfl⟩ := h
  intro x hx
  simp only [List.mem_append, List.mem_cons] at hx
  rcases hx with h | h | h | h
  · exact ht x (by simp [h])
  · subst h
    exact ht b (by simp)
  · exact ht x (by simp [h])
  · exact ht x (by simp [h])
theorem fstep_tl {L M : List Cow} (h : FStep L M) (ht : ∀ x ∈ L, 0 ≤ x.2.2) : ∀ x ∈ M, 0 ≤ x.2.2 := by
  obtain ⟨pre, post, a, b, rfl, hp, rfl⟩ := h
  intro x hx
  simp only [List.mem_append, List.mem_cons] at hx
  rcases hx with h | h | h | h
  · exact ht x (by simp [h])
  · exact ht x (by simp [h])
  · subst h
    exact ht a (by simp)
  · exact ht x (by simp [h])
theorem Steps.tl {L M : List Cow} (h : Steps L M) (ht : ∀ x ∈ L, 0 ≤ x.2.2) : ∀ x ∈ M, 0 ≤ x.2.2 := by
  induction h with
  | refl => exact ht
  | head s _ ih => exact ih (step_tl s ht)
theorem FSteps.tl {L M : List Cow} (h : FSteps L M) (ht : ∀ x ∈ L, 0 ≤ x.2.2) : ∀ x ∈ M, 0 ≤ x.2.2 := by
  induction h with
  | refl => exact ht
  | head s _ ih => exact ih (fstep_tl s ht)
theorem ends_fstep {L M E : List Cow} (ht : ∀ x ∈ L, 0 ≤ x.2.2) (s : FStep L M) (h : FSteps L E) (n : Ff E) : FSteps M E := by
  obtain ⟨N, s1, n1⟩ := ff_is (fstep_tl s ht)
  rw [ff_any ht h n (.head s s1) n1]
  exact s1
theorem ends_step {L M E : List Cow} (ht : ∀ x ∈ L, 0 ≤ x.2.2) (s : Step L M) (h : Steps L E) (n : Nf E) : Steps M E := by
  obtain ⟨N, s1, n1⟩ := nf_is (step_tl s ht)
  rw [nf_any ht h n (.head s s1) n1]
  exact s1
theorem MRun.both {L0 L E B : List Cow} {ds : List Deed} (r : MRun L0 L ds) (ht : ∀ x ∈ L0, 0 ≤ x.2.2) (hE : Steps L0 E) (nE : Nf E) (hB : FSteps L0 B) (nB : Ff B) : (∀ x ∈ L, 0 ≤ x.2.2) ∧ Steps L E ∧ FSteps L B := by
  induction r with
  | nil => exact ⟨ht, hE, hB⟩
  | pass r hp ih =>
    rename_i pre post a b ds
    have s : Step (pre ++ a :: b :: post) (pre ++ (b.1, (b.2.1 - a.2.2, b.2.2)) :: a :: post) := ⟨_, _, _, _, rfl, hp, rfl⟩
    exact ⟨step_tl s ih.1, ends_step ih.1 s ih.2.1 nE, .head (step_back s) ih.2.2⟩
  | fall r hp ih =>
    rename_i pre post a b ds
    have s : FStep (pre ++ a :: b :: post) (pre ++ b :: (a.1, (a.2.1 + b.2.2, a.2.2)) :: post) := ⟨_, _, _, _, rfl, hp, rfl⟩
    exact ⟨fstep_tl s ih.1, .head (fstep_back s) ih.2.1, ends_fstep ih.1 s ih.2.2 nB⟩
end HH
set_option maxHeartbeats 4000000
namespace HH
open PySem PySem.Spec PyProof.Rows L2 Evl RZ
structure Thru (n : Nat) (l1 l2 y : List Nat) : Prop where
  p1 : l1.Perm (List.range n)
  p2 : l2.Perm (List.range n)
  py : y.Perm (List.range n)
  e : l2 = y.map (ixN l1)
  no : ∀ {a b : Nat}, a < b → bef l1 b a = true → bef l2 b a = true → False
end HH
set_option maxHeartbeats 4000000
namespace SrtO
open PySem PySem.Spec PyProof.Rows L2
section
variable {prog : Program} {w : World} {A : Around} {E : Value → Shared → Prop} {s : Shared}
end
end SrtO
namespace HH
open PySem PySem.Spec PyProof.Rows L2 Evl RZ
section
variable {X : Cx}
end
end HH
set_option maxHeartbeats 4000000
namespace HH
open PySem PySem.Spec PyProof.Rows L2 Evl RZ
theorem natsV_at {l : List Nat} {k x : Nat} (h : l[k]? = some x) : (natsV l)[k]? = some (V.int (x : Int)) := by
  unfold natsV
  rw [List.getElem?_map, h]
  rfl
theorem natsV_len (l : List Nat) : (natsV l).length = l.length := List.length_map ..
section
variable {K : PySem.W.Frag} {σ : L2.St} {H H' : Hp} {ta tb te : TE} {x y v : V}
theorem rv_neD {k : Nat} {d : PyData} (hx : Dp K H x d) (hy : Dp K H y d) (n : Nice k d) (hk : k < 64) : RV (rNeD K) x y H (.bl false) := fun H1 e Q q => by
  refine ⟨d, d, dp_ex e hx, dp_ex e hy, n.shaped (by omega), n.shaped (by omega), ?_⟩
  rw [SeqAt.eqv_refl _ n.1]
  exact q H1 (Ex.refl H1)
def pairsD (ps : HH.Row) : PyData := .list (ps.map beastD)
theorem dp_pairs {a : Addr} {us : List V} {ps : HH.Row} (h : SqL K H a us) (hb : Beasts K H us ps) : Dp K H (.ref a) (pairsD ps) := .lst h (beasts_dp hb)
theorem nice_pairs (ps : HH.Row) : Nice 2 (pairsD ps) := nice_list fun d hd => by
  obtain ⟨b, _, rfl⟩ := List.mem_map.mp hd
  exact nice_beast b
end
end HH
set_option maxHeartbeats 4000000
namespace HH
open PySem PySem.Spec PyProof.Rows L2 Evl RZ
theorem relF {L B M : List Cow} (ht : ∀ x ∈ L, 0 ≤ x.2.2) (s : FSteps (tag 0 (rowsOf L)) M) (n : Ff M) (sB : FSteps L B) (nB : Ff B) : rowsOf M = rowsOf B ∧ (M.map (·.1)).map (ixN (L.map (·.1))) = B.map (·.1) := by
  have s' := s.map (ixN (L.map (·.1)))
  rw [rl_tag] at s'
  have e := ff_any ht s' (ff_map n) sB nB
  rw [← e, rl_rows, rl_ids]
  exact ⟨rfl, rfl⟩
theorem relS {L B M : List Cow} (ht : ∀ x ∈ L, 0 ≤ x.2.2) (s : Steps (tag 0 (rowsOf L)) M) (n : Nf M) (sB : Steps L B) (nB : Nf B) : rowsOf M = rowsOf B ∧ (M.map (·.1)).map (ixN (L.map (·.1))) = B.map (·.1) := by
  have s' := s.map (ixN (L.map (·.1)))
  rw [rl_tag] at s'
  have e := nf_any ht s' (nf_map n) sB nB
  rw [← e, rl_rows, rl_ids]
  exact ⟨rfl, rfl⟩
theorem FSteps.len {L M : List Cow} (h : FSteps L M) : M.length = L.length := by
  have := h.ids.length_eq
  rw [List.length_map, List.length_map] at this
  exact this
theorem Steps.len {L M : List Cow} (h : Steps L M) : M.length = L.length := by
  have := h.ids.length_eq
  rw [List.length_map, List.length_map] at this
  exact this
theorem FSteps.idsT {rs : HH.Row} {M : List Cow} (h : FSteps (tag 0 rs) M) : (M.map (·.1)).Perm (List.range rs.length) := by
  rw [← tag_ids]
  exact h.ids
theorem Steps.idsT {rs : HH.Row} {M : List Cow} (h : Steps (tag 0 rs) M) : (M.map (·.1)).Perm (List.range rs.length) := by
  rw [← tag_ids]
  exact h.ids
section
variable {K : PySem.W.Frag} {σ : L2.St} {H H' : Hp} {ta tb te : TE} {x y v : V} {t : TT} {tu tz : TS} {D : Ends}
theorem beast_eqv (b c : Int × Int) : PyData.eqv (beastD b) (beastD c) = decide (b = c) := by
  obtain ⟨b1, b2⟩ := b
  obtain ⟨c1, c2⟩ := c
  simp [beastD, PyData.eqv, PyData.eqvAll]
  rfl
end
end HH
namespace HH
open PySem PySem.Spec PyProof.Rows L2 Evl RZ
section
variable {X : Cx} {K : PySem.W.Frag}
theorem pi_tupK {tg e : Expr} {te : TE} (he : PE X e te) (hK : X.K = K := by rfl) : PI X tg e (iTup K te) := by
  subst hK
  exact pi_tup he
end
end HH
namespace HH
open PySem PySem.Spec PyProof.Rows L2 Evl RZ
section
variable {K : PySem.W.Frag} {σ : L2.St} {H H' : Hp} {ta tb te : TE} {x y v : V} {Q : VK}
end
end HH
namespace HH
open PySem PySem.Spec PyProof.Rows L2 Evl RZ
section
variable {K : PySem.W.Frag} {σ : L2.St} {H H' : Hp} {ta tb te : TE} {x y v : V} {Q : VK}
end
end HH
set_option maxHeartbeats 4000000
namespace HH
open PySem PySem.Spec PyProof.Rows L2 Evl RZ
section
variable {K : PySem.W.Frag} {σ : L2.St} {H H' : Hp} {ta tb te : TE} {x y v : V} {Q : VK}
end
end HH
namespace HH
open PySem PySem.Spec PyProof.Rows L2 Evl RZ
end HH
namespace HH
open PySem PySem.Spec PyProof.Rows L2 Evl RZ
end HH
set_option maxHeartbeats 4000000
namespace HH
open PySem PySem.Spec PyProof.Rows L2 Evl RZ
theorem s_at {ts : TS} {D : Ends} {σ : L2.St} {H : Hp} (σ' : L2.St) (e : σ = σ') (k : ts D σ' H) : ts D σ H := by
  rw [e]
  exact k
end HH
set_option maxHeartbeats 4000000
namespace HH
open PySem PySem.Spec PyProof.Rows L2 Evl RZ
def barN (rs : HH.Row) (i : Nat) : Nat → Int
  | 0 => sS rs i + tS rs i
  | m + 1 => if sS rs (i + 1 + m) ≤ barN rs i m then barN rs i m + tS rs (i + 1 + m) else barN rs i m
theorem barN_yes {rs : HH.Row} {i m : Nat} (h : sS rs (i + 1 + m) ≤ barN rs i m) : barN rs i (m + 1) = barN rs i m + tS rs (i + 1 + m) := if_pos h
theorem barN_no {rs : HH.Row} {i m : Nat} (h : ¬ sS rs (i + 1 + m) ≤ barN rs i m) : barN rs i (m + 1) = barN rs i m := if_neg h
def tsumC : List Cow → Int
  | [] => 0
  | x :: r => x.2.2 + tsumC r
theorem tsumC_app : ∀ A B : List Cow, tsumC (A ++ B) = tsumC A + tsumC B
  | [], B => by
    show tsumC B = 0 + tsumC B
    omega
  | x :: A, B => by
    show x.2.2 + tsumC (A ++ B) = x.2.2 + tsumC A + tsumC B
    rw [tsumC_app A B]
    omega
def BarI (rs : HH.Row) (m : Nat) : List Cow → Prop
  | [] => True
  | x :: r => x.2.1 + x.2.2 + tsumC r = barN rs x.1 (m - x.1 - 1) ∧ BarI rs m r
def PB (s : Int) : List Cow → Prop
  | [] => True
  | x :: r => x.2.1 + x.2.2 + tsumC r < s ∧ PB s r
theorem ins_end (w : Cow) : ∀ (k : Nat) (A B : List Cow), A.length = k → PB w.2.1 B → ∃ A' B', A ++ B = A' ++ B' ∧ PB w.2.1 B' ∧ Steps (A ++ (w.1, (w.2.1 - tsumC B, w.2.2)) :: B) (A' ++ (w.1, (w.2.1 - tsumC B', w.2.2)) :: B') ∧ ∀ x, A'.getLast? = some x → ¬ (w.2.1 - tsumC B' - x.2.2 > x.2.1)
  | 0, A, B, h, hp => by
    have e : A = [] := List.length_eq_zero_iff.mp h
    subst e
    exact ⟨[], B, rfl, hp, .refl _, fun x hx => by cases hx⟩
  | k + 1, A, B, h, hp => by
    have hne : A ≠ [] := fun e => by
      rw [e] at h
      cases h
    have eA := List.dropLast_concat_getLast hne
    generalize A.getLast hne = a at eA
    by_cases z : w.2.1 - tsumC B - a.2.2 > a.2.1
    · have hl : A.dropLast.length = k := by rw [List.length_dropLast, h]; rfl
      obtain ⟨A', B', e1, p1, s1, l1⟩ := ins_end w k A.dropLast (a :: B) hl ⟨by omega, hp⟩
      refine ⟨A', B', ?_, p1, .head ?_ s1, l1⟩
      · rw [← e1]
        conv => lhs; rw [← eA]
        simp
      · refine ⟨A.dropLast, B, a, (w.1, (w.2.1 - tsumC B, w.2.2)), ?_, z, ?_⟩
        · conv => lhs; rw [← eA]
          simp
        · have e2 : w.2.1 - tsumC (a :: B) = w.2.1 - tsumC B - a.2.2 := by
            show w.2.1 - (a.2.2 + tsumC B) = _
            omega
          rw [e2]
    · refine ⟨A, B, rfl, hp, .refl _, fun x hx => ?_⟩
      have e3 : A.getLast? = some a := by
        rw [← eA]
        simp
      rw [e3] at hx
      cases hx
      exact z
theorem bar_idx {x m : Nat} (h : x < m) : m + 1 - x - 1 = (m - x - 1) + 1 ∧ x + 1 + (m - x - 1) = m := by omega
theorem barI_B {rs : HH.Row} {m : Nat} {s : Int} (hs : s = sS rs m) : ∀ {B : List Cow}, PB s B → BarI rs m B → (∀ x ∈ B, x.1 < m) → BarI rs (m + 1) B ∧ ∀ x ∈ B, barN rs x.1 (m - x.1 - 1) < s
  | [], _, _, _ => ⟨True.intro, fun x hx => by cases hx⟩
  | x :: r, h, b, l => by
    obtain ⟨i1, i2⟩ := bar_idx (l x (List.mem_cons_self ..))
    obtain ⟨g1, g2⟩ := barI_B hs h.2 b.2 fun y hy => l y (List.mem_cons_of_mem _ hy)
    have h1 := h.1
    have hb := b.1
    refine ⟨⟨?_, g1⟩, fun y hy => ?_⟩
    · rw [i1, barN_no (by rw [i2, ← hs, ← hb]; omega)]
      exact hb
    · rcases List.mem_cons.mp hy with rfl | hy
      · rw [← hb]
        exact h1
      · exact g2 y hy
theorem barI_A {rs : HH.Row} {m : Nat} {w : Cow} {B : List Cow} (hw : w.1 = m) (hs : w.2.1 = sS rs m) (ht : w.2.2 = tS rs m) (hB : BarI rs (m + 1) B) : ∀ {A : List Cow}, NfR (A ++ B) → BarI rs m (A ++ B) → (∀ x ∈ A, x.1 < m) → (∀ x, A.getLast? = some x → ¬ (w.2.1 - tsumC B - x.2.2 > x.2.1)) →
    BarI rs (m + 1) (A ++ (w.1, (w.2.1 - tsumC B, w.2.2)) :: B) ∧ (∀ x r, A = x :: r → w.2.1 ≤ x.2.1 + x.2.2 + tsumC (r ++ B)) ∧ ∀ x ∈ A, w.2.1 ≤ barN rs x.1 (m - x.1 - 1)
  | [], _, _, _, _ => by
    refine ⟨⟨?_, hB⟩, fun x r e => (by cases e), fun x hx => by cases hx⟩
    show w.2.1 - tsumC B + w.2.2 + tsumC B = barN rs w.1 (m + 1 - w.1 - 1)
    rw [hw, show m + 1 - m - 1 = 0 by omega]
    show _ = sS rs m + tS rs m
    omega
  | [x], n, b, l, la => by
    obtain ⟨i1, i2⟩ := bar_idx (l x (List.mem_cons_self ..))
    have z := la x rfl
    have hb : x.2.1 + x.2.2 + tsumC ([] ++ B) = barN rs x.1 (m - x.1 - 1) := b.1
    have hc : w.2.1 ≤ x.2.1 + x.2.2 + tsumC ([] ++ B) := by
      show w.2.1 ≤ x.2.1 + x.2.2 + tsumC B
      omega
    refine ⟨⟨?_, ?_⟩, fun y r e => ?_, fun y hy => ?_⟩
    · show x.2.1 + x.2.2 + (w.2.2 + tsumC B) = barN rs x.1 (m + 1 - x.1 - 1)
      rw [i1, barN_yes (by rw [i2, ← hs, ← hb]; exact hc), i2, ← hb, ← ht]
      show _ = x.2.1 + x.2.2 + tsumC B + w.2.2
      omega
    · show BarI rs (m + 1) ((w.1, (w.2.1 - tsumC B, w.2.2)) :: B)
      refine ⟨?_, hB⟩
      show w.2.1 - tsumC B + w.2.2 + tsumC B = barN rs w.1 (m + 1 - w.1 - 1)
      rw [hw, show m + 1 - m - 1 = 0 by omega]
      show _ = sS rs m + tS rs m
      omega
    · cases e
      exact hc
    · rcases List.mem_cons.mp hy with rfl | hy
      · rw [← hb]
        exact hc
      · cases hy
  | x :: y :: A, n, b, l, la => by
    obtain ⟨i1, i2⟩ := bar_idx (l x (List.mem_cons_self ..))
    obtain ⟨g1, g2, g3⟩ := barI_A hw hs ht hB (A := y :: A) n.2 b.2 (fun z hz => l z (List.mem_cons_of_mem _ hz)) (fun z hz => la z (by rw [List.getLast?_cons_cons]; exact hz))
    have hb : x.2.1 + x.2.2 + tsumC (y :: A ++ B) = barN rs x.1 (m - x.1 - 1) := b.1
    have nn := n.1
    have hy := g2 y A rfl
    have hc : w.2.1 ≤ x.2.1 + x.2.2 + tsumC (y :: A ++ B) := by
      show w.2.1 ≤ x.2.1 + x.2.2 + (y.2.2 + tsumC (A ++ B))
      omega
    refine ⟨⟨?_, g1⟩, fun z r e => ?_, fun z hz => ?_⟩
    · show x.2.1 + x.2.2 + tsumC (y :: A ++ (w.1, (w.2.1 - tsumC B, w.2.2)) :: B) = barN rs x.1 (m + 1 - x.1 - 1)
      rw [i1, barN_yes (by rw [i2, ← hs, ← hb]; exact hc), i2, ← hb, ← ht, tsumC_app, tsumC_app]
      show x.2.1 + x.2.2 + (tsumC (y :: A) + (w.2.2 + tsumC B)) = _
      omega
    · cases e
      exact hc
    · rcases List.mem_cons.mp hz with rfl | hz
      · rw [← hb]
        exact hc
      · exact g3 z hz
theorem bef_ins {m j i : Nat} {Y : List Nat} (hj : j ≠ m) (hi : i ≠ m) : ∀ X : List Nat, (bef (X ++ m :: Y) j i = true ↔ bef (X ++ Y) j i = true)
  | [] => by
    show bef (m :: Y) j i = true ↔ bef Y j i = true
    rw [bef_cons]
    constructor
    · rintro (⟨h, _⟩ | h)
      · exact absurd h.symm hj
      · exact h
    · exact .inr
  | x :: X => by
    show bef (x :: (X ++ m :: Y)) j i = true ↔ bef (x :: (X ++ Y)) j i = true
    rw [bef_cons, bef_cons, bef_ins hj hi X]
    have e : i ∈ X ++ m :: Y ↔ i ∈ X ++ Y := by
      simp [hi]
    rw [e]
theorem bef_new {m i : Nat} {Y : List Nat} (hY : m ∉ Y) : ∀ X : List Nat, m ∉ X → (bef (X ++ m :: Y) m i = true ↔ i ∈ Y)
  | [], _ => by
    show bef (m :: Y) m i = true ↔ i ∈ Y
    rw [bef_cons]
    constructor
    · rintro (⟨_, h⟩ | h)
      · exact h
      · exact absurd (bef_mem h).1 hY
    · exact fun h => .inl ⟨rfl, h⟩
  | x :: X, h => by
    show bef (x :: (X ++ m :: Y)) m i = true ↔ i ∈ Y
    rw [bef_cons, bef_new hY X (fun z => h (List.mem_cons_of_mem _ z))]
    constructor
    · rintro (⟨e, _⟩ | h1)
      · exact absurd (List.mem_cons.mpr (.inl e.symm)) h
      · exact h1
    · exact .inr
theorem tag_app : ∀ (k : Nat) (a b : HH.Row), tag k (a ++ b) = tag k a ++ tag (k + a.length) b
  | k, [], b => rfl
  | k, x :: a, b => by
    show (k, x) :: tag (k + 1) (a ++ b) = (k, x) :: (tag (k + 1) a ++ tag (k + (a.length + 1)) b)
    rw [tag_app (k + 1) a b, show k + 1 + a.length = k + (a.length + 1) by omega]
structure EndP (rs : HH.Row) (m : Nat) (N : List Cow) : Prop where
  st : Steps (tag 0 (rs.take m)) N
  nf : NfR N
  ba : BarI rs m N
  ids : (N.map (·.1)).Perm (List.range m)
  by' : ∀ i j : Nat, i < j → j < m → (bef (N.map (·.1)) j i = true ↔ barN rs i (j - i - 1) < sS rs j)
theorem endP {rs : HH.Row} (ht : ∀ b ∈ rs, 0 ≤ b.2) : ∀ m, m ≤ rs.length → ∃ N, EndP rs m N
  | 0, _ => ⟨[], .refl _, True.intro, True.intro, .refl _, fun i j _ h => absurd h (Nat.not_lt_zero _)⟩
  | m + 1, h => by
    obtain ⟨N, e⟩ := endP ht m (by omega)
    have hm : m < rs.length := by omega
    have hg := row_get hm
    have hmem : ∀ x ∈ N, x.1 < m := fun x hx => List.mem_range.mp (e.ids.mem_iff.mp (List.mem_map_of_mem (f := (·.1)) hx))
    obtain ⟨A, B, e1, pb, st, la⟩ := ins_end (m, (sS rs m, tS rs m)) N.length N [] rfl True.intro
    rw [List.append_nil] at e1
    subst e1
    have t0 : 0 ≤ tS rs m := by
      have := ht (sS rs m, tS rs m) (List.mem_of_getElem? hg)
      exact this
    have hA : ∀ x ∈ A, x.1 < m := fun x hx => hmem x (List.mem_append_left _ hx)
    have hB : ∀ x ∈ B, x.1 < m := fun x hx => hmem x (List.mem_append_right _ hx)
    have baB : BarI rs m B := by
      have := e.ba
      clear e st la pb hmem hA
      induction A with
      | nil => exact this
      | cons x A ih => exact ih this.2
    obtain ⟨b1, b2⟩ := barI_B (s := sS rs m) rfl pb baB hB
    obtain ⟨a1, _, a3⟩ := barI_A (w := (m, (sS rs m, tS rs m))) rfl rfl rfl b1 e.nf e.ba hA la
    refine ⟨A ++ (m, (sS rs m - tsumC B, tS rs m)) :: B, ?_, ?_, a1, ?_, ?_⟩
    · have e2 : rs.take (m + 1) = rs.take m ++ [(sS rs m, tS rs m)] := by
        rw [List.take_add_one, hg]
        rfl
      have e3 : tag 0 (rs.take (m + 1)) = tag 0 (rs.take m) ++ [(m, (sS rs m, tS rs m))] := by
        rw [e2, tag_app, List.length_take, Nat.min_eq_left (by omega), Nat.zero_add]
        rfl
      rw [e3]
      have s1 := e.st.under [] [(m, (sS rs m, tS rs m))]
      refine Steps.trans (by simpa using s1) ?_
      have e4 : sS rs m - tsumC [] = sS rs m := Int.sub_zero _
      have st' := st
      dsimp only at st'
      rw [e4] at st'
      simpa using st'
    · refine nfr_in e.nf la fun b r eb => ?_
      subst eb
      have := pb.1
      show ¬ (b.2.1 - tS rs m > sS rs m - (b.2.2 + tsumC r))
      dsimp only at this
      omega
    · rw [List.map_append, List.map_cons, List.range_succ]
      have ids := e.ids
      rw [List.map_append] at ids
      refine List.perm_middle.trans ?_
      refine (List.Perm.cons m ids).trans ?_
      exact List.perm_append_comm (l₁ := [m]) (l₂ := List.range m)
    · intro i j hij hj
      have eids : (A ++ (m, (sS rs m - tsumC B, tS rs m)) :: B).map (·.1) = A.map (·.1) ++ m :: B.map (·.1) := by
        rw [List.map_append, List.map_cons]
      rw [eids]
      have eids0 : (A ++ B).map (·.1) = A.map (·.1) ++ B.map (·.1) := List.map_append
      have noA : m ∉ A.map (·.1) := fun z => by
        obtain ⟨x, hx, ex⟩ := List.mem_map.mp z
        have := hA x hx
        omega
      have noB : m ∉ B.map (·.1) := fun z => by
        obtain ⟨x, hx, ex⟩ := List.mem_map.mp z
        have := hB x hx
        omega
      by_cases hjm : j = m
      · subst hjm
        rw [bef_new noB _ noA]
        constructor
        · intro z
          obtain ⟨x, hx, rfl⟩ := List.mem_map.mp z
          exact b2 x hx
        · intro z
          have hi : i ∈ (A ++ B).map (·.1) := e.ids.mem_iff.mpr (List.mem_range.mpr hij)
          rw [eids0] at hi
          rcases List.mem_append.mp hi with hi | hi
          · obtain ⟨x, hx, rfl⟩ := List.mem_map.mp hi
            have := a3 x hx
            dsimp only at this
            omega
          · exact hi
      · rw [bef_ins hjm (by omega), ← eids0]
        exact e.by' i j hij (by omega)
theorem never_iff {rs : HH.Row} {L : List Cow} (ht : ∀ b ∈ rs, 0 ≤ b.2) (h : Steps (tag 0 rs) L) (nf : Nf L) {i j : Nat} (hij : i < j) (hj : j < rs.length) : bef (L.map (·.1)) j i = true ↔ barN rs i (j - i - 1) < sS rs j := by
  obtain ⟨N, e⟩ := endP ht rs.length (Nat.le_refl _)
  have st := e.st
  rw [List.take_length] at st
  rw [nf_any (good_tag ht).tl h nf st (nfr_nf e.nf)]
  exact e.by' i j hij hj
def nevP (rs : HH.Row) (i m : Nat) : Bool := decide (sS rs (i + 1 + m) ≤ barN rs i m)
def nevL (rs : HH.Row) (i n : Nat) : List Nat := ((List.range n).filter (nevP rs i)).map (i + 1 + ·)
end HH
set_option maxHeartbeats 4000000
namespace HH
open PySem PySem.Spec PyProof.Rows L2 Evl RZ
section
variable {K : PySem.W.Frag} {σ : L2.St} {H H' : Hp} {ta tb te : TE} {x y v : V}
end
def LowN (n : Nat) (b : Int × Int) : Prop := b.1.natAbs ≤ 10 ^ 12 * (n + 1) ∧ 0 ≤ b.2 ∧ b.2 < 10 ^ 12
theorem MRun.low {L0 L : List Cow} {ds : List Deed} (r : MRun L0 L ds) (h : ∀ x ∈ L0, LowN 0 x.2) : ∀ x ∈ L, LowN ds.length x.2 := by
  have e : (10 : Int) ^ 12 = 1000000000000 := by decide
  have e2 : (10 : Nat) ^ 12 = 1000000000000 := by decide
  induction r with
  | nil => exact h
  | pass r hp ih =>
    rename_i pre post a b ds
    intro x hx
    rw [List.length_append]
    show LowN (ds.length + 1) x.2
    have up : ∀ y, LowN ds.length y → LowN (ds.length + 1) y := fun y hy => by
      unfold LowN at hy ⊢
      rw [e2] at hy ⊢
      omega
    simp only [List.mem_append, List.mem_cons] at hx
    rcases hx with hx | hx | hx | hx
    · exact up _ (ih x (by simp [hx]))
    · subst hx
      have ha := ih a (by simp)
      have hb := ih b (by simp)
      unfold LowN at ha hb ⊢
      rw [e, e2] at ha hb ⊢
      dsimp only
      omega
    · exact up _ (ih x (by simp [hx]))
    · exact up _ (ih x (by simp [hx]))
  | fall r hp ih =>
    rename_i pre post a b ds
    intro x hx
    rw [List.length_append]
    show LowN (ds.length + 1) x.2
    have up : ∀ y, LowN ds.length y → LowN (ds.length + 1) y := fun y hy => by
      unfold LowN at hy ⊢
      rw [e2] at hy ⊢
      omega
    simp only [List.mem_append, List.mem_cons] at hx
    rcases hx with hx | hx | hx | hx
    · exact up _ (ih x (by simp [hx]))
    · exact up _ (ih x (by simp [hx]))
    · subst hx
      have ha := ih a (by simp)
      have hb := ih b (by simp)
      unfold LowN at ha hb ⊢
      rw [e, e2] at ha hb ⊢
      dsimp only
      omega
    · exact up _ (ih x (by simp [hx]))
theorem LowN.low {n : Nat} {b : Int × Int} (h : LowN n b) (hn : n ≤ 1000) : Low b := by
  unfold LowN at h
  unfold Low
  have e : (10 : Int) ^ 12 = 1000000000000 := by decide
  have e2 : (10 : Nat) ^ 12 = 1000000000000 := by decide
  have e3 : (10 : Nat) ^ 18 = 1000000000000000000 := by decide
  rw [e, e2] at h
  rw [e3]
  omega
end HH
set_option maxHeartbeats 4000000
namespace HH
open PySem PySem.Spec PyProof.Rows L2 Evl RZ
section
variable {K : PySem.W.Frag} {σ : L2.St} {H H' : Hp} {ta tb te : TE} {x y v : V}
theorem el_rep3 {xs : List V} (h : EvL te σ H xs) (hz : xs.length ≤ 1000) : EvL (tOp rRep te (tC (.int 3))) σ H (xs ++ (xs ++ xs)) := fun H1 e Q q =>
  h H1 e _ fun p H2 hp e2 h2 => ⟨p, 3, xs, rfl, rfl, h2, by decide, by decide, sz_of (by show xs.length * 3 ≤ 100000; omega), fun c hc => by
    have e3 : (List.replicate (3 : Int).toNat xs).flatten = xs ++ (xs ++ xs) := by
      show xs ++ (xs ++ (xs ++ [])) = xs ++ (xs ++ xs)
      rw [List.append_nil]
    rw [e3]
    exact q c _ (fresh_back e2 hc) (e2.trans (Ex.new hc)) upd_same⟩
end
end HH
set_option maxHeartbeats 4000000
namespace HH
open PySem PySem.Spec PyProof.Rows L2 Evl RZ
section
variable {X : Cx}
end
def stopAt (l : List Nat) (j : Nat) : V := if j = 0 then .non else .int (ixN l (j - 1) : Int)
structure InsR (w : Cow) (N A B : List Cow) : Prop where
  e : N = A ++ B
  st : Steps (N ++ [w]) (A ++ (w.1, (w.2.1 - tsumC B, w.2.2)) :: B)
  pb : PB w.2.1 B
theorem InsR.start (w : Cow) (N : List Cow) : InsR w N N [] := by
  refine ⟨(List.append_nil N).symm, ?_, True.intro⟩
  have e : (w.1, (w.2.1 - tsumC [], w.2.2)) = w := by
    show (w.1, (w.2.1 - 0, w.2.2)) = w
    rw [Int.sub_zero]
  rw [e]
  exact .refl _
theorem InsR.next {w a : Cow} {N A B : List Cow} (h : InsR w N (A ++ [a]) B) (hp : w.2.1 - tsumC B - a.2.2 > a.2.1) : InsR w N A (a :: B) := by
  refine ⟨by rw [h.e, List.append_assoc]; rfl, h.st.snoc ⟨A, B, a, (w.1, (w.2.1 - tsumC B, w.2.2)), by rw [List.append_assoc]; rfl, hp, ?_⟩, ⟨by omega, h.pb⟩⟩
  have e2 : w.2.1 - tsumC (a :: B) = w.2.1 - tsumC B - a.2.2 := by
    show w.2.1 - (a.2.2 + tsumC B) = _
    omega
  rw [e2]
theorem InsR.stop {w : Cow} {N A B : List Cow} (h : InsR w N A B) (n : NfR N) (t : 0 ≤ w.2.2) (la : ∀ x, A.getLast? = some x → ¬ (w.2.1 - tsumC B - x.2.2 > x.2.1)) : NfR (A ++ (w.1, (w.2.1 - tsumC B, w.2.2)) :: B) := by
  have hn := n
  rw [h.e] at hn
  refine nfr_in hn la fun b r eb => ?_
  have hb := h.pb
  subst eb
  have := hb.1
  show ¬ (b.2.1 - w.2.2 > w.2.1 - (b.2.2 + tsumC r))
  omega
theorem nfr_of {L : List Cow} (h : Nf L) : NfR L := by
  induction L with
  | nil => exact True.intro
  | cons a r ih =>
    cases r with
    | nil => exact True.intro
    | cons b r =>
      refine ⟨fun z => h _ ⟨[], r, a, b, rfl, z, rfl⟩, ih fun M s => ?_⟩
      have := s.under [a] []
      refine h (a :: M) ?_
      simpa using this
end HH
set_option maxHeartbeats 4000000
namespace HH
open PySem PySem.Spec PyProof.Rows L2 Evl RZ
def ItzM (K : PySem.W.Frag) (a b : Addr) : It :=
  ⟨fun i H => ∃ (xs ys : List V) (x y : V), SqL K H a xs ∧ SqT K H b ys ∧ xs[i]? = some x ∧ ys[i]? = some y,
   fun i H v H' => ∃ T x y, v = .ref T ∧ H T = none ∧ H' = upd H T (.tup [x, y]) ∧ (∀ xs, SqL K H a xs → xs[i]? = some x) ∧ (∀ ys, SqT K H b ys → ys[i]? = some y),
   fun i H => ∃ xs ys : List V, SqL K H a xs ∧ SqT K H b ys ∧ xs.length = ys.length ∧ xs.length = i⟩
def MixSt (z TI TO i1 i2 a b : Addr) (i : Nat) (h : Heap) : Prop := IsZip h z TI TO .none ∧ IsTupOf2 h TI (.ref i1) (.ref i2) ∧ (∃ x y, IsTupOf2 h TO x y) ∧ h.IsListIter i1 a i ∧ h.IsTupleIter i2 b i
theorem five {c z TI TO i1 i2 : Addr} (h : c ∈ [z, TI, TO, i1, i2]) : c = z ∨ c = TI ∨ c = TO ∨ c = i1 ∨ c = i2 := by simpa using h
theorem MixSt.objs {z TI TO i1 i2 a b : Addr} {i : Nat} {h : Heap} (m : MixSt z TI TO i1 i2 a b i h) : ∀ c ∈ [z, TI, TO, i1, i2], ∃ ob, h.get? c = some ob ∧ ∀ v, ob.data ≠ .cell v := fun c hc => by
  obtain ⟨m1, m2, ⟨_, _, m3⟩, ⟨p1, g1, _, d1⟩, ⟨p2, g2, _, d2⟩⟩ := m
  rcases five hc with rfl | rfl | rfl | rfl | rfl
  · exact ⟨_, m1, fun v q => by cases q⟩
  · exact ⟨_, m2, fun v q => by cases q⟩
  · exact ⟨_, m3, fun v q => by cases q⟩
  · exact ⟨p1, g1, fun v q => by rw [d1] at q; cases q⟩
  · exact ⟨p2, g2, fun v q => by rw [d2] at q; cases q⟩
theorem turn_zipM {P : Program} {w : World} {K : PySem.W.Frag} {elts : List Expr} {kk : Nat} {tpos : Pos} {a b z TI TO i1 i2 : Addr} (S : ZipSep2 z TI TO i1 i2 [i1, a] [i2, b]) (na : a ≠ i1) (nb : b ≠ i2) :
    Turn P w K (.Tuple elts kk tpos) (ItzM K a b) [z, TI, TO, i1, i2] z (MixSt z TI TO i1 i2 a b) where
  mem := List.mem_cons_self ..
  obj := fun i h st c hc => st.objs c hc
  keep := fun i h h' st k => by
    obtain ⟨m1, m2, ⟨x, y, m3⟩, m4, m5⟩ := st
    exact ⟨k z (by simp) _ m1, k TI (by simp) _ m2, ⟨x, y, k TO (by simp) _ m3⟩, m4.at fun o q => k i1 (by simp) o q, m5.at fun o q => k i2 (by simp) o q⟩
  item := by
    intro X eP eW eK hc i pins st σ H E inv free mix goes
    subst eP eW eK
    obtain ⟨m1, m2, ⟨x0, y0, m3⟩, m4, m5⟩ := id mix
    obtain ⟨xs, ys, x, y, hxs, hys, hx, hy⟩ := goes
    obtain ⟨vx, rx, px, _⟩ := inv.list hxs
    obtain ⟨vy, ry, py, _⟩ := inv.tuple hys
    obtain ⟨u, hu, ru⟩ := rx.get hx
    obtain ⟨t, htt, rt⟩ := ry.get hy
    have old : ∀ c ∈ [z, TI, TO, i1, i2], c < st.heap.objs.size := fun c hcm => by
      obtain ⟨ob, got, _⟩ := mix.objs c hcm
      exact Heap.lt_size got
    have py' : st.heap.IsTuple b vy.toArray := py
    refine wpAny_pyNext_zipD2_item S (Draws.list (A := X.A.in1) (inv.ok.hd hc) i1 a na vx.toArray) (Draws.tuple (A := X.A.in1) (inv.ok.hd hc) i2 b nb vy.toArray) m1 m2 m3 ⟨m4, px.isList⟩ ⟨m5, py'⟩ (by have := (List.getElem?_eq_some_iff.mp hu).1; simpa using this) (by have := (List.getElem?_eq_some_iff.mp htt).1; simpa using this) fun y1 y2 h' tk hy1 hy2 z' TO' s1' s2' hT hsz hk => ?_
    have e1 : y1 = u := by
      have hh : vx.toArray[i]? = some u := by simpa using hu
      exact Option.some.inj (hy1.symm.trans hh)
    have e2 : y2 = t := by
      have hh : vy.toArray[i]? = some t := by simpa using htt
      exact Option.some.inj (hy2.symm.trans hh)
    subst e1 e2
    refine ⟨_, rfl, wpAny_letOwnedTupleGo_zip (s := { st with heap := h', toks := tk }) z' fun g z2 but => ?_⟩
    have zlt : z < st.heap.objs.size := old z (by simp)
    have made : g.get? st.heap.objs.size = some { cls := .type "tuple", data := .seq #[y1, y2] } := (but.2 _ (Nat.ne_of_gt zlt)).trans hT
    have okT : ObjOk X.prog X.w (upd H st.heap.objs.size (.tup [x, y])) g st.heap.objs.size (.tup [x, y]) := ⟨by show 2 ≤ sizeLine; decide, [y1, y2], .cons ru (.cons rt .nil), ⟨_, made, rfl, _, rfl⟩⟩
    have inv2 : Inv X pins σ (upd H st.heap.objs.size (.tup [x, y])) { st with heap := g, toks := tk } :=
      inv.turnedNew (ch := [z, TI, TO, i1, i2]) (fun c o out q => (but.2 c (fun q' => out (by simp [q']))).trans (hk c o (fun q' => out (by simp [q'])) (fun q' => out (by simp [q'])) (fun q' => out (by simp [q'])) (fun q' => out (by simp [q'])) q)) free (Nat.le_refl _) okT
    have zi1 : i1 ≠ z := fun e => S.zf1 (by rw [← e]; exact S.mem1)
    have zi2 : i2 ≠ z := fun e => S.zf2 (by rw [← e]; exact S.mem2)
    refine ⟨.ref st.heap.objs.size, _, inv2, rfl, ⟨_, x, y, rfl, inv.hok.fresh (Nat.le_refl _), rfl, fun l hl => by rw [inv.list_inj hl hxs]; exact hx, fun l hl => by rw [inv.tuple_inj hl hys]; exact hy⟩, ⟨z2, (but.2 _ S.TIz).trans (hk _ _ S.TIz S.TITO S.TIi1 S.TIi2 m2), ⟨y1, y2, (but.2 _ S.TOz).trans TO'⟩, s1'.1.at fun o q => (but.2 _ zi1).trans q, s2'.1.at fun o q => (but.2 _ zi2).trans q⟩, fun c hcm => ?_⟩
    rw [upd_ne (Nat.ne_of_lt (old c hcm))]
    exact (free c hcm).1
  done := by
    intro X eP eW eK hc i pins st σ H E inv free mix ends
    subst eP eW eK
    obtain ⟨m1, m2, ⟨x0, y0, m3⟩, m4, m5⟩ := mix
    obtain ⟨xs, ys, hxs, hys, hl, hi⟩ := ends
    obtain ⟨vx, rx, px, _⟩ := inv.list hxs
    obtain ⟨vy, ry, py, _⟩ := inv.tuple hys
    have py' : st.heap.IsTuple b vy.toArray := py
    have n1 : vx.toArray.size = i := by
      have := rx.length
      rw [List.size_toArray]
      omega
    have n2 : vy.toArray.size = i := by
      have := ry.length
      rw [List.size_toArray]
      omega
    exact wpAny_pyNext_zipD2_end S (Draws.list (A := X.A.in1) (inv.ok.hd hc) i1 a na vx.toArray) (Draws.tuple (A := X.A.in1) (inv.ok.hd hc) i2 b nb vy.toArray) m1 m2 m3 ⟨m4, px.isList⟩ ⟨m5, py'⟩ (Nat.le_of_eq n1.symm) (Nat.le_of_eq n2.symm) (.inl n1.symm) fun h' tk hk => ⟨rfl, inv.turnedL (ch := [z, TI, TO, i1, i2]) (fun c o out q =>
      hk c o (fun q' => out (by simp [q'])) (fun q' => out (by simp [q'])) (fun q' => out (by simp [q'])) (fun q' => out (by simp [q'])) q) free⟩
  self := fun A i s Q E st h => wpAny_pyIter_zip st.1 h
def iZipM (K : PySem.W.Frag) (ta : TA) : TI := fun σ H R => ta σ H fun vs H1 => ∃ a b xs ys, vs = [.ref a, .ref b] ∧ SqL K H1 a xs ∧ SqT K H1 b ys ∧ R (ItzM K a b) H1
theorem pi_zipM {X : Cx} {e e2 : Expr} {ta : TA} {p pos tpos : Pos} {elts : List Expr} {kk : Nat} (hg : Gl X "zip") (hm : X.mg "zip" = none) (ha : PA X [e, e2] ta)
    (hs : starEach [e, e2] X.env = (false, eval e X.env) :: starEach [e2] X.env := by rfl) (hpl : (backTo pos (starEach [e2] X.env)).any (·.1) = false := by rfl) : PI X (.Tuple elts kk tpos) (.Call (.Name "zip" p) [e, e2] [] pos) (iZipM X.K ta) := by
  refine ⟨fun pins st σ H R inv h => ?_⟩
  refine Call_ (ld_blt inv hg hm PyProof.Rows.boot_zip (PyProof.Rows.callWith_type1 (thn (ha.run pos pins st σ H _ inv h) fun us s1 ⟨vs, H1, I1, rel, q1⟩ => ?_) hs hpl))
  obtain ⟨a, b, xs, ys, rfl, hxs, hys, q⟩ := q1
  cases rel with
  | cons r1 rest =>
    cases rest with
    | cons r2 rest =>
      cases rest
      cases r1
      cases r2
      obtain ⟨vx, rx, px, _⟩ := I1.list hxs
      obtain ⟨vy, ry, py, _⟩ := I1.tuple hys
      have py' : s1.heap.IsTuple b vy.toArray := py
      have la : a < s1.heap.objs.size := px.lt
      have lb : b < s1.heap.objs.size := by
        obtain ⟨o2, ho2, _⟩ := py'
        exact Heap.lt_size ho2
      refine zip_begins2 (begins_list a vx.toArray) (begins_tuple b vy.toArray) px.isList py' fun h' z1 t1 t2 g1 g2 hsz hk => wpAny_pyIter_zip z1 ?_
      have I2 : Inv X pins σ H1 { s1 with heap := h' } := I1.kept (t' := s1.toks) hk
      refine ⟨s1.heap.objs.size + 4, [s1.heap.objs.size + 4, s1.heap.objs.size + 2, s1.heap.objs.size + 3, s1.heap.objs.size, s1.heap.objs.size + 1], _, _, H1, rfl, I2, turn_zipM (zip_sep2 (fp1 := [a]) (fp2 := [b]) (fun c hc => ?_) (fun c hc => ?_)) (Nat.ne_of_lt la) (Nat.ne_of_lt (Nat.lt_succ_of_lt lb)), ⟨z1, t1, ⟨_, _, t2⟩, ⟨_, g1, rfl, rfl⟩, ⟨_, g2, rfl, rfl⟩⟩, fun c hc => ?_, q⟩
      · rw [List.mem_singleton.mp hc]
        exact la
      · rw [List.mem_singleton.mp hc]
        exact lb
      · have up : s1.heap.objs.size ≤ c := by
          rcases five hc with rfl | rfl | rfl | rfl | rfl
          · omega
          · omega
          · omega
          · exact Nat.le_refl _
          · omega
        exact I1.fpOk up (I1.hok.fresh up)
theorem walk_zipM {K : PySem.W.Frag} {a b : Addr} {xs ys : List V} (hl : xs.length = ys.length) : Walk (ItzM K a b) xs.length (fun H => SqL K H a xs ∧ SqT K H b ys) (YPair (fun i => xs[i]?) (fun i => ys[i]?)) := by
  refine ⟨fun i _ hi g => ⟨xs, ys, xs[i], ys[i], g.1, g.2, List.getElem?_eq_getElem hi, List.getElem?_eq_getElem (by omega)⟩, fun _ g => ⟨xs, ys, g.1, g.2, hl, rfl⟩, fun i H v H' _ g y => ?_⟩
  obtain ⟨T, x, z, h1, h2, h3, h4, h5⟩ := y
  exact ⟨T, x, z, h1, h2, h3, h4 xs g.1, h5 ys g.2⟩
end HH
set_option maxHeartbeats 4000000
namespace HH
open PySem PySem.Spec PyProof.Rows L2 Evl RZ
def tp (rs : HH.Row) (k : Nat) : Int := tsum (rs.take k)
section
variable {K : PySem.W.Frag} {σ : L2.St} {H H' : Hp} {ta tb te : TE} {x y v : V} {t : TT}
theorem el_lcR2 {ta : TA} {j : Nat} {vs : List Nat} {lo n : Int} {m : Nat} (f : Nat → Bool) (v : Nat → V) (h : EvA ta σ H [.int lo, .int n]) (hn : 0 ≤ lo ∧ lo ≤ 1000 ∧ 0 ≤ n ∧ n ≤ 1000) (hm : (n - lo).toNat = m) (hw : ∀ x, wipe ((wipe σ vs).set j (some x)) vs = wipe σ vs)
    (ht : ∀ (i : Nat) H1, Ex H H1 → i < m → EvT t ((wipe σ vs).set j (some (.int (lo + (i : Int))))) H1 (f i)) (he : ∀ (i : Nat) H1, Ex H H1 → i < m → f i = true → Ev te ((wipe σ vs).set j (some (.int (lo + (i : Int))))) H1 (v i)) :
    EvL (tLc (iRng2 ta) (gName j) t te vs) σ H (given m f v) := fun H0 e0 Q q => by
  refine h H0 e0 _ fun H1 e1 => ⟨lo, n, rfl, ⟨by omega, by omega, by omega, by omega⟩, fun Dl hD => ?_⟩
  rw [hm]
  refine in_it walk_range (fun i H2 => Ex H1 H2 ∧ H2 Dl = some (.lst (given i f v))) ⟨Ex.new hD, upd_same⟩ (fun _ _ _ _ => True.intro) (fun i x H2 H3 hi p y => ?_) (fun H2 p => q Dl H2 (fresh_back e1 hD) (e1.trans p.1) p.2)
  obtain ⟨rfl, hx⟩ := y
  have hx : x = V.int (lo + (i : Int)) := hx
  subst hx
  refine ⟨hw _, ?_⟩
  have e2 : Ex H H3 := (e0.trans e1).trans p.1
  refine t_ev (ht i H3 e2 hi) fun H4 e4 => ?_
  cases hf : f i with
  | true =>
    show te _ H4 _
    refine he i H3 e2 hi hf H4 e4 _ fun H5 e5 => ⟨_, e5 _ _ (e4 _ _ p.2), ?_, Ex.mut ((p.1.trans e4).trans e5) hD, ?_⟩
    · have := given_len i f v
      exact sz_lt (by omega)
    · rw [upd_same, given_yes hf]
  | false =>
    show Ex H1 H4 ∧ H4 Dl = some (.lst (given (i + 1) f v))
    rw [given_no hf]
    exact ⟨p.1.trans e4, e4 _ _ p.2⟩
end
section
variable {X : Cx}
theorem sl_tupAK {K : PySem.W.Frag} (h : X.K = K := by rfl) : SlR X (rSlA K) := by
  subst h
  exact sl_tupA
theorem cr_sumK {K : PySem.W.Frag} (hc : X.calm = true) (h : X.K = K := by rfl) : CallR X (.builtin "sum") (rSum K) := by
  subst h
  exact cr_sum hc
end
end HH
set_option maxHeartbeats 4000000
namespace HH
open PySem PySem.Spec PyProof.Rows L2 Evl RZ
structure ListsF (H0 H : Hp) (us : List V) (ll : List (List Nat)) : Prop where
  len : us.length = ll.length
  at' : ∀ (i : Nat) (l : List Nat), ll[i]? = some l → ∃ p, us[i]? = some (.ref p) ∧ H0 p = none ∧ H p = some (.lst (natsV l))
theorem ListsF.nil {H0 H : Hp} : ListsF H0 H [] [] := ⟨rfl, fun i l h => by cases h⟩
theorem ListsF.ex {H0 H H' : Hp} {us : List V} {ll : List (List Nat)} (h : ListsF H0 H us ll) (e : Ex H H') : ListsF H0 H' us ll := ⟨h.len, fun i l hl => by
  obtain ⟨p, h1, h2, h3⟩ := h.at' i l hl
  exact ⟨p, h1, h2, e _ _ h3⟩⟩
theorem ListsF.low {H00 H0 H : Hp} {us : List V} {ll : List (List Nat)} (h : ListsF H0 H us ll) (e : Ex H00 H0) : ListsF H00 H us ll := ⟨h.len, fun i l hl => by
  obtain ⟨p, h1, h2, h3⟩ := h.at' i l hl
  exact ⟨p, h1, fresh_back e h2, h3⟩⟩
theorem ListsF.mut {H0 H : Hp} {us : List V} {ll : List (List Nat)} {D : Addr} {o o' : HO} (h : ListsF H0 H us ll) (hD : H0 D = some o) : ListsF H0 (upd H D o') us ll := ⟨h.len, fun i l hl => by
  obtain ⟨p, h1, h2, h3⟩ := h.at' i l hl
  refine ⟨p, h1, h2, ?_⟩
  rw [upd_ne (Ne.symm (ne_of_none hD h2))]
  exact h3⟩
theorem ListsF.app {H0 H : Hp} {us : List V} {ll : List (List Nat)} {p : Addr} {l : List Nat} (h : ListsF H0 H us ll) (hp : H0 p = none) (hl : H p = some (.lst (natsV l))) : ListsF H0 H (us ++ [.ref p]) (ll ++ [l]) := by
  refine ⟨by rw [List.length_append, List.length_append, h.len]; rfl, fun i m hm => ?_⟩
  by_cases hi : i < ll.length
  · rw [List.getElem?_append_left hi] at hm
    rw [List.getElem?_append_left (by rw [h.len]; exact hi)]
    exact h.at' i m hm
  · rw [List.getElem?_append_right (by omega)] at hm
    rw [List.getElem?_append_right (by rw [h.len]; omega), h.len]
    match e : i - ll.length, hm with
    | 0, hm =>
      cases hm
      exact ⟨p, rfl, hp, hl⟩
    | k + 1, hm => cases hm
def nevT (rs : HH.Row) : List (List Nat) := (List.range rs.length).map fun i => nevL rs i (rs.length - i - 1)
def spIsNum : Sp := fun vs H Q _ => ∃ i : Int, vs = [.int i] ∧ RetV (.bl true) H Q
section
variable {X : Cx}
end
section
variable {K : PySem.W.Frag} {σ : L2.St} {H : Hp} {v : V}
end
end HH
set_option maxHeartbeats 4000000
namespace HH
open PySem PySem.Spec PyProof.Rows L2 Evl RZ
def PlainT (o : Obj) : Prop := o.cls = .type "tuple" ∧ o.dict = none
section
variable {X : Cx}
end
structure LastAtF (K : PySem.W.Frag) (H : Hp) (q : Addr) (L : List Cow) : Prop where
  ex : ∃ (v : V) (ot : Addr) (o : Obj), H q = some (.tup [v, .ref ot]) ∧ RowAt K H v (rowsOf L) ∧ H ot = some (.frz o (.tup (ordL L))) ∧ PlainT o
end HH
set_option maxHeartbeats 4000000
namespace HH
open PySem PySem.Spec PyProof.Rows L2 Evl RZ
theorem mem_tabN {rs : HH.Row} {L : List Cow} (ht : ∀ b ∈ rs, 0 ≤ b.2) (st : Steps (tag 0 rs) L) (nf : Nf L) {p : Int × Int} : p ∈ tab (L.map (·.1)) rs.length rs.length ↔ ∃ i j : Nat, i < j ∧ j < rs.length ∧ p = ((i : Int), (j : Int)) ∧ barN rs i (j - i - 1) < sS rs j := by
  rw [mem_tab]
  constructor
  · rintro ⟨i, j, h1, h2, h3, h4⟩
    exact ⟨i, j, h1, h2, h3, (never_iff ht st nf h1 h2).mp h4⟩
  · rintro ⟨i, j, h1, h2, h3, h4⟩
    exact ⟨i, j, h1, h2, h3, (never_iff ht st nf h1 h2).mpr h4⟩
inductive StepsN : Nat → List Cow → List Cow → Prop
  | refl (L : List Cow) : StepsN 0 L L
  | head {k : Nat} {L M N : List Cow} : Step L M → StepsN k M N → StepsN (k + 1) L N
theorem StepsN.trans {a b : Nat} {L M N : List Cow} (h : StepsN a L M) (g : StepsN b M N) : StepsN (a + b) L N := by
  induction h with
  | refl => rw [Nat.zero_add]; exact g
  | head s _ ih =>
    rename_i k L M N _
    rw [show k + 1 + b = k + b + 1 by omega]
    exact .head s (ih g)
theorem StepsN.steps {a : Nat} {L M : List Cow} (h : StepsN a L M) : Steps L M := by
  induction h with
  | refl => exact .refl _
  | head s _ ih => exact .head s ih
theorem Steps.count {L M : List Cow} (h : Steps L M) : ∃ k, StepsN k L M := by
  induction h with
  | refl => exact ⟨0, .refl _⟩
  | head s _ ih =>
    obtain ⟨k, g⟩ := ih
    exact ⟨k + 1, .head s g⟩
theorem StepsN.under {a : Nat} {L M : List Cow} (pre post : List Cow) (h : StepsN a L M) : StepsN a (pre ++ L ++ post) (pre ++ M ++ post) := by
  induction h with
  | refl => exact .refl _
  | head s _ ih => exact .head (s.under pre post) ih
theorem StepsN.map {a : Nat} {L M : List Cow} (f : Nat → Nat) (h : StepsN a L M) : StepsN a (rlL f L) (rlL f M) := by
  induction h with
  | refl => exact .refl _
  | head s _ ih => exact .head (s.map f) ih
theorem StepsN.run {a : Nat} {L0 L M : List Cow} (h : StepsN a L M) : ∀ {ps : List (Int × Int)}, PRun L0 L ps → ∃ qs, PRun L0 M qs ∧ qs.length = ps.length + a := by
  induction h with
  | refl => exact fun r => ⟨_, r, rfl⟩
  | head s _ ih =>
    intro ps r
    obtain ⟨pre, post, x, y, rfl, hp, rfl⟩ := s
    obtain ⟨qs, g1, g2⟩ := ih (r.step hp)
    refine ⟨qs, g1, ?_⟩
    rw [g2, List.length_append]
    show ps.length + 1 + _ = _
    omega
theorem StepsN.tab {a : Nat} {rs : HH.Row} {L : List Cow} (ht : ∀ b ∈ rs, 0 ≤ b.2) (h : StepsN a (tag 0 rs) L) : (tab (L.map (·.1)) rs.length rs.length).length = a := by
  obtain ⟨qs, r, e⟩ := h.run (PRun.nil)
  obtain ⟨td, _, _⟩ := r.told ht
  have ids := h.steps.ids
  rw [tag_ids] at ids
  rw [← (told_tab td fun x hx => List.mem_range.mp (ids.mem_iff.mp hx)).length_eq, e]
  show 0 + a = a
  omega
theorem tag_rl (k b : Nat) : ∀ rs : HH.Row, tag (b + k) rs = rlL (b + ·) (tag k rs) := by
  intro rs
  refine List.ext_getElem? fun i => ?_
  unfold rlL
  rw [List.getElem?_map, tag_at, tag_at]
  cases rs[i]? with
  | none => rfl
  | some x =>
    show some (b + k + i, x) = some (b + (k + i), x)
    rw [Nat.add_assoc]
end HH
set_option maxHeartbeats 4000000
namespace HH
open PySem PySem.Spec PyProof.Rows L2 Evl RZ
section
variable {X : Cx}
end
section
variable {K : PySem.W.Frag} {σ : L2.St} {H H' : Hp} {ta tb tc te : TE} {x y v : V} {Q : VK}
theorem g_at {i : Nat} {x : V} {k : L2.St → Hp → Prop} (σ' : L2.St) (e : σ.set i (some x) = σ') (h : k σ' H) : gName i x σ H k := by
  show k (σ.set i (some x)) H
  rw [e]
  exact h
end
end HH
set_option maxHeartbeats 4000000
namespace HH
open PySem PySem.Spec PyProof.Rows L2 Evl RZ
abbrev RowsA (K : PySem.W.Frag) (H : Hp) : List V → List HH.Row → Prop := All2 (RowAt K H)
theorem RowsA.ex' {K : PySem.W.Frag} {H H' : Hp} {us : List V} {rr : List HH.Row} (h : RowsA K H us rr) (e : Ex H H') : RowsA K H' us rr := All2.mono (fun _ _ r => r.ex e) h
theorem RowsA.exB' {K : PySem.W.Frag} {H H' : Hp} {us : List V} {rr : List HH.Row} {q : Addr} {ys : List V} (h : RowsA K H us rr) (e : ExB q H H') (hq : H q = some (.lst ys)) : RowsA K H' us rr := All2.mono (fun _ _ r => r.exL e hq) h
section
variable {K : PySem.W.Frag} {σ : L2.St} {H : Hp} {ta tb tc tx : TE} {Q : VK}
end
end HH
set_option maxHeartbeats 4000000
namespace HH
open PySem PySem.Spec PyProof.Rows L2 Evl RZ
section
variable {X : Cx}
end
end HH
set_option maxHeartbeats 4000000
namespace HH
open PySem PySem.Spec PyProof.Rows L2 Evl RZ
end HH
set_option maxHeartbeats 4000000
namespace HH
open PySem PySem.Spec PyProof.Rows L2 Evl RZ
section
variable {K : PySem.W.Frag} {σ : L2.St} {H H' : Hp} {ta tb tc te tl : TE} {x y v : V} {Q : VK} {D : Ends} {tz tu : TS} {g : TG}
end
theorem DeedAt.ex' {K : PySem.W.Frag} {H H' : Hp} {v : V} {d : Deed} (h : DeedAt K H v d) (e : Ex H H') : DeedAt K H' v d := by
  obtain ⟨p, h1, h2⟩ := h
  exact ⟨p, h1, ex_t e h2⟩
section
variable {K : PySem.W.Frag} {σ : L2.St} {H H' : Hp} {ta tb tc te tl : TE} {v : V} {D : Ends}
end
section
variable {K : PySem.W.Frag} {σ : L2.St} {H H' : Hp} {ta tb tc te tl : TE} {v : V} {D : Ends}
end
end HH
set_option maxHeartbeats 4000000
namespace HH
open PySem PySem.Spec PyProof.Rows L2 Evl RZ
theorem tS_nn {rs : HH.Row} (ht : ∀ b ∈ rs, 0 ≤ b.2) {k : Nat} (h : k < rs.length) : 0 ≤ tS rs k := ht (sS rs k, tS rs k) (List.mem_of_getElem? (row_get h))
end HH
set_option maxHeartbeats 4000000
namespace HH
open PySem PySem.Spec PyProof.Rows L2 Evl RZ
def PairT (H : Hp) (v : V) (b : Int × Int) : Prop := ∃ p, v = .ref p ∧ H p = some (.tup [.int b.1, .int b.2])
abbrev BeastsT (H : Hp) : List V → HH.Row → Prop := All2 (PairT H)
theorem PairT.ex {H H' : Hp} {v : V} {b : Int × Int} (h : PairT H v b) (e : Ex H H') : PairT H' v b := by
  obtain ⟨p, rfl, hp⟩ := h
  exact ⟨p, rfl, e _ _ hp⟩
theorem PairT.exB {H H' : Hp} {v : V} {b : Int × Int} {q : Addr} {ys : List V} (h : PairT H v b) (e : ExB q H H') (hq : H q = some (.lst ys)) : PairT H' v b := by
  obtain ⟨p, rfl, hp⟩ := h
  exact ⟨p, rfl, e _ _ (ne_of hp hq fun z => nomatch z) hp⟩
theorem BeastsT.ex' {H H' : Hp} {us : List V} {ps : HH.Row} (h : BeastsT H us ps) (e : Ex H H') : BeastsT H' us ps := All2.mono (fun _ _ r => r.ex e) h
theorem BeastsT.exB' {H H' : Hp} {us : List V} {ps : HH.Row} {q : Addr} {ys : List V} (h : BeastsT H us ps) (e : ExB q H H') (hq : H q = some (.lst ys)) : BeastsT H' us ps := All2.mono (fun _ _ r => r.exB e hq) h
theorem BeastsT.be {K : PySem.W.Frag} {H : Hp} : ∀ {us : List V} {ps : HH.Row}, BeastsT H us ps → Beasts K H us ps
  | _, _, .nil => Beasts.nil
  | _, _, .cons a b => by
    obtain ⟨p, rfl, hp⟩ := a
    exact Beasts.app (vs := [_]) (rs := [_]) (Beasts.one ⟨p, rfl, st_of hp⟩) (BeastsT.be b)
theorem BeastsT.at' {H : Hp} {us : List V} {ps : HH.Row} (h : BeastsT H us ps) {k : Nat} {x : V} (hx : us[k]? = some x) : ∃ b, ps[k]? = some b ∧ PairT H x b := h.get hx
def keyP (b : Int × Int) : List Key := [.inl b.1, .inl b.2]
structure PairsD (kvs : List (List Key × V)) (ps : HH.Row) : Prop where
  has : ∀ b : Int × Int, (valV kvs (keyP b)).isSome = decide (b ∈ ps)
  few : kvs.length ≤ ps.length
theorem PairsD.nil : PairsD [] [] := ⟨fun b => by rw [valV_nil]; simp, Nat.le_refl _⟩
section
variable {K : PySem.W.Frag} {σ : L2.St} {H : Hp} {ta tb te : TE} {Q : VK}
end
section
variable {K : PySem.W.Frag} {σ : L2.St} {H : Hp} {ta : TE} {v : V} {E : XK}
end
theorem q_run {te : TE} {i : Nat} {tz : TS} {D : Ends} {σ : L2.St} {H : Hp} (h : te σ H fun x H1 => tz D (σ.set i (some x)) H1) : tSeq (tAsg te (gName i)) tz D σ H := h
end HH
set_option maxHeartbeats 4000000
namespace HH
open PySem PySem.Spec PyProof.Rows L2 Evl RZ
def tabPR (p : Nat → Nat → Bool) (i m : Nat) : HH.Row := ((List.range m).filter (p i)).map fun k => ((i : Int), ((i + 1 + k : Nat) : Int))
def tabP (p : Nat → Nat → Bool) (n m : Nat) : HH.Row := (List.range m).flatMap fun i => tabPR p i (n - (i + 1))
end HH
set_option maxHeartbeats 4000000
namespace HH
open PySem PySem.Spec PyProof.Rows L2 Evl RZ
abbrev PrT := Hp → V → Int × Int → Prop
structure Stb (R : PrT) : Prop where
  ex : ∀ {H H' : Hp} {x : V} {b : Int × Int}, Ex H H' → R H x b → R H' x b
  ls : ∀ {H : Hp} {D : Addr} {xs ys : List V} {x : V} {b : Int × Int}, H D = some (.lst xs) → R H x b → R (upd H D (.lst ys)) x b
theorem stb_T : Stb PairT := ⟨fun e h => h.ex e, fun hD h => h.exB (ExB.refl _ _).upd hD⟩
theorem Stb.all {R : PrT} (s : Stb R) {H H' : Hp} (e : Ex H H') {us : List V} {ps : HH.Row} (h : All2 (R H) us ps) : All2 (R H') us ps := All2.mono (fun _ _ r => s.ex e r) h
theorem Stb.allL {R : PrT} (s : Stb R) {H : Hp} {D : Addr} {xs ys : List V} (hD : H D = some (.lst xs)) {us : List V} {ps : HH.Row} (h : All2 (R H) us ps) : All2 (R (upd H D (.lst ys))) us ps := All2.mono (fun _ _ r => s.ls hD r) h
section
variable {K : PySem.W.Frag} {σ : L2.St} {H : Hp} {ta tb te : TE} {t : TT} {R : PrT}
def EvPr (R : PrT) (te : TE) (σ : L2.St) (H : Hp) (ps : HH.Row) : Prop := ∀ H1, Ex H H1 → ∀ Q : VK, (∀ (q : Addr) (us : List V) (H2 : Hp), H1 q = none → Ex H1 H2 → H2 q = some (.lst us) → All2 (R H2) us ps → Q (.ref q) H2) → te σ H1 Q
end
end HH
set_option maxHeartbeats 4000000
namespace HH
open PySem PySem.Spec PyProof.Rows L2 Evl RZ
def putR (rs : HH.Row) (w : Nat) (b : Int × Int) : HH.Row := rs.take w ++ [b] ++ rs.drop (w + 1)
def fedR (rs : HH.Row) (w : Nat) (d : Int) : HH.Row := putR rs w (sS rs w + d, tS rs w)
theorem tS_nn2 {rs : HH.Row} (ht : ∀ b ∈ rs, 0 ≤ b.2) (k : Nat) : 0 ≤ tS rs k := by
  by_cases h : k < rs.length
  · exact tS_nn ht h
  · unfold tS
    rw [List.getElem?_eq_none (by omega)]
    exact Int.le_refl 0
section
variable {K : PySem.W.Frag} {σ : L2.St} {H : Hp} {ta tb te te2 : TE} {t : TT} {R : PrT} {v : V}
end
end HH
set_option maxHeartbeats 4000000
namespace HH
open PySem PySem.Spec PyProof.Rows L2 Evl RZ
section
variable {K : PySem.W.Frag} {σ : L2.St} {H : Hp} {v : V}
end
end HH
set_option maxHeartbeats 4000000
namespace HH
open PySem PySem.Spec PyProof.Rows L2 Evl RZ
def aheadP (rs : HH.Row) (w j : Nat) : Bool := if j < w then !decide (barN rs j (w - j - 1) < sS rs w) else if w < j then decide (barN rs w (j - w - 1) < sS rs j) else false
def placeN (rs : HH.Row) (w : Nat) : Nat := (List.range rs.length).countP (aheadP rs w)
theorem bar_low {rs : HH.Row} (ht : ∀ b ∈ rs, 0 ≤ b.2) {i : Nat} : ∀ m, sS rs i + tS rs i ≤ barN rs i m
  | 0 => Int.le_refl _
  | m + 1 => by
    have ih := bar_low ht (i := i) m
    have t0 := tS_nn2 ht (i + 1 + m)
    by_cases c : sS rs (i + 1 + m) ≤ barN rs i m
    · rw [barN_yes c]
      omega
    · rw [barN_no c]
      exact ih
structure LeastF (rs : HH.Row) (w k : Nat) (F : Int) : Prop where
  nn : 0 ≤ F
  at' : placeN (fedR rs w F) w ≤ k
  no : ∀ f, 0 ≤ f → f < F → k < placeN (fedR rs w f) w
theorem LeastF.one {rs : HH.Row} {w k : Nat} {F G : Int} (a : LeastF rs w k F) (b : LeastF rs w k G) : F = G := by
  rcases Int.lt_trichotomy F G with h | h | h
  · have := b.no F a.nn h
    have := a.at'
    omega
  · exact h
  · have := a.no G b.nn h
    have := b.at'
    omega
end HH
set_option maxHeartbeats 4000000
namespace HH
open PySem PySem.Spec PyProof.Rows L2 Evl RZ
def CowAt (H : Hp) (v : V) (c : Cow) : Prop := ∃ p, v = .ref p ∧ H p = some (.tup [.int (c.1 : Int), .int c.2.1, .int c.2.2])
theorem CowAt.ex {H H' : Hp} {v : V} {c : Cow} (h : CowAt H v c) (e : Ex H H') : CowAt H' v c := by
  obtain ⟨p, rfl, hp⟩ := h
  exact ⟨p, rfl, e _ _ hp⟩
theorem CowAt.ls {H : Hp} {v : V} {c : Cow} {D : Addr} {xs ys : List V} (h : CowAt H v c) (hD : H D = some (.lst xs)) : CowAt (upd H D (.lst ys)) v c := by
  obtain ⟨p, rfl, hp⟩ := h
  refine ⟨p, rfl, ?_⟩
  rw [upd_ne (ne_of hp hD fun z => nomatch z)]
  exact hp
theorem All2.split {α : Type} {R : V → α → Prop} : ∀ {A B : List α} {us : List V}, All2 R us (A ++ B) → ∃ u1 u2, us = u1 ++ u2 ∧ All2 R u1 A ∧ All2 R u2 B
  | [], B, us, h => ⟨[], us, rfl, .nil, h⟩
  | a :: A, B, _, .cons r h => by
    obtain ⟨u1, u2, rfl, h1, h2⟩ := All2.split (A := A) h
    exact ⟨_ :: u1, u2, rfl, .cons r h1, h2⟩
section
variable {K : PySem.W.Frag} {σ : L2.St} {H : Hp} {tl : TE} {D : Ends} {tz tu : TS} {g : TG}
theorem q_forEvT {xs : List V} {c : Addr} (h : Ev tl σ H (.ref c)) (hx : SqT K H c xs) (Pv : Nat → L2.St → Hp → Prop) (h0 : ∀ H1, Ex H H1 → Pv 0 σ H1) (hl : ∀ i σ' H', i ≤ xs.length → Pv i σ' H' → SqT K H' c xs)
    (hs : ∀ i x σ' H' T, xs[i]? = some x → Pv i σ' H' → H' T = none → g (.ref T) σ' (upd H' T (.tup [.int (i : Nat), x])) fun σ2 H2 => tu { D with nx := Pv (i + 1), ct := Pv (i + 1), bk := tz D } σ2 H2) (hd : ∀ σ' H', Pv xs.length σ' H' → tz D σ' H') : tSeq (tFor (iEnumT K (tCons tl tNil)) g tu) tz D σ H :=
  h H (Ex.refl H) _ fun H1 e => ⟨c, xs, rfl, ex_t e hx, for_it (walk_enumT (xs := xs)) (D := { D with nx := tz D }) Pv (h0 H1 e) hl (fun i x σ' H' H2 hi p y => by
    obtain ⟨T, u, z, rfl, nT, rfl, hu, hz⟩ := y
    cases hu
    exact hs i z σ' H' T hz p nT) hd⟩
end
section
variable {K : PySem.W.Frag} {σ : L2.St} {H : Hp} {te te2 : TE} {t : TT} {v : V}
end
end HH
set_option maxHeartbeats 4000000
namespace HH
open PySem PySem.Spec PyProof.Rows L2 Evl RZ
theorem EndAt.ne {K : PySem.W.Frag} {H H' : Hp} {p q ot lp : Addr} {v' : V} {pvs : List V} {L : List Cow} {ps : HH.Row} {n : Nat} (E : EndAt K H H' p q v' ot lp pvs L ps n) : lp ≠ p := fun z => by
  have a := E.lst
  have c := E.prs
  obtain ⟨x, y, z', e, _⟩ := E.bx
  rw [z, e] at a
  cases a
  match ps, c with
  | [], c => exact absurd c.1 (by simp)
  | b0 :: _, c =>
    obtain ⟨u, hu, pp, rfl, _⟩ := c.2 0 b0 rfl
    cases hu
end HH
set_option maxHeartbeats 4000000
namespace HH
open PySem PySem.Spec PyProof.Rows L2 Evl RZ
section
variable {K : PySem.W.Frag} {σ : L2.St} {H : Hp} {ta : TE} {E : XK} {v : V}
end
end HH
set_option maxHeartbeats 4000000
namespace HH
open PySem PySem.Spec PyProof.Rows L2 Evl RZ
end HH
set_option maxHeartbeats 4000000
namespace HH
open PySem PySem.Spec PyProof.Rows L2 Evl RZ
def Lk (a e : HH.Row) : Prop := ∃ M, Steps (tag 0 a) M ∧ rowsOf M = e
theorem Lk.rfl' (a : HH.Row) : Lk a a := ⟨tag 0 a, .refl _, tag_snd 0 a⟩
theorem Lk.trans {a b c : HH.Row} (h : Lk a b) (g : Lk b c) : Lk a c := by
  obtain ⟨M, s, rfl⟩ := h
  obtain ⟨N, t, rfl⟩ := g
  have t' := t.map (HH.ixN (M.map (·.1)))
  rw [rl_tag] at t'
  exact ⟨_, s.trans t', rl_rows _ _⟩
theorem rowsOf_app (L M : List Cow) : rowsOf (L ++ M) = rowsOf L ++ rowsOf M := List.map_append
theorem Lk.under {a e : HH.Row} (p q : HH.Row) (h : Lk a e) : Lk (p ++ a ++ q) (p ++ e ++ q) := by
  obtain ⟨M, s, rfl⟩ := h
  have s1 := (s.map (p.length + ·)).under (tag 0 p) (tag (p.length + a.length) q)
  rw [← tag_rl 0 p.length, Nat.add_zero] at s1
  refine ⟨tag 0 p ++ rlL (p.length + ·) M ++ tag (p.length + a.length) q, ?_, ?_⟩
  · rw [tag_app, tag_app, Nat.zero_add, Nat.zero_add, List.length_append]
    exact s1
  · rw [rowsOf_app, rowsOf_app, rl_rows, show rowsOf (tag 0 p) = p from tag_snd 0 p, show rowsOf (tag (p.length + a.length) q) = q from tag_snd _ q]
theorem Lk.app {a e b f : HH.Row} (h : Lk a e) (g : Lk b f) : Lk (a ++ b) (e ++ f) := by
  have h1 := h.under [] b
  have g1 := g.under e []
  rw [List.nil_append, List.nil_append] at h1
  rw [List.append_nil, List.append_nil] at g1
  exact h1.trans g1
theorem Lk.tl {a e : HH.Row} (h : Lk a e) (ht : ∀ b ∈ a, 0 ≤ b.2) : ∀ b ∈ e, 0 ≤ b.2 := by
  obtain ⟨M, s, rfl⟩ := h
  exact tolls_rows (s.tl (good_tag ht).tl)
def EndR (a e : HH.Row) : Prop := ∃ L, Steps (tag 0 a) L ∧ Nf L ∧ rowsOf L = e
theorem EndR.lk {a e : HH.Row} (h : EndR a e) : Lk a e := by
  obtain ⟨L, s, _, r⟩ := h
  exact ⟨L, s, r⟩
theorem EndR.one {a e f : HH.Row} (ht : ∀ b ∈ a, 0 ≤ b.2) (h : EndR a e) (g : EndR a f) : e = f := by
  obtain ⟨L, s, n, rfl⟩ := h
  obtain ⟨M, t, m, rfl⟩ := g
  rw [nf_any (good_tag ht).tl s n t m]
theorem EndR.is {a : HH.Row} (ht : ∀ b ∈ a, 0 ≤ b.2) : ∃ e, EndR a e := by
  obtain ⟨N, s, n⟩ := nf_is (good_tag ht).tl
  exact ⟨_, N, s, n, rfl⟩
theorem EndR.back {a b e : HH.Row} (h : Lk a b) (g : EndR b e) : EndR a e := by
  obtain ⟨M, s, rfl⟩ := h
  obtain ⟨N, t, n, rfl⟩ := g
  have t' := t.map (HH.ixN (M.map (·.1)))
  rw [rl_tag] at t'
  exact ⟨_, s.trans t', nf_map n, rl_rows _ _⟩
def Jn (a b : HH.Row) : Prop := ∃ e, Lk a e ∧ Lk b e
theorem Jn.same (a : HH.Row) : Jn a a := ⟨a, Lk.rfl' a, Lk.rfl' a⟩
theorem Jn.to {a e : HH.Row} (h : Lk a e) : Jn a e := ⟨e, h, Lk.rfl' e⟩
theorem Jn.of {a e : HH.Row} (h : Lk e a) : Jn a e := ⟨a, Lk.rfl' a, h⟩
theorem Jn.app {a b c d : HH.Row} (h : Jn a b) (g : Jn c d) : Jn (a ++ c) (b ++ d) := by
  obtain ⟨e, h1, h2⟩ := h
  obtain ⟨f, g1, g2⟩ := g
  exact ⟨e ++ f, h1.app g1, h2.app g2⟩
inductive Jns : List HH.Row → List HH.Row → Prop
  | nil : Jns [] []
  | cons {a b : HH.Row} {rr ss : List HH.Row} : Jn a b → Jns rr ss → Jns (a :: rr) (b :: ss)
theorem Jns.len {rr ss : List HH.Row} (h : Jns rr ss) : rr.length = ss.length := by
  induction h with
  | nil => rfl
  | cons _ _ ih => rw [List.length_cons, List.length_cons, ih]
theorem Jns.of : ∀ {rr ss : List HH.Row}, rr.length = ss.length → (∀ (i : Nat) (a b : HH.Row), rr[i]? = some a → ss[i]? = some b → Jn a b) → Jns rr ss
  | [], [], _, _ => .nil
  | a :: rr, b :: ss, hl, h => .cons (h 0 a b rfl rfl) (Jns.of (by simpa using hl) fun i x y hx hy => h (i + 1) x y hx hy)
theorem Jn.flat : ∀ {rr ss : List HH.Row}, Jns rr ss → Jn rr.flatten ss.flatten
  | _, _, .nil => Jn.same []
  | _, _, .cons h t => by
    rw [List.flatten_cons, List.flatten_cons]
    exact h.app (Jn.flat t)
theorem Jn.ends {a b x y : HH.Row} (ht : ∀ c ∈ a, 0 ≤ c.2) (hu : ∀ c ∈ b, 0 ≤ c.2) (h : Jn a b) (hx : EndR a x) (hy : EndR b y) : y = x := by
  obtain ⟨e, h1, h2⟩ := h
  obtain ⟨z, hz⟩ := EndR.is (h1.tl ht)
  rw [EndR.one ht hx (hz.back h1), EndR.one hu hy (hz.back h2)]
def JnC (L M : List Cow) : Prop := ∃ N, Steps L N ∧ Steps M N
end HH
set_option maxHeartbeats 4000000
namespace HH
open PySem PySem.Spec PyProof.Rows L2 Evl RZ
structure Moved (K : PySem.W.Frag) (H : Hp) (q : Addr) (rs : HH.Row) (L : List Cow) : Prop where
  at_ : LastAt K H q L
  jn : JnC (tag 0 rs) L
  ids : (L.map (·.1)).Perm (List.range rs.length)
  tl : ∀ x ∈ L, 0 ≤ x.2.2
theorem Moved.ex {K : PySem.W.Frag} {H H' : Hp} {q : Addr} {rs : HH.Row} {L : List Cow} (h : Moved K H q rs L) (e : Ex H H') : Moved K H' q rs L := ⟨h.at_.mono e, h.jn, h.ids, h.tl⟩
end HH
set_option maxHeartbeats 4000000
namespace HH
open PySem PySem.Spec PyProof.Rows L2 Evl RZ
end HH
set_option maxHeartbeats 4000000
namespace HH
open PySem PySem.Spec PyProof.Rows L2 Evl RZ
section
variable {K : PySem.W.Frag} {σ : L2.St} {H H' : Hp} {ta tb te : TE} {v : V}
end
structure TabAt (K : PySem.W.Frag) (H : Hp) (t : Addr) (ll : List (List Nat)) : Prop where
  ex : ∃ (us : List V), SqL K H t us ∧ us.length = ll.length ∧ ∀ (i : Nat) (l : List Nat), ll[i]? = some l → ∃ p, us[i]? = some (.ref p) ∧ SqL K H p (natsV l)
theorem TabAt.mono {K : PySem.W.Frag} {H H' : Hp} {t : Addr} {ll : List (List Nat)} (h : TabAt K H t ll) (e : Ex H H') : TabAt K H' t ll := by
  obtain ⟨us, h1, h2, h3⟩ := h.ex
  exact ⟨us, ex_l e h1, h2, fun i l hl => by
    obtain ⟨p, g1, g2⟩ := h3 i l hl
    exact ⟨p, g1, ex_l e g2⟩⟩
theorem TabAt.of {K : PySem.W.Frag} {H0 H : Hp} {t : Addr} {us : List V} {ll : List (List Nat)} (h : SqL K H t us) (f : ListsF H0 H us ll) : TabAt K H t ll := ⟨us, h, f.len, fun i l hl => by
  obtain ⟨p, g1, _, g3⟩ := f.at' i l hl
  exact ⟨p, g1, sq_of g3⟩⟩
section
variable {K : PySem.W.Frag} {σ : L2.St} {H H' : Hp} {ta tb te : TE} {v : V}
theorem TabAt.row {t : Addr} {ll : List (List Nat)} {i : Nat} {l : List Nat} (h : TabAt K H t ll) (hl : ll[i]? = some l) (h1 : Ev ta σ H (.ref t)) (h2 : Ev tb σ H (.int (i : Int))) : ∃ p, Ev (tOp (rIxL K) ta tb) σ H (.ref p) ∧ SqL K H p (natsV l) := by
  obtain ⟨us, g1, g2, g3⟩ := h.ex
  obtain ⟨p, q1, q2⟩ := g3 i l hl
  exact ⟨p, ev_op h1 h2 (rv_ixL (K := K) g1 (atI_nat q1)), q2⟩
end
end HH
set_option maxHeartbeats 4000000
namespace HH
open PySem PySem.Spec PyProof.Rows L2 Evl RZ
structure HasX (P : Program) (w : World) (K : PySem.W.Frag) (mg : Str → Option Value) (base : Heap) (k : Nat) (x : Str) (ps : List Str) (sp : Sp) (f : Addr) (fd : FuncData) : Prop where
  G : FnOk P w K mg base (L2.CX P w) k f fd ps sp
  g : mg x = some (.ref f)
  kp : PySem.W.keepIn K (.ref f) = true
  b : Binds K fd ps []
structure HasE (P : Program) (w : World) (K : PySem.W.Frag) (mg : Str → Option Value) (base : Heap) (bk : Bk) (x f : Str) (C fI : Addr) (fd : FuncData) : Prop where
  T : ExcTy K bk f C fI
  F : FnOk P w K mg base CX0 1 fI fd ["self", f] (spIni C f)
  b : Binds K fd ["self", f] []
  g : mg x = some (.ref C)
theorem Has.imp {P : Program} {w : World} {K : PySem.W.Frag} {mg : Str → Option Value} {base : Heap} {k : Nat} {x : Str} {ps : List Str} {sp sp' : Sp} {f : Addr} {fd : FuncData} (h : Has P w K mg base k x ps sp f fd) (i : ∀ vs H Q E, sp' vs H Q E → sp vs H Q E) : Has P w K mg base k x ps sp' f fd := ⟨h.G.imp i, h.g, h.kp, h.b⟩
section
variable {K : PySem.W.Frag} {σ : L2.St} {H : Hp} {ta : TA} {te : TE} {C a d : Addr} {fs : List (Str × V)}
end
end HH
set_option maxHeartbeats 4000000
namespace HH
open PySem PySem.Spec PyProof.Rows L2 Evl RZ
end HH
set_option maxHeartbeats 4000000
namespace HH
open PySem PySem.Spec PyProof.Rows L2 Evl RZ
end HH
set_option maxHeartbeats 4000000
namespace HH
open PySem PySem.Spec PyProof.Rows L2 Evl RZ
def Shw (n : Nat) (d : PyData) : Prop := d.showable = true ∧ d.shown.length ≤ n
theorem Shw.le {n m : Nat} {d : PyData} (h : Shw n d) (e : n ≤ m) : Shw m d := ⟨h.1, Nat.le_trans h.2 e⟩
end HH
set_option maxHeartbeats 4000000
namespace HH
open PySem PySem.Spec PyProof.Rows L2 Evl
def ZipA (H : Hp) (us : List V) (ps : List (V × V)) : Prop := All2 (fun u p => ∃ T, u = .ref T ∧ H T = some (.tup [p.1, p.2])) us ps
theorem ZipA.ex {H H' : Hp} {us : List V} {ps : List (V × V)} (h : ZipA H us ps) (e : Ex H H') : ZipA H' us ps := All2.mono (fun _ _ ⟨T, a, b⟩ => ⟨T, a, e _ _ b⟩) h
def ZS (h : Heap) (H : Hp) (z TI TO i1 i2 a b : Addr) (i : Nat) : Prop := IsPair h TI (.ref i1) (.ref i2) ∧ h.IsListIter i1 a i ∧ h.IsListIter i2 b i ∧
  ((IsZip h z TI TO .none ∧ ∃ x y, IsPair h TO x y) ∨ ∃ (T : Addr) (f : Bool) (p q : V), IsZipHeld h z TI TO T f ∧ H T = some (.tup [p, q]) ∧ ∃ o, h.get? TO = some o)
section
variable {X : Cx} {pins : List (Addr × Obj)} {σ : L2.St} {H H0 : Hp} {s : Shared} {z TI TO i1 i2 a b q : Addr} {xs ys : List V} {A A1 : Around} {E : Value → Shared → Prop}
abbrev FpL (X : Cx) (pins : List (Addr × Obj)) (H : Hp) (l : List Addr) : Prop := ∀ c ∈ l, FpOk X pins H c
theorem FpL.up {l : List Addr} {T : Addr} {o : HO} (h : FpL X pins H l) (ne : ∀ c ∈ l, c ≠ T) : FpL X pins (upd H T o) l := fun c hc => by
  obtain ⟨f0, f1⟩ := h c hc
  exact ⟨by rw [upd_ne (ne c hc)]; exact f0, f1⟩
theorem ZS.type {i : Nat} (h : ZS s.heap H z TI TO i1 i2 a b i) : s.TypeIs (.ref z) "zip" := by
  obtain ⟨_, _, _, h | h⟩ := h
  · exact ⟨_, h.1, rfl⟩
  · obtain ⟨_, _, _, _, h, _⟩ := h
    exact ⟨_, h, rfl⟩
theorem ZS.keep {h h' : Heap} {H' : Hp} {i : Nat} (st : ZS h H z TI TO i1 i2 a b i) (k : ∀ c ∈ [z, TI, TO, i1, i2], ∀ o, h.get? c = some o → h'.get? c = some o) (kH : ∀ T p q, H T = some (.tup [p, q]) → H' T = some (.tup [p, q])) : ZS h' H' z TI TO i1 i2 a b i := by
  obtain ⟨t, a1, a2, g⟩ := st
  refine ⟨k TI (by simp) _ t, a1.at fun o e => k i1 (by simp) o e, a2.at fun o e => k i2 (by simp) o e, ?_⟩
  rcases g with ⟨g1, x, y, g2⟩ | ⟨T, f, p, q, g1, g2, o, g3⟩
  · exact .inl ⟨k z (by simp) _ g1, x, y, k TO (by simp) _ g2⟩
  · exact .inr ⟨T, f, p, q, k z (by simp) _ g1, kH _ _ _ g2, o, k TO (by simp) _ g3⟩
end
end HH
set_option maxHeartbeats 4000000
namespace HH
open PySem PySem.Spec PyProof.Rows L2 Evl
structure Went (K : PySem.W.Frag) (H : Hp) (v : V) (o : Addr) (rs : HH.Row) (L : List Cow) : Prop where
  row : RowAt K H v rs
  len : rs.length ≤ 30
  tl : ∀ b ∈ rs, 0 ≤ b.2
  ord : SqT K H o (natsV (L.map (·.1)))
  run : ∃ ds, MRun (tag 0 rs) L ds
theorem Went.ex {K : PySem.W.Frag} {H H' : Hp} {v : V} {o : Addr} {rs : HH.Row} {L : List Cow} (h : Went K H v o rs L) (e : Ex H H') : Went K H' v o rs L := ⟨h.row.ex e, h.len, h.tl, ex_t e h.ord, h.run⟩
theorem run_ids {rs : HH.Row} {L : List Cow} {ds : List Deed} (tl : ∀ b ∈ rs, 0 ≤ b.2) (r : MRun (tag 0 rs) L ds) : (L.map (·.1)).Perm (List.range rs.length) := by
  obtain ⟨E, sE, nE⟩ := nf_is (good_tag tl).tl
  obtain ⟨B, sB, nB⟩ := ff_is (good_tag tl).tl
  exact ((r.both (good_tag tl).tl sE nE sB nB).2.1).ids.symm.trans sE.idsT
theorem Went.ids {K : PySem.W.Frag} {H : Hp} {v : V} {o : Addr} {rs : HH.Row} {L : List Cow} (h : Went K H v o rs L) : (L.map (·.1)).Perm (List.range rs.length) := by
  obtain ⟨ds, r⟩ := h.run
  exact run_ids h.tl r
theorem Went.nd {K : PySem.W.Frag} {H : Hp} {v : V} {o : Addr} {rs : HH.Row} {L : List Cow} (h : Went K H v o rs L) : (L.map (·.1)).Nodup := h.ids.nodup_iff.mpr List.nodup_range
theorem Went.lenL {K : PySem.W.Frag} {H : Hp} {v : V} {o : Addr} {rs : HH.Row} {L : List Cow} (h : Went K H v o rs L) : (L.map (·.1)).length = rs.length := by rw [h.ids.length_eq, List.length_range]
theorem Went.all {K : PySem.W.Frag} {H : Hp} {v : V} {o : Addr} {rs : HH.Row} {L : List Cow} (h : Went K H v o rs L) (x : Nat) (hx : x < (L.map (·.1)).length) : x ∈ L.map (·.1) := h.ids.mem_iff.mpr (List.mem_range.mpr (by rw [← h.lenL]; exact hx))
end HH
set_option maxHeartbeats 4000000
namespace HH
open PySem PySem.Spec PyProof.Rows L2 Evl
section
variable {e : List Nat} {rs ps : HH.Row} {i j n : Nat}
end
end HH
set_option maxHeartbeats 4000000
namespace HH
open PySem PySem.Spec PyProof.Rows L2 Evl
structure Keeps (rs : HH.Row) (o : List Nat) : Prop where
  ids : o.Perm (List.range rs.length)
  kp : ∀ E B, Steps (tag 0 rs) E → Nf E → FSteps (tag 0 rs) B → Ff B → ∀ i j, i < j → j < rs.length → bef (E.map (·.1)) j i = false → bef (B.map (·.1)) j i = false → bef o j i = false
theorem Keeps.nd {rs : HH.Row} {o : List Nat} (k : Keeps rs o) : o.Nodup := k.ids.nodup_iff.mpr List.nodup_range
theorem Keeps.len {rs : HH.Row} {o : List Nat} (k : Keeps rs o) : o.length = rs.length := by rw [k.ids.length_eq, List.length_range]
end HH
set_option maxHeartbeats 4000000
namespace HH
open PySem PySem.Spec PyProof.Rows L2 Evl
structure CellP (H0 H : Hp) (as : List Addr) (t p : Nat → Int) : Prop where
  nd : as.Nodup
  old : ∀ a ∈ as, H0 a = none
  at' : ∀ (i : Nat) (a : Addr), as[i]? = some a → H a = some (.lst [.int (t i), .int (p i)])
theorem CellP.ex {H0 H H' : Hp} {as : List Addr} {t p : Nat → Int} (h : CellP H0 H as t p) (e : Ex H H') : CellP H0 H' as t p := ⟨h.nd, h.old, fun i a ha => e _ _ (h.at' i a ha)⟩
theorem CellP.app {H0 H : Hp} {as : List Addr} {T : Addr} (h : CellP H0 H as (fun _ => 0) (fun _ => 0)) (h0 : H0 T = none) (hT : H T = none) : CellP H0 (upd H T (.lst [.int 0, .int 0])) (as ++ [T]) (fun _ => 0) (fun _ => 0) := by
  have nT : T ∉ as := fun m => by
    obtain ⟨i, hi⟩ := List.getElem?_of_mem m
    rw [h.at' i T hi] at hT
    cases hT
  refine ⟨List.nodup_append.mpr ⟨h.nd, by simp, fun x hx y hy e => nT (by rw [List.mem_singleton] at hy; rw [← hy, ← e]; exact hx)⟩, fun a ha => ?_, fun i a ha => ?_⟩
  · rcases List.mem_append.mp ha with m | m
    · exact h.old a m
    · rw [List.mem_singleton.mp m]
      exact h0
  · by_cases c : i < as.length
    · rw [List.getElem?_append_left c] at ha
      rw [upd_ne (fun z => nT (by rw [← z]; exact List.mem_of_getElem? ha))]
      exact h.at' i a ha
    · have hlt : i < (as ++ [T]).length := (List.getElem?_eq_some_iff.mp ha).1
      rw [List.length_append] at hlt
      have hlt : i < as.length + 1 := hlt
      have e : i = as.length := by omega
      rw [e, List.getElem?_append_right (Nat.le_refl _), Nat.sub_self] at ha
      cases ha
      exact upd_same
theorem CellP.ne {H0 H : Hp} {as : List Addr} {t p : Nat → Int} (h : CellP H0 H as t p) {i k : Nat} {a c : Addr} (ha : as[i]? = some a) (hc : as[k]? = some c) (n : k ≠ i) : c ≠ a := fun z => by
  subst z
  have h1 := (List.getElem?_eq_some_iff.mp ha).1
  exact n ((List.getElem?_inj h1 h.nd).mp (ha.trans hc.symm)).symm
section
variable {K : PySem.W.Frag} {σ : L2.St} {H : Hp} {te : TE} {v : V} {Q : VK} {j : Nat} {vs : List Nat}
end
section
variable {K : PySem.W.Frag} {σ : L2.St} {H H0 : Hp} {tf tx tv : TE} {D : Ends} {fa a : Addr} {as : List Addr} {t p : Nat → Int} {i : Nat} {d : Int}
end
end HH
set_option maxHeartbeats 4000000
namespace HH
open PySem PySem.Spec PyProof.Rows L2 Evl
section
variable {e : List Nat} {rs ps : HH.Row} {i j n : Nat}
end
section
variable {K : PySem.W.Frag} {σ : L2.St} {H : Hp} {te t1 t2 : TE} {o : Addr} {l : List Nat} {j : Nat} {vs : List Nat}
end
end HH
set_option maxHeartbeats 4000000
namespace HH
open PySem PySem.Spec PyProof.Rows L2
section
variable {w : World} {P : Program} {s : Shared} {A : Around} {E : Value → Shared → Prop}
end
section
variable {X : Cx}
end
end HH
set_option maxHeartbeats 4000000
namespace HH
open PySem PySem.Spec PyProof.Rows L2 Evl RZ
end HH
set_option maxHeartbeats 4000000
namespace HH
open PySem PySem.Spec PyProof.Rows L2 Evl RZ
structure Cells (H0 H : Hp) (as : List Addr) (ll : Nat → List Nat) : Prop where
  nd : as.Nodup
  old : ∀ a ∈ as, H0 a = none
  at' : ∀ (i : Nat) (a : Addr), as[i]? = some a → H a = some (.lst (natsV (ll i)))
theorem Cells.ex {H0 H H' : Hp} {as : List Addr} {ll : Nat → List Nat} (h : Cells H0 H as ll) (e : Ex H H') : Cells H0 H' as ll := ⟨h.nd, h.old, fun i a ha => e _ _ (h.at' i a ha)⟩
theorem Cells.congr {H0 H : Hp} {as : List Addr} {ll lm : Nat → List Nat} (h : Cells H0 H as ll) (e : ∀ i, i < as.length → lm i = ll i) : Cells H0 H as lm := ⟨h.nd, h.old, fun i a ha => by
  rw [e i (List.getElem?_eq_some_iff.mp ha).1]
  exact h.at' i a ha⟩
theorem Cells.app {H0 H : Hp} {as : List Addr} {p : Addr} (h : Cells H0 H as fun _ => []) (h0 : H0 p = none) (hp : H p = none) : Cells H0 (upd H p (.lst [])) (as ++ [p]) fun _ => [] := by
  have np : p ∉ as := fun z => by
    obtain ⟨i, hi⟩ := List.mem_iff_getElem?.mp z
    have := h.at' i p hi
    rw [hp] at this
    cases this
  refine ⟨?_, fun a ha => ?_, fun i a ha => ?_⟩
  · rw [List.nodup_append]
    exact ⟨h.nd, List.pairwise_singleton _ p, fun a ha b hb e => np (by rw [List.mem_singleton.mp hb] at e; rw [← e]; exact ha)⟩
  · rcases List.mem_append.mp ha with ha | ha
    · exact h.old a ha
    · rw [List.mem_singleton.mp ha]
      exact h0
  · by_cases hi : i < as.length
    · rw [List.getElem?_append_left hi] at ha
      have ne : a ≠ p := fun e => np (by rw [← e]; exact List.mem_of_getElem? ha)
      rw [upd_ne ne]
      exact h.at' i a ha
    · rw [List.getElem?_append_right (by omega)] at ha
      match e : i - as.length, ha with
      | 0, ha =>
        cases ha
        exact upd_same
      | k + 1, ha => cases ha
section
variable {K : PySem.W.Frag} {σ : L2.St} {H : Hp} {D : Ends} {tz tu : TS}
end
end HH
set_option maxHeartbeats 4000000
namespace HH
open PySem PySem.Spec PyProof.Rows L2 Evl RZ
structure WantsD (rs : HH.Row) (who m : Nat) (kvs : List (Key × V)) : Prop where
  val : ∀ j : Nat, who ≤ j + m → j < who → valV kvs (.inl (j : Int)) = some (.int (barN rs j (who - j - 1) + 1))
  key : ∀ kv ∈ kvs, ∃ j : Nat, kv.1 = .inl (j : Int) ∧ j < who ∧ who ≤ j + m
  len : kvs.length ≤ m
theorem WantsD.nil (rs : HH.Row) (who : Nat) : WantsD rs who 0 [] := ⟨fun j h1 h2 => by omega, (fun kv h => nomatch h), Nat.le_refl _⟩
end HH
set_option maxHeartbeats 4000000
namespace HH
open PySem PySem.Spec PyProof.Rows L2 Evl RZ
section
variable {K : PySem.W.Frag} {σ : L2.St} {H H' : Hp} {ta tb te : TE} {v : V} {Q : VK}
end
end HH
set_option maxHeartbeats 4000000
namespace HH
open PySem PySem.Spec PyProof.Rows L2 Evl RZ
section
variable {K : PySem.W.Frag} {σ : L2.St} {H : Hp} {te ta tb : TE} {t : TT}
end
end HH
namespace HH
open PySem PySem.Spec PyProof.Rows L2 Evl RZ
section
variable {K : PySem.W.Frag} {σ : L2.St} {H : Hp} {te : TE}
end
end HH
namespace HH
open PySem PySem.Spec PyProof.Rows L2 Evl RZ
end HH
namespace HH
open PySem PySem.Spec PyProof.Rows L2 Evl RZ
end HH
set_option maxHeartbeats 4000000
namespace HH
open PySem PySem.Spec PyProof.Rows L2 Evl
end HH
set_option maxHeartbeats 4000000
namespace HH
open PySem PySem.Spec PyProof.Rows Srt SrtO
def IsDeed (h : Heap) (v : Value) (b : Bool) (y : Int) : Prop := ∃ a o t u n, v = .ref a ∧ h.get? a = some o ∧ o.cls = .type "tuple" ∧ o.data = .seq #[.str (wordOf b) t, .int y u] n
theorem IsDeed.keeps {h h' : Heap} {v : Value} {b : Bool} {y : Int} (p : IsDeed h v b y) (k : ∀ b o, h.get? b = some o → o.cls = .type "tuple" → h'.get? b = some o) : IsDeed h' v b y := by
  obtain ⟨a, o, t, u, n, e, ho, hc, hd⟩ := p
  exact ⟨a, o, t, u, n, e, k _ _ ho hc, hc, hd⟩
section
variable {prog : Program} {w : World} {A : Around} {E : Value → Shared → Prop} {s : Shared}
end
open L2 Evl
open Classical in
section
variable {X : Cx}
end
end HH
set_option maxHeartbeats 4000000
namespace HH
open PySem PySem.Spec PyProof.Rows L2 Evl
end HH
set_option maxHeartbeats 4000000
namespace HH
open PySem PySem.Spec PyProof.Rows L2 Evl
def FrzT (H : Hp) (a : Addr) (xs : List V) : Prop := ∃ o, PlainT o ∧ H a = some (.frz o (.tup xs))
theorem FrzT.ex {H H' : Hp} {a : Addr} {xs : List V} (h : FrzT H a xs) (e : Ex H H') : FrzT H' a xs := by
  obtain ⟨o, h1, h2⟩ := h
  exact ⟨o, h1, e _ _ h2⟩
theorem FrzT.exB {H H' : Hp} {p a : Addr} {xs : List V} {n : Nat} (h : FrzT H a xs) (e : ExB p H H') (hb : Bx H p n) : FrzT H' a xs := by
  obtain ⟨o, h1, h2⟩ := h
  obtain ⟨l, hl⟩ := hb.lst
  refine ⟨o, h1, e _ _ (fun z => ?_) h2⟩
  rw [z, hl] at h2
  cases h2
theorem FrzT.sq {K : PySem.W.Frag} {H : Hp} {a : Addr} {xs : List V} (h : FrzT H a xs) : SqT K H a xs := by
  obtain ⟨o, _, h2⟩ := h
  exact .inl (.inr ⟨o, h2⟩)
section
variable {K : PySem.W.Frag} {σ : L2.St} {H : Hp} {te t1 t2 : TE} {tt : TT} {o : Addr} {l : List Nat} {j : Nat} {vs : List Nat}
end
section
variable {K : PySem.W.Frag} {σ : L2.St} {H : Hp} {te t1 : TE} {o : Addr} {l : List Nat} {j : Nat} {vs : List Nat}
end
end HH
set_option maxHeartbeats 4000000
namespace HH
open PySem PySem.Spec PyProof.Rows L2 Evl
def SqA (K : PySem.W.Frag) (H : Hp) (a : Addr) (xs : List V) : Prop := SqL K H a xs ∨ SqT K H a xs
theorem SqA.ex {K : PySem.W.Frag} {H H' : Hp} {a : Addr} {xs : List V} (h : SqA K H a xs) (e : Ex H H') : SqA K H' a xs := h.imp (ex_l e) (ex_t e)
end HH
namespace L2
open PySem PySem.Spec PyProof.Rows
structure HeldX (P : Program) (w : World) (K : PySem.W.Frag) (mg : Str → Option Value) (base : Heap) (k : Nat) (f : Addr) (sp : Sp) : Prop where
  ex : ∃ (fd : FuncData) (ps : List Str), FnOk P w K mg base (L2.CX P w) k f fd ps sp ∧ PySem.W.keepIn K (.ref f) = true ∧ Binds K fd ps []
section
variable {X : Cx} {k i : Nat} {E : L2.St → XK} {x : Str} {p pos : Pos} {e : Expr} {es : List Expr} {t : TA}
end
end L2
namespace HH
open PySem PySem.Spec PyProof.Rows L2 Evl
abbrev ZD := Bool × Int
def DeedZ (K : PySem.W.Frag) (H : Hp) (v : V) (d : ZD) : Prop := ∃ p, v = .ref p ∧ SqT K H p [.str (wordOf d.1), .int d.2]
theorem DeedZ.ex {K : PySem.W.Frag} {H H' : Hp} {v : V} {d : ZD} (h : DeedZ K H v d) (e : Ex H H') : DeedZ K H' v d := by
  obtain ⟨p, h1, h2⟩ := h
  exact ⟨p, h1, ex_t e h2⟩
abbrev DeedsZ (K : PySem.W.Frag) (H : Hp) : List V → List ZD → Prop := All2 (DeedZ K H)
theorem DeedsZ.ex' {K : PySem.W.Frag} {H H' : Hp} {us : List V} {ds : List ZD} (h : DeedsZ K H us ds) (e : Ex H H') : DeedsZ K H' us ds := All2.mono (fun _ _ r => r.ex e) h
theorem DeedsZ.exB' {K : PySem.W.Frag} {H H' : Hp} {us : List V} {ds : List ZD} {q : Addr} {ys : List V} (e : ExB q H H') (hq : H q = some (.lst ys)) (h : DeedsZ K H us ds) : DeedsZ K H' us ds := All2.mono (fun v d g => by
  obtain ⟨p, h1, h2⟩ := g
  exact ⟨p, h1, e.t hq h2⟩) h
abbrev StZ := HH.Row × List Nat
def Picked (K : PySem.W.Frag) (H : Hp) (pick : Bool) (v : V) (s : StZ) : Prop := if pick then RowAt K H v s.1 else ∃ t, v = .ref t ∧ SqT K H t (natsV s.2)
theorem Picked.ex {K : PySem.W.Frag} {H H' : Hp} {pick : Bool} {v : V} {s : StZ} (h : Picked K H pick v s) (e : Ex H H') : Picked K H' pick v s := by
  unfold Picked at h ⊢
  cases pick with
  | true => exact RowAt.ex h e
  | false =>
    obtain ⟨t, h1, h2⟩ := h
    exact ⟨t, h1, ex_t e h2⟩
end HH
namespace HH
open PySem PySem.Spec PyProof.Rows L2 Evl
section
variable {K : PySem.W.Frag} {σ : L2.St} {H : Hp} {te ta tb tc : TE} {D : Ends}
end
end HH
namespace HH
open PySem PySem.Spec PyProof.Rows L2 Evl
end HH
namespace HH
open PySem PySem.Spec PyProof.Rows L2 Evl
section
variable {K : PySem.W.Frag} {σ : L2.St} {H : Hp} {te to ta tb tc : TE} {D : Ends}
end
end HH
set_option maxHeartbeats 4000000
namespace HH
open PySem PySem.Spec PyProof.Rows L2 Evl RZ
section
variable {K : PySem.W.Frag} {σ : L2.St} {H : Hp} {te ta tb tc td : TE} {D : Ends}
theorem all2_take {α : Type} {R : V → α → Prop} : ∀ {us : List V} {xs : List α} (n : Nat), All2 R us xs → All2 R (us.take n) (xs.take n)
  | _, _, 0, _ => by rw [List.take_zero, List.take_zero]; exact .nil
  | _, _, _ + 1, .nil => .nil
  | _, _, n + 1, .cons a b => .cons a (all2_take n b)
theorem all2_drop {α : Type} {R : V → α → Prop} : ∀ {us : List V} {xs : List α} (n : Nat), All2 R us xs → All2 R (us.drop n) (xs.drop n)
  | _, _, 0, h => h
  | _, _, _ + 1, .nil => .nil
  | _, _, n + 1, .cons a b => all2_drop n b
end
end HH
set_option maxHeartbeats 4000000
namespace HH
open PySem PySem.Spec PyProof.Rows L2 Evl RZ
def DueV (K : PySem.W.Frag) (H : Hp) (y : V) : Nat ⊕ StZ → Prop
  | .inr s => ∃ (q : Addr) (v' : V) (t : Addr), y = .ref q ∧ H q = some (.tup [v', .ref t]) ∧ RowAt K H v' s.1 ∧ SqT K H t (natsV s.2)
  | .inl k => y = .int (k : Int)
def ToldV (K : PySem.W.Frag) (H : Hp) (pick : Bool) (y : V) : Nat ⊕ StZ → Prop
  | .inr s => Picked K H pick y s
  | .inl k => y = .int (k : Int)
theorem ToldV.ex {K : PySem.W.Frag} {H H' : Hp} {pick : Bool} {y : V} {r : Nat ⊕ StZ} (h : ToldV K H pick y r) (e : Ex H H') : ToldV K H' pick y r := by
  cases r with
  | inl k => exact h
  | inr s => exact Picked.ex h e
theorem DueV.ex {K : PySem.W.Frag} {H H' : Hp} {y : V} {r : Nat ⊕ StZ} (h : DueV K H y r) (e : Ex H H') : DueV K H' y r := by
  cases r with
  | inl k => exact h
  | inr s =>
    obtain ⟨q, v', t, h1, h2, h3, h4⟩ := h
    exact ⟨q, v', t, h1, e _ _ h2, h3.ex e, ex_t e h4⟩
section
variable {K : PySem.W.Frag} {σ : L2.St} {H : Hp} {te ta tb tc td : TE} {D : Ends}
end
end HH
namespace HH
open PySem PySem.Spec PyProof.Rows L2 Evl RZ
section
variable {K : PySem.W.Frag} {σ : L2.St} {H : Hp} {te ta tb tc td : TE} {D : Ends}
end
end HH
namespace HH
open PySem PySem.Spec PyProof.Rows L2 Evl RZ
end HH
namespace HH
open PySem PySem.Spec PyProof.Rows L2 Evl RZ
theorem q_par2 {i j : Nat} {ta tb : TE} {tz : TS} {D : Ends} {σ : L2.St} {H : Hp} (h : ta σ H fun x H1 => tb σ H1 fun y H2 => ∃ v w, [x, y] = [v, w] ∧ tz D ((σ.set i (some v)).set j (some w)) H2) : tSeq (tPar i j (tCons ta (tCons tb tNil))) tz D σ H := h
end HH
set_option maxHeartbeats 4000000
namespace HH
open PySem PySem.Spec PyProof.Rows L2 Evl RZ
def StrFit (s : Str) : Prop := PyData.strOk s = true ∧ (reprText s).length ≤ 40
def atomOk (c : Nat) : V → PyData → Prop
  | .non, .none => True
  | .bl b, .bool b' => b = b'
  | .int i, .int i' => i = i' ∧ i.natAbs ≤ 10 ^ 30 + c
  | .str s, .str s' => s = s' ∧ StrFit s
  | _, _ => False
def DaS (R : V → PyData → Prop) (xs : List V) (ds : List PyData) : Prop := xs.length = ds.length ∧ ∀ (i : Nat) (x : V) (e : PyData), xs[i]? = some x → ds[i]? = some e → R x e
def Da (P : Addr → Prop) (K : PySem.W.Frag) (c : Nat) (H : Hp) : Nat → V → PyData → Prop
  | 0, v, d => atomOk c v d
  | k + 1, v, d => atomOk c v d ∨ ∃ (a : Addr) (xs : List V) (ds : List PyData), v = .ref a ∧ ((¬ P a ∧ H a = some (.lst xs) ∧ d = .list ds) ∨ (SqT K H a xs ∧ d = .tuple ds)) ∧ DaS (Da P K c H k) xs ds
section
variable {P : Addr → Prop} {K : PySem.W.Frag} {c : Nat} {H H' : Hp}
theorem Da.ex (e : Ex H H') : ∀ {k : Nat} {v : V} {d : PyData}, Da P K c H k v d → Da P K c H' k v d
  | 0, _, _, h => h
  | k + 1, _, _, .inl h => .inl h
  | k + 1, _, _, .inr ⟨a, xs, ds, h1, h2, h3, h4⟩ => .inr ⟨a, xs, ds, h1, h2.imp (fun ⟨q1, q2, q3⟩ => ⟨q1, e _ _ q2, q3⟩) (fun ⟨q1, q2⟩ => ⟨ex_t e q1, q2⟩), h3, fun i x y hx hy => Da.ex e (h4 i x y hx hy)⟩
theorem Da.exB {p : Addr} {ys : List V} (hP : P p) (e : ExB p H H') (hp : H p = some (.lst ys)) : ∀ {k : Nat} {v : V} {d : PyData}, Da P K c H k v d → Da P K c H' k v d
  | 0, _, _, h => h
  | k + 1, _, _, .inl h => .inl h
  | k + 1, _, _, .inr ⟨a, xs, ds, h1, h2, h3, h4⟩ => .inr ⟨a, xs, ds, h1, h2.imp (fun ⟨q1, q2, q3⟩ => ⟨q1, e _ _ (fun z => q1 (by rw [z]; exact hP)) q2, q3⟩) (fun ⟨q1, q2⟩ => ⟨e.t hp q1, q2⟩), h3, fun i x y hx hy => Da.exB hP e hp (h4 i x y hx hy)⟩
theorem Da.up : ∀ {k : Nat} {v : V} {d : PyData}, Da P K c H k v d → Da P K c H (k + 1) v d
  | 0, _, _, h => .inl h
  | k + 1, _, _, .inl h => .inl h
  | k + 1, _, _, .inr ⟨a, xs, ds, h1, h2, h3, h4⟩ => .inr ⟨a, xs, ds, h1, h2, h3, fun i x y hx hy => Da.up (h4 i x y hx hy)⟩
theorem Da.ups {k : Nat} {v : V} {d : PyData} (h : Da P K c H k v d) : ∀ j, Da P K c H (k + j) v d
  | 0 => h
  | j + 1 => (Da.ups h j).up
theorem Da.to {k k' : Nat} {v : V} {d : PyData} (h : Da P K c H k v d) (e : k ≤ k') : Da P K c H k' v d := by
  have := h.ups (k' - k)
  rw [show k + (k' - k) = k' by omega] at this
  exact this
theorem atomOk.cc {c' : Nat} (e : c ≤ c') {v : V} {d : PyData} (h : atomOk c v d) : atomOk c' v d := by
  unfold atomOk at h
  split at h
  · exact True.intro
  · exact h
  · exact ⟨h.1, by have := h.2; omega⟩
  · exact h
  · exact h.elim
theorem Da.cc {c' : Nat} (e : c ≤ c') : ∀ {k : Nat} {v : V} {d : PyData}, Da P K c H k v d → Da P K c' H k v d
  | 0, _, _, h => atomOk.cc e h
  | k + 1, _, _, .inl h => .inl (atomOk.cc e h)
  | k + 1, _, _, .inr ⟨a, xs, ds, h1, h2, h3, h4⟩ => .inr ⟨a, xs, ds, h1, h2, h3, fun i x y hx hy => Da.cc e (h4 i x y hx hy)⟩
end
mutual
def wtD : PyData → Nat
  | .none => 50
  | .bool _ => 50
  | .int _ => 50
  | .str _ => 50
  | .list xs => 10 + wtDs xs
  | .tuple xs => 10 + wtDs xs
  | .dict _ => 50
def wtDs : List PyData → Nat
  | [] => 0
  | x :: xs => wtD x + 2 + wtDs xs
end
def tyD : PyData → String
  | .none => "NoneType"
  | .bool _ => "bool"
  | .int _ => "int"
  | .str _ => "str"
  | .list _ => "list"
  | .tuple _ => "tuple"
  | .dict _ => "dict"
section
variable {P : Addr → Prop} {K : PySem.W.Frag} {c : Nat} {H H' : Hp}
theorem atomOk.ty {v : V} {d : PyData} (h : atomOk c v d) : TyN K H v (tyD d) := by
  unfold atomOk at h
  split at h
  · exact .non
  · exact .bl _
  · exact .int _
  · exact .str _
  · exact h.elim
theorem Da.ty {k : Nat} {v : V} {d : PyData} (h : Da P K c H k v d) : TyN K H v (tyD d) := by
  cases k with
  | zero => exact atomOk.ty h
  | succ k =>
    rcases h with h | ⟨a, xs, ds, rfl, h2, _⟩
    · exact atomOk.ty h
    · rcases h2 with ⟨_, h2, rfl⟩ | ⟨h2, rfl⟩
      · exact .lst (K := K) (sq_of h2)
      · exact .tup h2
theorem daS_all {R : V → PyData → Prop} (hR : ∀ v d, R v d → Dp K H v d) : ∀ {xs : List V} {ds : List PyData}, DaS R xs ds → DpAll K H xs ds
  | [], [], _ => .nil
  | [], _ :: _, h => by cases h.1
  | _ :: _, [], h => by cases h.1
  | x :: xs, d :: ds, h => .cons (hR _ _ (h.2 0 x d rfl rfl)) (daS_all hR ⟨Nat.succ.inj h.1, fun i y e hy he => h.2 (i + 1) y e hy he⟩)
theorem atomOk.dp {v : V} {d : PyData} (h : atomOk c v d) : Dp K H v d ∧ Nice 0 d := by
  unfold atomOk at h
  split at h
  · exact ⟨.non, by simp [PyData.canLay0], by simp [PyData.depth]⟩
  · subst h
    exact ⟨.bl _, by simp [PyData.canLay0], by simp [PyData.depth]⟩
  · obtain ⟨rfl, _⟩ := h
    exact ⟨.int _, by simp [PyData.canLay0], by simp [PyData.depth]⟩
  · obtain ⟨rfl, h⟩ := h
    exact ⟨.str _, by simp only [PyData.canLay0]; exact h.1, by simp [PyData.depth]⟩
  · exact h.elim
theorem Da.dp : ∀ {k : Nat} {v : V} {d : PyData}, Da P K c H k v d → Dp K H v d
  | 0, _, _, h => (atomOk.dp h).1
  | k + 1, _, _, .inl h => (atomOk.dp h).1
  | k + 1, _, _, .inr ⟨a, xs, ds, h1, h2, h3⟩ => by
    subst h1
    have := daS_all (K := K) (H := H) (fun v d h => Da.dp h) h3
    rcases h2 with ⟨_, h2, rfl⟩ | ⟨h2, rfl⟩
    · exact .lst (sq_of h2) this
    · exact .tup h2 this
end
end HH
set_option maxHeartbeats 4000000
namespace HH
open PySem PySem.Spec PyProof.Rows L2 Evl RZ
def iSeqA (K : PySem.W.Frag) (tl : TE) : TI := fun σ H R => tl σ H fun x H1 => ∃ a xs, x = .ref a ∧ ((SqL K H1 a xs ∧ R (Itl K a) H1) ∨ (SqT K H1 a xs ∧ R (Itt K a) H1))
theorem pi_seqA {X : Cx} {tg : Expr} {l : Expr} {tl : TE} (hl : PE X l tl) : PI X tg l (iSeqA X.K tl) := by
  refine ⟨fun pins s σ H R I h => ?_⟩
  refine thn (hl.run pins s σ H _ I h) fun v s1 ⟨x, H1, I1, r1, q1⟩ => ?_
  obtain ⟨a, xs, e, q1⟩ := q1
  subst e
  cases r1
  have fp : ∀ b, b ∈ [s1.heap.objs.size] → FpOk X pins H1 b := fun b hb => by
    have e : b = s1.heap.objs.size := by simpa using hb
    subst e
    exact I1.fpOk (Nat.le_refl _) (I1.hok.fresh (Nat.le_refl _))
  rcases q1 with ⟨hq, q⟩ | ⟨hq, q⟩
  · obtain ⟨its, rv, p, hz⟩ := I1.list hq
    refine wpAny_pyIter_list p.isList ?_
    exact ⟨s1.heap.objs.size, [s1.heap.objs.size], _, _, H1, rfl, I1.kept (t' := s1.toks) fun b o e => Heap.get?_push_of_some _ e, turn_list a _, ⟨_, Heap.get?_push_size _ rfl, rfl, rfl⟩, fp, q⟩
  · obtain ⟨its, rv, p, hz⟩ := I1.tuple hq
    refine wpAny_pyIter_tuple (show s1.heap.IsTuple a its.toArray from p) ?_
    exact ⟨s1.heap.objs.size, [s1.heap.objs.size], _, _, H1, rfl, I1.kept (t' := s1.toks) fun b o e => Heap.get?_push_of_some _ e, turn_tuple a _, ⟨_, Heap.get?_push_size _ rfl, rfl, rfl⟩, fp, q⟩
def isListB : PyData → Bool
  | .list _ => true
  | _ => false
def isTupB : PyData → Bool
  | .tuple _ => true
  | _ => false
section
variable {P : Addr → Prop} {K : PySem.W.Frag} {c k : Nat} {H H' : Hp} {σ : L2.St} {te ta tb : TE} {D : Ends} {v : V} {d : PyData}
theorem Da.cont (hd : Da P K c H (k + 1) v d) (h : (isListB d || isTupB d) = true) : ∃ (a : Addr) (xs : List V) (ds : List PyData), v = .ref a ∧ ((¬ P a ∧ H a = some (.lst xs) ∧ d = .list ds) ∨ (SqT K H a xs ∧ d = .tuple ds)) ∧ DaS (Da P K c H k) xs ds := by
  rcases hd with hd | hd
  · unfold atomOk at hd
    split at hd
    · cases h
    · cases h
    · cases h
    · cases h
    · exact hd.elim
  · exact hd
theorem Da.cont0 (hd : Da P K c H 0 v d) (h : (isListB d || isTupB d) = true) : False := by
  have hd : atomOk c v d := hd
  unfold atomOk at hd
  split at hd
  · cases h
  · cases h
  · cases h
  · cases h
  · exact hd.elim
theorem Da.tupAt {ds : List PyData} (hd : Da P K c H k v (.tuple ds)) : ∃ (k' : Nat) (a : Addr) (xs : List V), k = k' + 1 ∧ v = .ref a ∧ SqT K H a xs ∧ DaS (Da P K c H k') xs ds := by
  cases k with
  | zero => exact (Da.cont0 hd rfl).elim
  | succ k =>
    obtain ⟨a, xs, ds', h1, h2, h3⟩ := hd.cont rfl
    rcases h2 with ⟨_, _, e⟩ | ⟨h2, e⟩
    · cases e
    · cases e
      exact ⟨k, a, xs, rfl, h1, h2, h3⟩
theorem Da.intAt {i : Int} (hd : Da P K c H k v (.int i)) : v = .int i := by
  have at0 : atomOk c v (.int i) → v = .int i := fun h => by
    unfold atomOk at h
    split at h
    · rename_i h0
      cases h0
    · rename_i h0
      cases h0
    · rename_i h0
      cases h0
      rw [h.1]
    · rename_i h0
      cases h0
    · exact h.elim
  cases k with
  | zero => exact at0 hd
  | succ k =>
    rcases hd with h | ⟨a, xs, ds, _, h2, _⟩
    · exact at0 h
    · rcases h2 with ⟨_, _, e⟩ | ⟨_, e⟩ <;> cases e
end
section
variable {P : Addr → Prop} {K : PySem.W.Frag} {c k : Nat} {H H' : Hp} {σ : L2.St} {te ta tb : TE} {D : Ends} {v : V} {d : PyData}
theorem DaS.ex {xs : List V} {ds : List PyData} (h : DaS (Da P K c H k) xs ds) (e : Ex H H') : DaS (Da P K c H' k) xs ds := ⟨h.1, fun i x y hx hy => (h.2 i x y hx hy).ex e⟩
theorem DaS.exB {p : Addr} {xs ys : List V} {ds : List PyData} (h : DaS (Da P K c H k) xs ds) (hP : P p) (e : ExB p H H') (hp : H p = some (.lst ys)) : DaS (Da P K c H' k) xs ds := ⟨h.1, fun i x y hx hy => (h.2 i x y hx hy).exB hP e hp⟩
theorem DaS.to {c' k' : Nat} {xs : List V} {ds : List PyData} (h : DaS (Da P K c H k) xs ds) (e : k ≤ k') (e2 : c ≤ c') : DaS (Da P K c' H k') xs ds := ⟨h.1, fun i x y hx hy => ((h.2 i x y hx hy).to e).cc e2⟩
theorem DaS.nil {R : V → PyData → Prop} : DaS R [] [] := ⟨rfl, fun i x e h => by simp at h⟩
theorem DaS.cons {R : V → PyData → Prop} {x : V} {d : PyData} {xs : List V} {ds : List PyData} (h : R x d) (g : DaS R xs ds) : DaS R (x :: xs) (d :: ds) := ⟨by rw [List.length_cons, List.length_cons, g.1], fun i y e hy he => by
  cases i with
  | zero =>
    cases hy
    cases he
    exact h
  | succ i => exact g.2 i y e hy he⟩
theorem DaS.app {R : V → PyData → Prop} {xs ys : List V} {ds es : List PyData} (h : DaS R xs ds) (g : DaS R ys es) : DaS R (xs ++ ys) (ds ++ es) := ⟨by rw [List.length_append, List.length_append, h.1, g.1], fun i y e hy he => by
  by_cases hi : i < xs.length
  · rw [List.getElem?_append_left hi] at hy
    rw [List.getElem?_append_left (by rw [← h.1]; exact hi)] at he
    exact h.2 i y e hy he
  · rw [List.getElem?_append_right (by omega)] at hy
    rw [List.getElem?_append_right (by rw [← h.1]; omega)] at he
    rw [← h.1] at he
    exact g.2 _ y e hy he⟩
theorem DaS.set {R : V → PyData → Prop} {xs : List V} {ds : List PyData} {i : Nat} {x : V} {d : PyData} (h : DaS R xs ds) (g : R x d) : DaS R (xs.set i x) (ds.set i d) := ⟨by rw [List.length_set, List.length_set, h.1], fun j y e hy he => by
  rw [List.getElem?_set] at hy he
  by_cases c : i = j
  · rw [if_pos c] at hy he
    by_cases c2 : j < xs.length
    · rw [if_pos (by omega)] at hy
      rw [if_pos (by rw [← h.1]; omega)] at he
      cases hy
      cases he
      exact g
    · rw [if_neg (by omega)] at hy
      cases hy
  · rw [if_neg c] at hy he
    exact h.2 j y e hy he⟩
theorem DaS.take {R : V → PyData → Prop} {xs : List V} {ds : List PyData} (n : Nat) (h : DaS R xs ds) : DaS R (xs.take n) (ds.take n) := ⟨by rw [List.length_take, List.length_take, h.1], fun j y e hy he => by
  rw [List.getElem?_take] at hy he
  by_cases c : j < n
  · rw [if_pos c] at hy he
    exact h.2 j y e hy he
  · rw [if_neg c] at hy
    cases hy⟩
theorem DaS.drop {R : V → PyData → Prop} {xs : List V} {ds : List PyData} (n : Nat) (h : DaS R xs ds) : DaS R (xs.drop n) (ds.drop n) := ⟨by rw [List.length_drop, List.length_drop, h.1], fun j y e hy he => by
  rw [List.getElem?_drop] at hy he
  exact h.2 _ y e hy he⟩
theorem DaS.at' {R : V → PyData → Prop} {xs : List V} {ds : List PyData} {i : Nat} (h : DaS R xs ds) (hi : i < xs.length) : ∃ x d, xs[i]? = some x ∧ ds[i]? = some d ∧ R x d := by
  have h2 : i < ds.length := by rw [← h.1]; exact hi
  exact ⟨_, _, List.getElem?_eq_getElem hi, List.getElem?_eq_getElem h2, h.2 i _ _ (List.getElem?_eq_getElem hi) (List.getElem?_eq_getElem h2)⟩
end
end HH
namespace HH
open PySem PySem.Spec PyProof.Rows L2 Evl RZ
section
variable {P : Addr → Prop} {K : PySem.W.Frag} {c k : Nat} {H H' : Hp} {σ : L2.St} {te te2 ta tb : TE} {D : Ends} {v : V} {d : PyData}
end
end HH
namespace HH
open PySem PySem.Spec PyProof.Rows L2 Evl RZ
end HH
namespace HH
open PySem PySem.Spec PyProof.Rows L2 Evl RZ
end HH
namespace HH
open PySem PySem.Spec PyProof.Rows L2 Evl RZ
section
variable {K : PySem.W.Frag} {σ : L2.St} {H : Hp} {t u : TT} {tu tw tz : TS} {D : Ends} {QB : Bool → Hp → Prop}
end
end HH
namespace HH
open PySem PySem.Spec PyProof.Rows L2 Evl RZ
end HH
set_option maxHeartbeats 4000000
namespace HH
open PySem PySem.Spec PyProof.Rows L2 Evl RZ
def ItA (P : Addr → Prop) (K : PySem.W.Frag) (H : Hp) (v : V) : Prop := ∃ d, Da P K 2 H 6 v d ∧ wtD d ≤ 20000
section
variable {P : Addr → Prop} {K : PySem.W.Frag} {c k n : Nat} {H H' : Hp} {σ : L2.St} {te ta tb : TE} {D : Ends} {v : V} {d : PyData} {rs : HH.Row}
theorem ItA.ex (e : Ex H H') (h : ItA P K H v) : ItA P K H' v := by
  obtain ⟨d, h, w⟩ := h
  exact ⟨d, h.ex e, w⟩
theorem ItA.exB {p : Addr} {ys : List V} (hP : P p) (e : ExB p H H') (hp : H p = some (.lst ys)) (h : ItA P K H v) : ItA P K H' v := by
  obtain ⟨d, h, w⟩ := h
  exact ⟨d, h.exB hP e hp, w⟩
end
end HH
namespace HH
end HH
set_option maxHeartbeats 4000000
namespace HH
open PySem PySem.Spec PyProof.Rows L2 Evl
end HH
set_option maxHeartbeats 4000000
namespace HH
open PySem PySem.Spec PyProof.Rows L2 Evl
structure OrdAt (K : PySem.W.Frag) (H : Hp) (v : V) (o : Addr) (rs : HH.Row) (l : List Nat) : Prop where
  row : RowAt K H v rs
  len : rs.length ≤ 30
  tl : ∀ b ∈ rs, 0 ≤ b.2
  ord : SqT K H o (natsV l)
  ids : l.Perm (List.range rs.length)
section
variable {K : PySem.W.Frag} {H H' : Hp} {v : V} {o : Addr} {rs : HH.Row} {l : List Nat}
theorem OrdAt.ex (h : OrdAt K H v o rs l) (e : Ex H H') : OrdAt K H' v o rs l := ⟨h.row.ex e, h.len, h.tl, ex_t e h.ord, h.ids⟩
theorem OrdAt.nd (h : OrdAt K H v o rs l) : l.Nodup := h.ids.nodup_iff.mpr List.nodup_range
theorem OrdAt.lenL (h : OrdAt K H v o rs l) : l.length = rs.length := by rw [h.ids.length_eq, List.length_range]
theorem OrdAt.all (h : OrdAt K H v o rs l) (x : Nat) (hx : x < l.length) : x ∈ l := h.ids.mem_iff.mpr (List.mem_range.mpr (by rw [← h.lenL]; exact hx))
end
end HH
set_option maxHeartbeats 4000000
namespace HH
open PySem PySem.Spec PyProof.Rows L2 Evl
section
variable {K : PySem.W.Frag} {σ : L2.St} {H : Hp} {te t1 t2 : TE} {tt : TT} {l : List Nat} {j : Nat} {vs : List Nat}
end
end HH
set_option maxHeartbeats 4000000
namespace HH
open PySem PySem.Spec PyProof.Rows L2 Evl
section
variable {K : PySem.W.Frag} {σ : L2.St} {H H0 : Hp} {tf tx tv : TE} {D : Ends} {fa a : Addr} {as : List Addr} {t p : Nat → Int} {i : Nat} {d : Int}
end
end HH
set_option maxHeartbeats 4000000
namespace HH
open PySem PySem.Spec PyProof.Rows L2 Evl
section
variable {K : PySem.W.Frag} {σ : L2.St} {H : Hp} {te te2 : TE} {i j : Nat} {vs : List Nat} {a : Addr} {us : List V} {ps : HH.Row}
end
end HH
set_option maxHeartbeats 4000000
namespace HH
open PySem PySem.Spec PyProof.Rows L2 Evl
structure WanF (K : PySem.W.Frag) (H H' : Hp) (p : Addr) (q : Addr) (v' : V) (ot lp : Addr) (us : List V) (L : List Cow) (ds : List Deed) (n m : Nat) : Prop where
  ex : ExB p H H'
  bx : Bx H' p (n + m)
  q : H' q = some (.tup [v', .ref ot, .ref lp])
  row : RowAt K H' v' (rowsOf L)
  ord : FrzT H' ot (natsV (L.map (·.1)))
  lst : H' lp = some (.lst us)
  prs : All2 (DeedAt K H') us ds
end HH
set_option maxHeartbeats 4000000
namespace HH
open PySem PySem.Spec PyProof.Rows L2 Evl RZ
def Sm0 : PyData → Prop
  | .none => True
  | .bool _ => True
  | .int i => i.natAbs ≤ 10 ^ 30
  | _ => False
theorem Sm0.at' {d : PyData} (h : Sm0 d) : ∃ v, atomOk 0 v d := by
  unfold Sm0 at h
  split at h
  · exact ⟨.non, True.intro⟩
  · exact ⟨.bl _, rfl⟩
  · exact ⟨.int _, rfl, h⟩
  · exact h.elim
def NLst (K : PySem.W.Frag) (H : Hp) (v : V) : Prop := Flat v ∨ ∃ a xs, v = .ref a ∧ SqT K H a xs
def lenD : PyData → Nat
  | .list ds => ds.length
  | _ => 0
def AskIt (K : PySem.W.Frag) (H1 H2 : Hp) (v : V) (d : PyData) : Prop := Dp K H2 v d ∧ ((∃ a xs, v = .ref a ∧ H1 a = none ∧ H2 a = some (.lst xs) ∧ xs.length = lenD d) ∨ NLst K H2 v)
section
variable {K : PySem.W.Frag} {H H' H0 H1 H2 : Hp} {σ : L2.St} {te ta tb : TE} {D : Ends} {v : V} {d : PyData} {rs : HH.Row}
theorem NLst.ex (e : Ex H H') (h : NLst K H v) : NLst K H' v := h.imp id fun ⟨a, xs, h1, h2⟩ => ⟨a, xs, h1, ex_t e h2⟩
theorem AskIt.ex (e : Ex H2 H') (h : AskIt K H1 H2 v d) : AskIt K H1 H' v d := ⟨dp_ex e h.1, h.2.imp (fun ⟨a, xs, h1, h2, h3, h4⟩ => ⟨a, xs, h1, h2, e _ _ h3, h4⟩) (NLst.ex e)⟩
theorem AskIt.back (e : Ex H0 H1) (h : AskIt K H1 H2 v d) : AskIt K H0 H2 v d := ⟨h.1, h.2.imp (fun ⟨a, xs, h1, h2, h3, h4⟩ => ⟨a, xs, h1, fresh_back e h2, h3, h4⟩) id⟩
def flatD : V → PyData
  | .int i => .int i
  | .bl b => .bool b
  | _ => .none
end
def AskP (K : PySem.W.Frag) (H1 H3 : Hp) (q : Addr) (v : V) (d : PyData) : Prop := Dp K H3 v d ∧ ((∃ a xs, v = .ref a ∧ a ≠ q ∧ H1 a = none ∧ H3 a = some (.lst xs) ∧ xs.length = lenD d) ∨ NLst K H3 v)
def AskQ (K : PySem.W.Frag) (H1 : Hp) (q : Addr) (H2 : Hp) (v : V) (d : PyData) : Prop := ∀ H3, ExB q H2 H3 → AskP K H1 H3 q v d
section
variable {K : PySem.W.Frag} {H H' H0 H1 H2 : Hp} {σ : L2.St} {te ta tb : TE} {D : Ends} {v : V} {d : PyData} {rs : HH.Row} {q : Addr}
theorem AskQ.x (h : AskQ K H1 q H2 v d) (x : ExB q H2 H') : AskQ K H1 q H' v d := fun H3 y => h H3 (x.trans y)
theorem AskQ.it (h : AskQ K H1 q H2 v d) : AskIt K H1 H2 v d := by
  obtain ⟨h1, h2⟩ := h H2 (ExB.refl _ _)
  exact ⟨h1, h2.imp (fun ⟨a, xs, g1, _, g2, g3, g4⟩ => ⟨a, xs, g1, g2, g3, g4⟩) id⟩
end
structure Knows (rs : HH.Row) (L F : List Cow) (z : V) (i : Nat) : Prop where
  len : rs.length ≤ 30
  lt : i < rs.length
  tl : ∀ b ∈ rs, 0 ≤ b.2
  low : ∀ b ∈ rs, Low b
  last : ∀ M, Steps (tag 0 rs) M → NfR M → M = L
  first : ∀ M, FSteps (tag 0 rs) M → FfR M → M = F
  stop : ∀ (M : List Cow) (j : Nat), Steps (tag 0 (rs.take (i + 1))) M → Nf M → (M.map (·.1))[j]? = some i → stopAt (M.map (·.1)) j = z
  flat : Flat z
  dp : ∀ (K : PySem.W.Frag) H', Dp K H' z (flatD z)
section
variable {K : PySem.W.Frag} {H : Hp} {σ : L2.St} {te ta tb tc : TE} {v : V} {rs : HH.Row}
end
end HH
set_option maxHeartbeats 4000000
namespace HH
open PySem PySem.Spec PyProof.Rows L2 Evl RZ
section
variable {P : Addr → Prop} {K : PySem.W.Frag} {c k : Nat} {H : Hp}
end
end HH
namespace HH
open PySem PySem.Spec PyProof.Rows L2 Evl RZ
end HH
namespace HH
open PySem PySem.Spec PyProof.Rows L2 Evl RZ
end HH
set_option maxHeartbeats 4000000
namespace HH
open PySem PySem.Spec PyProof.Rows L2 Evl RZ
end HH
namespace HH
open PySem PySem.Spec PyProof.Rows L2 Evl RZ
end HH
set_option maxHeartbeats 4000000
namespace HH
open PySem PySem.Spec PyProof.Rows L2 Evl RZ
section
variable {K : PySem.W.Frag} {H H' H0 H1 H2 : Hp} {σ : L2.St} {te ta tb : TE} {D : Ends} {v : V} {d : PyData} {rs : HH.Row} {tz : TS}
def Spt (K : PySem.W.Frag) (H0 : Hp) (q : Addr) (n : Nat) (H : Hp) (v : V) : Prop := (∃ a xs, v = .ref a ∧ a ≠ q ∧ H0 a = none ∧ H a = some (.lst xs) ∧ xs.length ≤ n) ∨ NLst K H v
theorem NLst.mut {b : Addr} {xs ys : List V} (h : NLst K H v) (hb : H b = some (.lst xs)) : NLst K (upd H b (.lst ys)) v := h.imp id fun ⟨a, zs, h1, h2⟩ => ⟨a, zs, h1, ((ExB.refl b H).upd (o := .lst ys)).t hb h2⟩
theorem Spt.mut {b q : Addr} {n : Nat} {xs ys : List V} (h : Spt K H0 q n H v) (hb : H b = some (.lst xs)) (hy : ys.length ≤ n + 1) : Spt K H0 q (n + 1) (upd H b (.lst ys)) v := by
  rcases h with ⟨a, zs, rfl, h1, h2, h3, h4⟩ | h
  · by_cases e : a = b
    · subst e
      exact .inl ⟨a, ys, rfl, h1, h2, upd_same, hy⟩
    · exact .inl ⟨a, zs, rfl, h1, h2, by rw [upd_ne e]; exact h3, by omega⟩
  · exact .inr (h.mut hb)
theorem Spt.up {q : Addr} {n : Nat} (h : Spt K H0 q n H v) (e : Ex H H') : Spt K H0 q (n + 1) H' v := by
  rcases h with ⟨a, zs, rfl, h1, h2, h3, h4⟩ | h
  · exact .inl ⟨a, zs, rfl, h1, h2, e _ _ h3, by omega⟩
  · exact .inr (h.ex e)
theorem NLst.ty (h : NLst K H v) : ∃ T, TyN K H v T ∧ kitB T "list" = some false := by
  rcases h with h | ⟨a, xs, rfl, h⟩
  · unfold Flat at h
    split at h
    · exact ⟨"int", .int _, rfl⟩
    · exact ⟨"bool", .bl _, rfl⟩
    · exact ⟨"str", .str _, rfl⟩
    · exact ⟨"NoneType", .non, rfl⟩
    · exact h.elim
  · exact ⟨"tuple", .tup h, rfl⟩
end
end HH
set_option maxHeartbeats 4000000
namespace HH
open PySem PySem.Spec PyProof.Rows L2 Evl RZ
end HH
set_option maxHeartbeats 4000000
namespace HH
open PySem PySem.Spec PyProof.Rows L2 Evl RZ
theorem ListsF.exB {H0 H H' : Hp} {us : List V} {ll : List (List Nat)} {p : Addr} {o : HO} (h : ListsF H0 H us ll) (e : ExB p H H') (hp : H0 p = some o) : ListsF H0 H' us ll := ⟨h.len, fun i l hl => by
  obtain ⟨c, h1, h2, h3⟩ := h.at' i l hl
  exact ⟨c, h1, h2, e _ _ (Ne.symm (ne_of_none hp h2)) h3⟩⟩
end HH
set_option maxHeartbeats 4000000
namespace HH
open PySem PySem.Spec PyProof.Rows L2 Evl RZ
section
variable {K : PySem.W.Frag} {σ : L2.St} {H H' : Hp} {ta tb te te2 : TE} {t : TT} {v : V}
end
end HH
set_option maxHeartbeats 4000000
namespace HH
open PySem PySem.Spec PyProof.Rows L2 Evl RZ
def At0 : PyData → Prop
  | .none => True
  | .bool _ => True
  | .int _ => True
  | .str _ => True
  | _ => False
def okV : Nat → PyData → Prop
  | 0, d => At0 d
  | k + 1, d => At0 d ∨ ∃ ds, (d = .list ds ∨ d = .tuple ds) ∧ ds.length ≤ 40000 ∧ ∀ e ∈ ds, okV k e
theorem dps_at {K : PySem.W.Frag} {H : Hp} : ∀ {xs : List V} {ds : List PyData} {i : Nat} {u : V}, DpAll K H xs ds → xs[i]? = some u → ∃ d, ds[i]? = some d ∧ Dp K H u d
  | _, _, i, u, .nil, h => by simp at h
  | _, _, 0, u, .cons h g, e => by
    cases Option.some.inj e
    exact ⟨_, rfl, h⟩
  | _, _, i + 1, u, .cons h g, e => dps_at (i := i) g e
theorem alike_dp {K : PySem.W.Frag} {H : Hp} : ∀ {k : Nat} {d : PyData} {u v : V}, okV k d → Dp K H u d → Dp K H v d → Alike K H (k + 1) u v := by
  have atom : ∀ {k : Nat} {d : PyData} {u v : V}, At0 d → Dp K H u d → Dp K H v d → Alike K H (k + 1) u v := fun {k d u v} o h g => by
    cases h <;> cases g
    · exact .inl ⟨rfl, True.intro⟩
    · exact .inl ⟨rfl, True.intro⟩
    · exact .inl ⟨rfl, True.intro⟩
    · exact .inl ⟨rfl, True.intro⟩
    · exact o.elim
    · exact o.elim
  intro k
  induction k with
  | zero => exact fun {d u v} o h g => atom o h g
  | succ k ih =>
    intro d u v o h g
    rcases o with o | ⟨ds, o1, o2, o3⟩
    · exact atom o h g
    · rcases o1 with rfl | rfl
      · cases h with
        | lst s1 a1 => cases g with
          | lst s2 a2 =>
            refine .inr ⟨_, _, _, _, rfl, rfl, .inl ⟨s1, s2⟩, by rw [dps_len a1, dps_len a2], by rw [dps_len a1]; exact o2, fun i x y hx hy => ?_⟩
            obtain ⟨d1, e1, g1⟩ := dps_at a1 hx
            obtain ⟨d2, e2, g2⟩ := dps_at a2 hy
            rw [e1] at e2
            cases e2
            exact ih (o3 _ (List.mem_of_getElem? e1)) g1 g2
      · cases h with
        | tup s1 a1 => cases g with
          | tup s2 a2 =>
            refine .inr ⟨_, _, _, _, rfl, rfl, .inr ⟨s1, s2⟩, by rw [dps_len a1, dps_len a2], by rw [dps_len a1]; exact o2, fun i x y hx hy => ?_⟩
            obtain ⟨d1, e1, g1⟩ := dps_at a1 hx
            obtain ⟨d2, e2, g2⟩ := dps_at a2 hy
            rw [e1] at e2
            cases e2
            exact ih (o3 _ (List.mem_of_getElem? e1)) g1 g2
def EvX (K : PySem.W.Frag) (te : TE) (σ : L2.St) (H : Hp) (d : PyData) : Prop := ∀ H1, Ex H H1 → ∀ Q : VK, (∀ v H2, Ex H1 H2 → Dp K H2 v d → Q v H2) → te σ H1 Q
def EvXs (K : PySem.W.Frag) (ta : TA) (σ : L2.St) (H : Hp) (ds : List PyData) : Prop := ∀ H1, Ex H H1 → ∀ Q : List V → Hp → Prop, (∀ us H2, Ex H1 H2 → DpAll K H2 us ds → Q us H2) → ta σ H1 Q
section
variable {K : PySem.W.Frag} {H H' H0 H1 H2 : Hp} {σ : L2.St} {te ta tb tc : TE} {D : Ends} {v : V} {d : PyData} {rs : HH.Row} {tz : TS}
theorem xs_nil : EvXs K tNil σ H [] := fun H1 e1 Q q => q [] H1 (Ex.refl H1) .nil
theorem xs_cons {tr : TA} {ds : List PyData} (h : EvX K ta σ H d) (hr : EvXs K tr σ H ds) : EvXs K (tCons ta tr) σ H (d :: ds) := fun H1 e1 Q q => h H1 e1 _ fun v H2 e2 hv => hr H2 (e1.trans e2) _ fun us H3 e3 b => q (v :: us) H3 (e2.trans e3) (.cons (dp_ex e3 hv) b)
theorem ex_of {x : V} (h : Ev te σ H x) (hd : Dp K H x d) : EvX K te σ H d := fun H1 e1 Q q => h H1 e1 _ fun H2 e2 => q x H2 e2 (dp_ex (e1.trans e2) hd)
theorem ex_int {i : Int} (h : Ev te σ H (.int i)) : EvX K te σ H (.int i) := ex_of h (.int i)
theorem ex_lst {ta' : TA} {ds : List PyData} (h : EvXs K ta' σ H ds) (hl : ds.length ≤ 100000) : EvX K (tLst ta') σ H (.list ds) := fun H1 e1 Q q => h H1 e1 _ fun us H2 e2 b => ⟨sz_of (by rw [dps_len b]; exact hl), fun p hp => q (.ref p) _ (e2.trans (Ex.new hp)) (.lst (sq_of upd_same) (dps_ex (Ex.new hp) b))⟩
theorem ev_sameX {k : Nat} {E : XK} (h1 : EvX K ta σ H d) (h2 : EvX K tb σ H d) (ok : okV k d) : Ev (tCall (spSame K (k + 1)) [] E (tCons ta (tCons tb tNil))) σ H (.bl true) := fun H1 e Q q =>
  h1 H1 e _ fun u H2 e2 d1 => h2 H2 (e.trans e2) _ fun w H3 e3 d2 => ⟨u, w, rfl, alike_dp ok (dp_ex e3 d1) d2, fun H4 e4 => q H4 ((e2.trans e3).trans e4)⟩
end
end HH
set_option maxHeartbeats 4000000
namespace HH
open PySem PySem.Spec PyProof.Rows L2 Evl
end HH
set_option maxHeartbeats 4000000
namespace HH
open PySem PySem.Spec PyProof.Rows L2 Evl
section
variable {K : PySem.W.Frag} {σ : L2.St} {H H' : Hp} {ta tb te to ts : TE} {v : V}
section
variable {rs : HH.Row} {L E Y M : List Cow} {d1 d2 : List Deed} {px : Nat → Nat} {tT tB tO tN t8 t9 : TE} {vT : V} {bk oT : Addr}
end
end
end HH
set_option maxHeartbeats 4000000
namespace HH
open PySem PySem.Spec PyProof.Rows L2 Evl RZ
theorem FrzT.exL {H H' : Hp} {p a : Addr} {xs ys : List V} (h : FrzT H a xs) (e : ExB p H H') (hp : H p = some (.lst ys)) : FrzT H' a xs := by
  obtain ⟨o, po, h⟩ := h
  refine ⟨o, po, e _ _ (fun z => ?_) h⟩
  rw [z, hp] at h
  cases h
section
variable {X : Cx} {es : List Expr} {t : TA} {pos : Pos}
end
end HH
namespace HH
open PySem PySem.Spec PyProof.Rows L2 Evl RZ
end HH
set_option maxHeartbeats 4000000
namespace HH
open PySem PySem.Spec PyProof.Rows L2 Evl RZ
theorem divW_okW {i m : Int} (h : 0 < m) (g : m < 1152921504606846976) : CDivW i m := wide_div h (show m.natAbs < 2 ^ 60 by
  have : (2 : Nat) ^ 60 = 1152921504606846976 := by decide
  omega) (by decide) (by decide)
structure KnownEnd (r e : HH.Row) (o : List Nat) (tb : List (List Nat)) : Prop where
  len : r.length ≤ 10
  tl : ∀ b ∈ r, 0 ≤ b.2
  end_ : ∃ L, Steps (tag 0 r) L ∧ NfR L ∧ rowsOf L = e ∧ L.map (·.1) = o
  nev : nevT r = tb
  prs : tabP (fun i k => !decide ((i + 1 + k) ∈ tb.getD i [])) r.length r.length = tab o r.length r.length
section
variable {K : PySem.W.Frag} {H H' H0 H1 H2 : Hp} {σ : L2.St} {te ta tb tc : TE} {D : Ends} {v : V} {d : PyData} {rs : HH.Row} {tz : TS}
def ListsA (K : PySem.W.Frag) (H : Hp) : List V → List (List Nat) → Prop := fun us ll => us.length = ll.length ∧ ∀ (i : Nat) (l : List Nat), ll[i]? = some l → ∃ p, us[i]? = some (.ref p) ∧ SqL K H p (natsV l)
theorem ListsA.ex {us : List V} {ll : List (List Nat)} (h : ListsA K H us ll) (e : Ex H H') : ListsA K H' us ll := ⟨h.1, fun i l hl => by
  obtain ⟨p, p1, p2⟩ := h.2 i l hl
  exact ⟨p, p1, ex_l e p2⟩⟩
theorem ListsA.cons {us : List V} {ll : List (List Nat)} {a : Addr} {l : List Nat} (h : ListsA K H us ll) (g : SqL K H a (natsV l)) : ListsA K H (.ref a :: us) (l :: ll) := ⟨by rw [List.length_cons, List.length_cons, h.1], fun i m hm => by
  cases i with
  | zero =>
    cases Option.some.inj hm
    exact ⟨a, rfl, g⟩
  | succ i => exact h.2 i m hm⟩
theorem ex_L {ns : List Int} (h : EvL te σ H (ns.map V.int)) : EvX K te σ H (.list (ns.map PyData.int)) := fun H1 e1 Q q => h H1 e1 _ fun p H2 hp e2 g => q _ H2 e2 (.lst (sq_of g) (dp_ints ns))
end
abbrev Item := Int × HH.Row × List Nat × List (List Nat)
section
variable {K : PySem.W.Frag} {H H' H0 H1 H2 : Hp} {σ : L2.St} {te ta tb tc td : TE} {D : Ends} {v : V} {d : PyData} {rs : HH.Row} {tz : TS}
def ItemAt (K : PySem.W.Frag) (H : Hp) (x : V) (it : Item) : Prop := ∃ a ve oa ta, x = .ref a ∧ SqT K H a [.int it.1, ve, .ref oa, .ref ta] ∧ RowAt K H ve it.2.1 ∧ FrzT H oa (natsV it.2.2.1) ∧ TabAt K H ta it.2.2.2
theorem ItemAt.ex {x : V} {it : Item} (h : ItemAt K H x it) (e : Ex H H') : ItemAt K H' x it := by
  obtain ⟨a, ve, oa, ta, rfl, h1, h2, ⟨o, h3, h4⟩, h5⟩ := h
  exact ⟨a, ve, oa, ta, rfl, ex_t e h1, h2.ex e, ⟨o, h3, e _ _ h4⟩, h5.mono e⟩
end
end HH
set_option maxHeartbeats 4000000
namespace HH
open PySem PySem.Spec PyProof.Rows L2 Evl RZ
abbrev Lot := Int × Int × Int
def LotAt (K : PySem.W.Frag) (H : Hp) (v : V) (l : Lot) : Prop := ∃ p, v = .ref p ∧ SqT K H p [.int l.1, .int l.2.1, .int l.2.2]
abbrev LotsA (K : PySem.W.Frag) (H : Hp) : List V → List Lot → Prop := All2 (LotAt K H)
def HerdAt (K : PySem.W.Frag) (H : Hp) (v : V) (ls : List Lot) : Prop := ∃ a us, v = .ref a ∧ SqT K H a us ∧ LotsA K H us ls
section
variable {K : PySem.W.Frag} {H H' : Hp} {v : V} {l : Lot} {ls : List Lot} {us : List V}
theorem LotAt.ex (h : LotAt K H v l) (e : Ex H H') : LotAt K H' v l := by
  obtain ⟨p, h1, h2⟩ := h
  exact ⟨p, h1, ex_t e h2⟩
theorem LotAt.exB {q : Addr} {ys : List V} (h : LotAt K H v l) (e : ExB q H H') (hq : H q = some (.lst ys)) : LotAt K H' v l := by
  obtain ⟨p, h1, h2⟩ := h
  exact ⟨p, h1, e.t hq h2⟩
theorem LotsA.ex' (h : LotsA K H us ls) (e : Ex H H') : LotsA K H' us ls := All2.mono (fun _ _ r => r.ex e) h
theorem LotsA.exB' {q : Addr} {ys : List V} (h : LotsA K H us ls) (e : ExB q H H') (hq : H q = some (.lst ys)) : LotsA K H' us ls := All2.mono (fun _ _ r => r.exB e hq) h
theorem HerdAt.ex (h : HerdAt K H v ls) (e : Ex H H') : HerdAt K H' v ls := by
  obtain ⟨a, us, h1, h2, h3⟩ := h
  exact ⟨a, us, h1, ex_t e h2, LotsA.ex' h3 e⟩
theorem HerdAt.exB {q : Addr} {n : Nat} (h : HerdAt K H v ls) (e : ExB q H H') (hq : Bx H q n) : HerdAt K H' v ls := by
  obtain ⟨a, us, h1, h2, h3⟩ := h
  obtain ⟨xs, hx⟩ := hq.lst
  exact ⟨a, us, h1, e.t hx h2, LotsA.exB' h3 e hx⟩
end
def alikeB (acc : List Lot) (s t : Int) : Bool := match acc.getLast? with
  | some l => decide (l.1 = s ∧ l.2.1 = t)
  | none => false
def popL (acc : List Lot) (s t : Int) : List Lot := if alikeB acc s t = true then acc.dropLast else acc
def befL (acc : List Lot) (s t : Int) : Int := if alikeB acc s t = true then (acc.getLast?.getD (0, 0, 0)).2.2 else 0
def packStep (acc : List Lot) (l : Lot) : List Lot := popL acc l.1 l.2.1 ++ [(l.1, l.2.1, befL acc l.1 l.2.1 + l.2.2)]
def packL (ls : List Lot) : List Lot := ls.foldl packStep []
theorem packL_take {ls : List Lot} {k : Nat} {l : Lot} (h : ls[k]? = some l) : packL (ls.take (k + 1)) = packStep (packL (ls.take k)) l := by
  unfold packL
  rw [List.take_add_one, h, List.foldl_append]
  rfl
def ones (rs : HH.Row) : List Lot := rs.map fun b => (b.1, b.2, 1)
def sprR (ls : List Lot) : HH.Row := ls.flatMap fun l => List.replicate l.2.2.toNat (l.1, l.2.1)
theorem alike_snoc (acc : List Lot) (l : Lot) (s t : Int) : alikeB (acc ++ [l]) s t = decide (l.1 = s ∧ l.2.1 = t) := by
  unfold alikeB
  rw [List.getLast?_concat]
theorem step_len (acc : List Lot) (l : Lot) : (packStep acc l).length ≤ acc.length + 1 := by
  unfold packStep popL
  rw [List.length_append]
  split
  · rw [List.length_dropLast]
    show _ - 1 + 1 ≤ _
    omega
  · exact Nat.le_refl _
theorem fold_len : ∀ (ls acc : List Lot), (ls.foldl packStep acc).length ≤ acc.length + ls.length
  | [], acc => Nat.le_refl _
  | l :: ls, acc => by
    have := fold_len ls (packStep acc l)
    have := step_len acc l
    rw [List.foldl_cons, List.length_cons]
    omega
theorem packL_len (ls : List Lot) : (packL ls).length ≤ ls.length := by
  have := fold_len ls []
  show (ls.foldl packStep []).length ≤ _
  simpa using this
theorem spr_app (a b : List Lot) : sprR (a ++ b) = sprR a ++ sprR b := List.flatMap_append ..
theorem alike_ex {acc : List Lot} {s t : Int} (h : alikeB acc s t = true) : ∃ pre m, acc = pre ++ [(s, t, m)] := by
  unfold alikeB at h
  cases c : acc.getLast? with
  | none => rw [c] at h; cases h
  | some l =>
    rw [c] at h
    have h := of_decide_eq_true h
    have hne : acc ≠ [] := fun z => by rw [z] at c; cases c
    refine ⟨acc.dropLast, l.2.2, ?_⟩
    have e := List.dropLast_concat_getLast hne
    rw [List.getLast?_eq_some_getLast hne] at c
    have c := Option.some.inj c
    rw [c] at e
    rw [← h.1, ← h.2]
    exact e.symm
theorem step_alike (pre : List Lot) (s t m k : Int) : packStep (pre ++ [(s, t, m)]) (s, t, k) = pre ++ [(s, t, m + k)] := by
  unfold packStep popL befL
  have e : alikeB (pre ++ [(s, t, m)]) s t = true := by rw [alike_snoc]; exact decide_eq_true ⟨rfl, rfl⟩
  show (if alikeB (pre ++ [(s, t, m)]) s t = true then _ else _) ++ [(s, t, (if alikeB (pre ++ [(s, t, m)]) s t = true then _ else _) + k)] = _
  rw [if_pos e, if_pos e, List.dropLast_concat, List.getLast?_concat]
  rfl
theorem step_other {acc : List Lot} {s t k : Int} (h : alikeB acc s t = false) : packStep acc (s, t, k) = acc ++ [(s, t, k)] := by
  unfold packStep popL befL
  show (if alikeB acc s t = true then _ else _) ++ [(s, t, (if alikeB acc s t = true then _ else _) + k)] = _
  rw [if_neg (by rw [h]; exact Bool.false_ne_true), if_neg (by rw [h]; exact Bool.false_ne_true), Int.zero_add]
def PosL (ls : List Lot) : Prop := ∀ l ∈ ls, 1 ≤ l.2.2
theorem step_pos {acc : List Lot} {l : Lot} (h : PosL acc) (hl : 1 ≤ l.2.2) : PosL (packStep acc l) := by
  obtain ⟨s, t, k⟩ := l
  cases c : alikeB acc s t with
  | true =>
    obtain ⟨pre, m, rfl⟩ := alike_ex c
    rw [step_alike]
    intro x hx
    rcases List.mem_append.mp hx with g | g
    · exact h x (List.mem_append_left _ g)
    · rw [List.mem_singleton.mp g]
      have := h (s, t, m) (by simp)
      show 1 ≤ m + k
      have hl : 1 ≤ k := hl
      have this : 1 ≤ m := this
      omega
  | false =>
    rw [step_other c]
    intro x hx
    rcases List.mem_append.mp hx with g | g
    · exact h x g
    · rw [List.mem_singleton.mp g]
      exact hl
theorem fold_pos : ∀ (ls acc : List Lot), PosL acc → PosL ls → PosL (ls.foldl packStep acc)
  | [], acc, h, _ => h
  | l :: ls, acc, h, g => fold_pos ls (packStep acc l) (step_pos h (g l (List.mem_cons_self ..))) fun x hx => g x (List.mem_cons_of_mem _ hx)
theorem packL_pos {ls : List Lot} (h : PosL ls) : PosL (packL ls) := fold_pos ls [] (fun x hx => nomatch hx) h
theorem step_spr {acc : List Lot} {l : Lot} (h : PosL acc) (hl : 1 ≤ l.2.2) : sprR (packStep acc l) = sprR acc ++ List.replicate l.2.2.toNat (l.1, l.2.1) := by
  obtain ⟨s, t, k⟩ := l
  have one : ∀ m : Int, sprR [(s, t, m)] = List.replicate m.toNat (s, t) := fun m => by
    unfold sprR
    simp
  cases c : alikeB acc s t with
  | true =>
    obtain ⟨pre, m, rfl⟩ := alike_ex c
    have hm : 1 ≤ m := h (s, t, m) (by simp)
    have hk : 1 ≤ k := hl
    rw [step_alike, spr_app, spr_app, one, one, List.append_assoc, List.replicate_append_replicate, show m.toNat + k.toNat = (m + k).toNat by omega]
  | false =>
    rw [step_other c, spr_app, one]
theorem fold_spr : ∀ (ls acc : List Lot), PosL acc → PosL ls → sprR (ls.foldl packStep acc) = sprR acc ++ sprR ls
  | [], acc, _, _ => by
    show sprR acc = sprR acc ++ []
    rw [List.append_nil]
  | l :: ls, acc, h, g => by
    have hl := g l (List.mem_cons_self ..)
    rw [List.foldl_cons, fold_spr ls _ (step_pos h hl) (fun x hx => g x (List.mem_cons_of_mem _ hx)), step_spr h hl, List.append_assoc]
    congr 1
theorem packL_spr {ls : List Lot} (h : PosL ls) : sprR (packL ls) = sprR ls := by
  have := fold_spr ls [] (fun x hx => nomatch hx) h
  exact this
theorem ones_pos (rs : HH.Row) : PosL (ones rs) := fun l hl => by
  obtain ⟨b, _, rfl⟩ := List.mem_map.mp hl
  exact Int.le_refl 1
theorem ones_spr : ∀ rs : HH.Row, sprR (ones rs) = rs
  | [] => rfl
  | b :: rs => by
    have := ones_spr rs
    unfold ones sprR at this ⊢
    rw [List.map_cons, List.flatMap_cons, this]
    rfl
theorem fold_alike (acc : List Lot) (s t : Int) : ∀ m : Nat, (ones (List.replicate (m + 1) (s, t))).foldl packStep acc = packStep acc (s, t, ((m + 1 : Nat) : Int))
  | 0 => rfl
  | m + 1 => by
    have ih := fold_alike acc s t m
    rw [List.replicate_succ']
    unfold ones at ih ⊢
    rw [List.map_append, List.foldl_append, ih]
    show packStep (packStep acc (s, t, ((m + 1 : Nat) : Int))) (s, t, 1) = _
    cases c : alikeB acc s t with
    | true =>
      obtain ⟨pre, k, rfl⟩ := alike_ex c
      rw [step_alike, step_alike, step_alike, show k + ((m + 1 : Nat) : Int) + 1 = k + ((m + 1 + 1 : Nat) : Int) by omega]
    | false =>
      rw [step_other c, step_other c, step_alike, show ((m + 1 : Nat) : Int) + 1 = ((m + 1 + 1 : Nat) : Int) by omega]
theorem fold_ones : ∀ (ls acc : List Lot), PosL ls → (ones (sprR ls)).foldl packStep acc = ls.foldl packStep acc
  | [], acc, _ => rfl
  | l :: ls, acc, h => by
    have hl := h l (List.mem_cons_self ..)
    obtain ⟨s, t, k⟩ := l
    obtain ⟨m, em⟩ : ∃ m : Nat, k = ((m + 1 : Nat) : Int) := ⟨k.toNat - 1, by have : 1 ≤ k := hl; omega⟩
    have ih := fold_ones ls (packStep acc (s, t, k)) fun x hx => h x (List.mem_cons_of_mem _ hx)
    rw [List.foldl_cons, ← ih]
    have e : ones (sprR ((s, t, k) :: ls)) = ones (List.replicate k.toNat (s, t)) ++ ones (sprR ls) := by
      unfold ones sprR
      rw [List.flatMap_cons, List.map_append]
    rw [e, List.foldl_append, em]
    show List.foldl packStep (List.foldl packStep acc (ones (List.replicate (m + 1) (s, t)))) _ = _
    rw [fold_alike]
def adj : List Lot → Prop
  | a :: b :: r => ¬ (a.1 = b.1 ∧ a.2.1 = b.2.1) ∧ adj (b :: r)
  | _ => True
theorem adj_snoc : ∀ (acc : List Lot) (l : Lot), adj acc → alikeB acc l.1 l.2.1 = false → adj (acc ++ [l])
  | [], l, _, _ => True.intro
  | [a], l, _, h => by
    refine ⟨fun z => ?_, True.intro⟩
    have : alikeB ([] ++ [a]) l.1 l.2.1 = false := h
    rw [alike_snoc] at this
    exact of_decide_eq_false this z
  | a :: b :: r, l, h, g => by
    refine ⟨h.1, adj_snoc (b :: r) l h.2 ?_⟩
    unfold alikeB at g ⊢
    rw [List.getLast?_cons_cons] at g
    exact g
theorem adj_lastL : ∀ {pre : List Lot} {a b : Lot}, adj (pre ++ [a]) → a.1 = b.1 → a.2.1 = b.2.1 → adj (pre ++ [b])
  | [], a, b, _, _, _ => True.intro
  | [x], a, b, h, e1, e2 => ⟨fun z => h.1 ⟨z.1.trans e1.symm, z.2.trans e2.symm⟩, True.intro⟩
  | x :: y :: r, a, b, h, e1, e2 => ⟨h.1, adj_lastL (pre := y :: r) h.2 e1 e2⟩
theorem step_adj {acc : List Lot} {l : Lot} (h : adj acc) : adj (packStep acc l) := by
  obtain ⟨s, t, k⟩ := l
  cases c : alikeB acc s t with
  | true =>
    obtain ⟨pre, m, rfl⟩ := alike_ex c
    rw [step_alike]
    exact adj_lastL h rfl rfl
  | false =>
    rw [step_other c]
    exact adj_snoc acc _ h c
theorem fold_adj : ∀ (ls acc : List Lot), adj acc → adj (ls.foldl packStep acc)
  | [], acc, h => h
  | l :: ls, acc, h => fold_adj ls _ (step_adj h)
theorem packL_adj (ls : List Lot) : adj (packL ls) := fold_adj ls [] True.intro
theorem adj_cut : ∀ (pre : List Lot) (a b : Lot) (r : List Lot), adj (pre ++ a :: b :: r) → ¬ (a.1 = b.1 ∧ a.2.1 = b.2.1)
  | [], a, b, r, h => h.1
  | [x], a, b, r, h => h.2.1
  | x :: y :: p, a, b, r, h => adj_cut (y :: p) a b r h.2
theorem adj_get {ls : List Lot} (h : adj ls) {i : Nat} {a b : Lot} (h1 : ls[i]? = some a) (h2 : ls[i + 1]? = some b) : ¬ (a.1 = b.1 ∧ a.2.1 = b.2.1) := by
  obtain ⟨l1, e1⟩ := List.getElem?_eq_some_iff.mp h1
  obtain ⟨l2, e2⟩ := List.getElem?_eq_some_iff.mp h2
  have e : ls = ls.take i ++ a :: b :: ls.drop (i + 2) := by
    conv => lhs; rw [← List.take_append_drop i ls]
    congr 1
    rw [List.drop_eq_getElem_cons l1, e1, List.drop_eq_getElem_cons l2, e2]
  rw [e] at h
  exact adj_cut _ _ _ _ h
section
variable {K : PySem.W.Frag} {σ : L2.St} {H H' : Hp} {te : TE} {v : V} {Q : VK}
theorem sl_lot {l : Lot} (h : LotAt K H v l) (q : ∀ p H1, Ex H H1 → H1 p = some (.tup [.int l.1, .int l.2.1]) → Q (.ref p) H1) : rSlA K v none (some 2) H Q := by
  obtain ⟨p, rfl, sq⟩ := h
  refine ⟨p, _, rfl, sq, fun z => ?_, fun _ p2 hp2 => ?_⟩
  · have e0 := cut_all z
    have e1 := cut_to [V.int l.1, .int l.2.1, .int l.2.2] 2
    have e2 : [V.int l.1, .int l.2.1] = [V.int l.1, .int l.2.1, .int l.2.2] := e1.symm.trans e0
    cases e2
  · have e1 := cut_to [V.int l.1, .int l.2.1, .int l.2.2] 2
    have e2 : cutV [V.int l.1, .int l.2.1, .int l.2.2] none (some 2) = [V.int l.1, .int l.2.1] := e1
    rw [e2]
    exact q p2 _ (Ex.new hp2) upd_same
theorem dp_pair {p : Addr} {s t : Int} (h : H p = some (.tup [.int s, .int t])) : Dp K H (.ref p) (beastD (s, t)) := .tup (st_of h) (.cons (.int _) (.cons (.int _) .nil))
theorem ev_last2 {hd : Addr} {ws : List V} {pre : List Lot} {l : Lot} {ih is it : Nat} {s t : Int} (s1 : σ[ih]? = some (some (.ref hd))) (s2 : σ[is]? = some (some (.int s))) (s3 : σ[it]? = some (some (.int t))) (g : H hd = some (.lst ws)) (ls : LotsA K H ws (pre ++ [l])) :
    Ev (tOp (rEqD K) (tSl (rSlA K) (tOp (rIxL K) (tVar ih) (tUn (rU fun i => .int (-i)) (tC (.int 1)))) tNoPart (tPart (tC (.int 2)))) (tTup (tCons (tVar is) (tCons (tVar it) tNil)))) σ H (.bl (decide (l.1 = s ∧ l.2.1 = t))) := fun H1 e1 Q q => by
  obtain ⟨w1, w2, rfl, _, h2⟩ := All2.split ls
  cases h2 with
  | cons ry nl =>
    cases nl
    rename_i y
    refine (ev_op (ev_var s1) (ev_un ev_c ru_neg) (rv_ixL (K := K) (sq_of (e1 _ _ g)) (atI_last w1 y)) : Ev (tOp (rIxL K) (tVar ih) (tUn (rU fun i => .int (-i)) (tC (.int 1)))) σ H1 y) H1 (Ex.refl H1) _ fun H2 e2 => ⟨2, rfl, ?_⟩
    refine sl_lot (K := K) (ry.ex (e1.trans e2)) fun p H3 e3 gp => ⟨.int s, s2, .int t, s3, by show 2 ≤ sizeLine; decide, fun T hT => ?_⟩
    have n4 := Ex.new (o := .tup [V.int s, .int t]) hT
    refine ⟨beastD (l.1, l.2.1), beastD (s, t), dp_pair (n4 _ _ gp), dp_pair upd_same, (nice_beast _).shaped (by decide), (nice_beast _).shaped (by decide), ?_⟩
    rw [beast_eqv]
    have ed : decide ((l.1, l.2.1) = (s, t)) = decide (l.1 = s ∧ l.2.1 = t) := decide_eq_decide.mpr ⟨fun z => ⟨congrArg Prod.fst z, congrArg Prod.snd z⟩, fun z => Prod.ext z.1 z.2⟩
    rw [ed]
    exact q _ ((e2.trans e3).trans n4)
theorem ev_lenTup {p : Addr} {xs : List V} (h : Ev te σ H (.ref p)) (sq : SqT K H p xs) : Ev (tCB (rLenS K) (tCons te tNil)) σ H (.int (xs.length : Int)) := fun H1 e1 Q q =>
  h H1 e1 _ fun H2 e2 => ⟨p, xs, rfl, .inr (ex_t (e1.trans e2) sq), q H2 e2⟩
theorem el_allTup {tl : TE} {a : Addr} {xs : List V} {j : Nat} {vs : List Nat} (h : Ev tl σ H (.ref a)) (sq : SqT K H a xs) (hl : xs.length ≤ 40000) (hw : ∀ x, wipe ((wipe σ vs).set j (some x)) vs = wipe σ vs)
    (he : ∀ (i : Nat) (x : V) H1, Ex H H1 → xs[i]? = some x → Ev te ((wipe σ vs).set j (some x)) H1 (.bl true)) : EvL (tLc (iTup K tl) (gName j) tYes te vs) σ H ((List.replicate xs.length true).map V.bl) := fun H0 e0 Q q => by
  refine h H0 e0 _ fun H1 e1 => ⟨a, rfl, ⟨xs, ex_t (e0.trans e1) sq⟩, fun D hD => ?_⟩
  have e01 := e0.trans e1
  refine in_it (walk_tup (xs := xs)) (fun k H2 => Ex H1 H2 ∧ H2 D = some (.lst ((List.replicate k true).map V.bl))) ⟨Ex.new hD, upd_same⟩ (fun k H2 _ z => ex_t (e01.trans z.1) sq) (fun k x H2 H3 hk z y => ?_) (fun H2 z => ?_)
  · obtain ⟨rfl, hx⟩ := y
    refine ⟨hw _, t_yes ((he k x _ (e01.trans z.1) hx) _ (Ex.refl _) _ fun H4 e4 => ⟨_, e4 _ _ z.2, sz_lt (by rw [List.length_map, List.length_replicate]; omega), Ex.mut (z.1.trans e4) hD, ?_⟩)⟩
    rw [upd_same, List.replicate_succ', List.map_append]
    rfl
  · exact q D H2 (fresh_back e1 hD) (e1.trans z.1) z.2
theorem dp_lots : ∀ {us : List V} {ls : List Lot}, LotsA K H us ls → DpAll K H us (ls.map fun l => .tuple [.int l.1, .int l.2.1, .int l.2.2])
  | _, _, .nil => .nil
  | _, _, .cons ⟨p, e, sq⟩ h => by
    subst e
    exact .cons (.tup sq (.cons (.int _) (.cons (.int _) (.cons (.int _) .nil)))) (dp_lots h)
end
section
variable {X : Cx}
theorem op_neDK {K : PySem.W.Frag} (hu : X.A.units + 64 < cLine) (hK : X.K = K := by rfl) : OpR X (compareOp .NotEq) (rNeD K) := by
  subst hK
  exact op_neD hu
end
theorem ret_run {te : TE} {D : Ends} {σ : L2.St} {H : Hp} (h : te σ H D.rt) : tRet te D σ H := h
theorem call1_run {sp : Sp} {te : TE} {E : XK} {σ : L2.St} {H : Hp} {Q : VK} (h : te σ H fun x H1 => sp [x] H1 Q E) : tCall sp [] E (tCons te tNil) σ H Q := h
def spTogether (K : PySem.W.Frag) : Sp := fun vs H Q _ => ∃ (a : Addr) (us : List V) (ls : List Lot), vs = [.ref a] ∧ SqL K H a us ∧ LotsA K H us ls ∧ ls.length ≤ 1000 ∧ ∀ z H', Ex H H' → HerdAt K H' z (packL ls) → Q z H'
def spIsLot (K : PySem.W.Frag) : Sp := fun vs H Q _ => ∃ (v : V) (l : Lot), vs = [v] ∧ LotAt K H v l ∧ 0 ≤ l.2.1 ∧ 1 ≤ l.2.2 ∧ RetV (.bl true) H Q
def spIsHerd (K : PySem.W.Frag) : Sp := fun vs H Q _ => ∃ (v : V) (ls : List Lot), vs = [v] ∧ HerdAt K H v ls ∧ 0 < ls.length ∧ ls.length ≤ 1000 ∧ (∀ l ∈ ls, 0 ≤ l.2.1 ∧ 1 ≤ l.2.2) ∧ adj ls ∧ RetV (.bl true) H Q
end HH
set_option maxHeartbeats 4000000
namespace HH
open PySem PySem.Spec PyProof.Rows L2 Evl RZ
def manyP (spare toll many : Int) : Int := if spare ≤ 0 then 0 else if toll = 0 then many else if (spare - 1) / toll < many then (spare - 1) / toll else many
def lS (ls : List Lot) (i : Nat) : Int := (ls[i]?.getD (0, 0, 0)).1
def lT (ls : List Lot) (i : Nat) : Int := (ls[i]?.getD (0, 0, 0)).2.1
def lM (ls : List Lot) (i : Nat) : Int := (ls[i]?.getD (0, 0, 0)).2.2
def goL (st : List Int) (ls : List Lot) (w : Nat) : HH.Row → HH.Row → Int → Int → HH.Row × Int × Int
  | [], B, s, t => (((w : Int), lM ls w) :: B, s, t)
  | x :: r, B, s, t =>
    if manyP (s - st.getD x.1.toNat 0) (lT ls x.1.toNat) x.2 < x.2 then
      (if manyP (s - st.getD x.1.toNat 0) (lT ls x.1.toNat) x.2 > 0 then r.reverse ++ (x.1, x.2 - manyP (s - st.getD x.1.toNat 0) (lT ls x.1.toNat) x.2) :: ((w : Int), lM ls w) :: (x.1, manyP (s - st.getD x.1.toNat 0) (lT ls x.1.toNat) x.2) :: B else r.reverse ++ x :: ((w : Int), lM ls w) :: B,
        s - manyP (s - st.getD x.1.toNat 0) (lT ls x.1.toNat) x.2 * lT ls x.1.toNat, t + manyP (s - st.getD x.1.toNat 0) (lT ls x.1.toNat) x.2)
    else goL st ls w r (x :: B) (s - manyP (s - st.getD x.1.toNat 0) (lT ls x.1.toNat) x.2 * lT ls x.1.toNat) (t + manyP (s - st.getD x.1.toNat 0) (lT ls x.1.toNat) x.2)
theorem goL_cons (st : List Int) (ls : List Lot) (w : Nat) (x : Int × Int) (r B : HH.Row) (s t : Int) : goL st ls w (x :: r) B s t = if manyP (s - st.getD x.1.toNat 0) (lT ls x.1.toNat) x.2 < x.2 then
      (if manyP (s - st.getD x.1.toNat 0) (lT ls x.1.toNat) x.2 > 0 then r.reverse ++ (x.1, x.2 - manyP (s - st.getD x.1.toNat 0) (lT ls x.1.toNat) x.2) :: ((w : Int), lM ls w) :: (x.1, manyP (s - st.getD x.1.toNat 0) (lT ls x.1.toNat) x.2) :: B else r.reverse ++ x :: ((w : Int), lM ls w) :: B,
        s - manyP (s - st.getD x.1.toNat 0) (lT ls x.1.toNat) x.2 * lT ls x.1.toNat, t + manyP (s - st.getD x.1.toNat 0) (lT ls x.1.toNat) x.2)
    else goL st ls w r (x :: B) (s - manyP (s - st.getD x.1.toNat 0) (lT ls x.1.toNat) x.2 * lT ls x.1.toNat) (t + manyP (s - st.getD x.1.toNat 0) (lT ls x.1.toNat) x.2) := by rw [goL]
def endG (ls : List Lot) : Nat → HH.Row × List Int × List Int
  | 0 => ([], ls.map (·.1), [])
  | w + 1 => let e := endG ls w; let R := goL e.2.1 ls w e.1.reverse [] (e.2.1.getD w 0) 0; (R.1, e.2.1.set w R.2.1, e.2.2 ++ [R.2.2])
def Fit (ls : List Lot) : Prop := ls.length ≤ 100 ∧ ∀ l ∈ ls, 0 ≤ l.2.1 ∧ l.2.1 < 1152921504606846976 ∧ 0 ≤ l.2.2 ∧ l.2.2 < 1152921504606846976
theorem lot_get {ls : List Lot} {i : Nat} (h : i < ls.length) : ls[i]? = some (lS ls i, lT ls i, lM ls i) := by
  unfold lS lT lM
  rw [List.getElem?_eq_getElem h]
  rfl
theorem Fit.at' {ls : List Lot} (h : Fit ls) {i : Nat} (hi : i < ls.length) : 0 ≤ lT ls i ∧ lT ls i < 1152921504606846976 ∧ 0 ≤ lM ls i ∧ lM ls i < 1152921504606846976 := h.2 _ (List.mem_of_getElem? (lot_get hi))
def Bel (w : Nat) (line : HH.Row) : Prop := ∀ x ∈ line, ∃ j : Nat, x.1 = (j : Int) ∧ j < w
theorem Bel.app {w : Nat} {a b : HH.Row} (h : Bel w a) (g : Bel w b) : Bel w (a ++ b) := fun x hx => (List.mem_append.mp hx).elim (h x) (g x)
theorem Bel.up {w : Nat} {a : HH.Row} (h : Bel w a) : Bel (w + 1) a := fun x hx => by
  obtain ⟨j, e, hj⟩ := h x hx
  exact ⟨j, e, by omega⟩
theorem goL_bel {st : List Int} {ls : List Lot} {w : Nat} : ∀ {r B : HH.Row} {s t : Int}, Bel w r → Bel w B → Bel (w + 1) (goL st ls w r B s t).1 ∧ (goL st ls w r B s t).1.length ≤ r.length + B.length + 2
  | [], B, s, t, _, hB => by
    refine ⟨fun x hx => ?_, by show (B.length + 1) ≤ _; simp only [List.length_nil]; omega⟩
    rcases List.mem_cons.mp hx with rfl | hx
    · exact ⟨w, rfl, by omega⟩
    · exact hB.up x hx
  | x :: r, B, s, t, hr, hB => by
    have hx := hr x (List.mem_cons_self ..)
    have hr' : Bel w r := fun y hy => hr y (List.mem_cons_of_mem _ hy)
    unfold goL
    split
    · have hw : ∃ j : Nat, (w : Int) = (j : Int) ∧ j < w + 1 := ⟨w, rfl, by omega⟩
      have hx' : ∃ j : Nat, x.1 = (j : Int) ∧ j < w + 1 := by
        obtain ⟨j, e, hj⟩ := hx
        exact ⟨j, e, by omega⟩
      dsimp only
      split
      · refine ⟨fun y hy => ?_, by simp only [List.length_append, List.length_reverse, List.length_cons]; omega⟩
        simp only [List.mem_append, List.mem_reverse, List.mem_cons] at hy
        rcases hy with hy | rfl | rfl | rfl | hy
        · exact hr'.up y hy
        · exact hx'
        · exact hw
        · exact hx'
        · exact hB.up y hy
      · refine ⟨fun y hy => ?_, by simp only [List.length_append, List.length_reverse, List.length_cons]; omega⟩
        simp only [List.mem_append, List.mem_reverse, List.mem_cons] at hy
        rcases hy with hy | rfl | rfl | hy
        · exact hr'.up y hy
        · exact hx'
        · exact hw
        · exact hB.up y hy
    · have := goL_bel (st := st) (ls := ls) (s := s - manyP (s - st.getD x.1.toNat 0) (lT ls x.1.toNat) x.2 * lT ls x.1.toNat) (t := t + manyP (s - st.getD x.1.toNat 0) (lT ls x.1.toNat) x.2) hr' (B := x :: B) (fun y hy => by
        rcases List.mem_cons.mp hy with rfl | hy
        · exact hx
        · exact hB y hy)
      refine ⟨this.1, ?_⟩
      have := this.2
      simp only [List.length_cons] at this ⊢
      omega
theorem endG_facts (ls : List Lot) : ∀ w, Bel w (endG ls w).1 ∧ (endG ls w).1.length ≤ 2 * w ∧ (endG ls w).2.1.length = ls.length ∧ (endG ls w).2.2.length = w
  | 0 => ⟨(fun x hx => by cases hx), Nat.le_refl _, List.length_map .., rfl⟩
  | w + 1 => by
    obtain ⟨h1, h2, h3, h4⟩ := endG_facts ls w
    have g := goL_bel (st := (endG ls w).2.1) (ls := ls) (w := w) (r := (endG ls w).1.reverse) (B := []) (s := (endG ls w).2.1.getD w 0) (t := 0) (fun x hx => h1 x (List.mem_reverse.mp hx)) (fun x hx => by cases hx)
    rw [List.length_reverse] at g
    refine ⟨g.1, ?_, ?_, ?_⟩
    · show (goL _ _ _ _ _ _ _).1.length ≤ _
      have := g.2
      simp only [List.length_nil] at this
      omega
    · show (List.set _ _ _).length = _
      rw [List.length_set, h3]
    · show (_ ++ [_]).length = _
      rw [List.length_append, h4]
      rfl
def goF (st : List Int) (ls : List Lot) (w : Nat) : List Nat → List Nat → Int → List Nat × Int
  | pre, [], s => (pre ++ [w], s)
  | pre, x :: r, s => if s > st.getD x 0 then goF st ls w (pre ++ [x]) r (s + lM ls x * lT ls x) else (pre ++ w :: x :: r, s)
def begG (ls : List Lot) (n : Nat) : Nat → List Nat × List Int
  | 0 => ([], ls.map (·.1))
  | k + 1 => let e := begG ls n k; let R := goF e.2 ls (n - (k + 1)) [] e.1 (e.2.getD (n - (k + 1)) 0); (R.1, e.2.set (n - (k + 1)) R.2)
def lastLots (ls : List Lot) : List Lot := (endG ls ls.length).1.map fun x => ((endG ls ls.length).2.1.getD x.1.toNat 0, lT ls x.1.toNat, x.2)
def firstLots (ls : List Lot) : List Lot := (begG ls ls.length ls.length).1.map fun x => ((begG ls ls.length ls.length).2.getD x 0, lT ls x, lM ls x)
def plcF (l : Nat) : HH.Row → Int → Option Int → Option Int
  | [], _, o => o
  | x :: r, p, o => plcF l r (p + x.2) (if x.1 = (l : Int) ∧ o = none then some p else o)
def plcB (l : Nat) : HH.Row → Int → Option Int → Option Int
  | [], _, o => o
  | x :: r, p, o => plcB l r (p + x.2) (if x.1 = (l : Int) then some (p + x.2 - 1) else o)
def placesG (ls : List Lot) : HH.Row := (List.range ls.length).map fun l => ((plcF l (endG ls ls.length).1 0 none).getD 0, (plcB l (endG ls ls.length).1 0 none).getD 0)
theorem goF_perm {st : List Int} {ls : List Lot} {w : Nat} : ∀ {R pre : List Nat} {s : Int}, (goF st ls w pre R s).1.Perm (w :: (pre ++ R))
  | [], pre, s => by
    rw [goF, List.append_nil]
    exact List.perm_append_singleton ..
  | x :: r, pre, s => by
    rw [goF]
    split
    · refine goF_perm.trans ?_
      rw [List.append_assoc]
      exact .refl _
    · exact List.perm_middle
theorem begG_facts (ls : List Lot) : ∀ k, k ≤ ls.length → (∀ x ∈ (begG ls ls.length k).1, ls.length ≤ x + k ∧ x < ls.length) ∧ (begG ls ls.length k).1.length = k ∧ (begG ls ls.length k).2.length = ls.length
  | 0, _ => ⟨(fun x hx => by cases hx), rfl, List.length_map ..⟩
  | k + 1, hk => by
    obtain ⟨h1, h2, h3⟩ := begG_facts ls k (by omega)
    have p := goF_perm (st := (begG ls ls.length k).2) (ls := ls) (w := ls.length - (k + 1)) (R := (begG ls ls.length k).1) (pre := []) (s := (begG ls ls.length k).2.getD (ls.length - (k + 1)) 0)
    refine ⟨fun x hx => ?_, ?_, ?_⟩
    · have hx := p.mem_iff.mp hx
      rcases List.mem_cons.mp hx with rfl | hx
      · omega
      · have := h1 x hx
        omega
    · have := p.length_eq
      rw [List.length_cons] at this
      show (goF _ _ _ _ _ _).1.length = _
      rw [this]
      show (begG ls ls.length k).1.length + 1 = k + 1
      rw [h2]
    · show (List.set _ _ _).length = _
      rw [List.length_set, h3]
theorem plcF_some {l : Nat} : ∀ {line : HH.Row} {p : Int} {o : Option Int}, (o ≠ none ∨ ∃ x ∈ line, x.1 = (l : Int)) → ∃ i, plcF l line p o = some i
  | [], p, o, h => by
    rcases h with h | ⟨x, hx, _⟩
    · exact Option.ne_none_iff_exists'.mp h
    · cases hx
  | x :: r, p, o, h => by
    rw [plcF]
    refine plcF_some ?_
    by_cases hc : x.1 = (l : Int) ∧ o = none
    · rw [if_pos hc]
      exact .inl (by simp)
    · rw [if_neg hc]
      rcases h with h | ⟨y, hy, e⟩
      · exact .inl h
      · rcases List.mem_cons.mp hy with rfl | hy
        · exact .inl fun z => hc ⟨e, z⟩
        · exact .inr ⟨y, hy, e⟩
theorem plcB_some {l : Nat} : ∀ {line : HH.Row} {p : Int} {o : Option Int}, (o ≠ none ∨ ∃ x ∈ line, x.1 = (l : Int)) → ∃ i, plcB l line p o = some i
  | [], p, o, h => by
    rcases h with h | ⟨x, hx, _⟩
    · exact Option.ne_none_iff_exists'.mp h
    · cases hx
  | x :: r, p, o, h => by
    rw [plcB]
    refine plcB_some ?_
    by_cases hc : x.1 = (l : Int)
    · rw [if_pos hc]
      exact .inl (by simp)
    · rw [if_neg hc]
      rcases h with h | ⟨y, hy, e⟩
      · exact .inl h
      · rcases List.mem_cons.mp hy with rfl | hy
        · exact (hc e).elim
        · exact .inr ⟨y, hy, e⟩
end HH
set_option maxHeartbeats 4000000
namespace HH
open PySem PySem.Spec PyProof.Rows L2 Evl RZ
def spManyP : Sp := fun vs H Q _ => ∃ a b c : Int, vs = [.int a, .int b, .int c] ∧ 0 ≤ b ∧ b < 1152921504606846976 ∧ RetV (.int (manyP a b c)) H Q
def spPassLots (K : PySem.W.Frag) : Sp := fun vs H Q _ => ∃ (l sa : Addr) (v : V) (us : List V) (line : HH.Row) (st : List Int) (ls : List Lot) (w : Nat), vs = [.ref l, .ref sa, v, .int (w : Int)] ∧ H l = some (.lst us) ∧ BeastsT H us line ∧ H sa = some (.lst (st.map V.int)) ∧ l ≠ sa ∧ HerdAt K H v ls ∧ Fit ls ∧ st.length = ls.length ∧ w < ls.length ∧ Bel w line ∧ line.length ≤ 1000 ∧
  ∀ us' H', ExB2 l sa H H' → H' l = some (.lst us') → BeastsT H' us' (goL st ls w line.reverse [] (st.getD w 0) 0).1 → H' sa = some (.lst ((st.set w (goL st ls w line.reverse [] (st.getD w 0) 0).2.1).map V.int)) → Q (.int (goL st ls w line.reverse [] (st.getD w 0) 0).2.2) H'
def spHerdEnd (K : PySem.W.Frag) : Sp := fun vs H Q _ => ∃ (v : V) (ls : List Lot), vs = [v] ∧ HerdAt K H v ls ∧ Fit ls ∧ ∀ (q l sa ta : Addr) (us : List V) H', Ex H H' → H l = none → H sa = none → H ta = none → SqT K H' q [.ref l, .ref sa, .ref ta] → H' l = some (.lst us) → BeastsT H' us (endG ls ls.length).1 → H' sa = some (.lst ((endG ls ls.length).2.1.map V.int)) → H' ta = some (.lst ((endG ls ls.length).2.2.map V.int)) → Q (.ref q) H'
def spHerd1 (K : PySem.W.Frag) (f : List Lot → List Lot) : Sp := fun vs H Q _ => ∃ (v : V) (ls : List Lot), vs = [v] ∧ HerdAt K H v ls ∧ Fit ls ∧ ∀ z H', Ex H H' → HerdAt K H' z (packL (f ls)) → Q z H'
def spFallLots (K : PySem.W.Frag) : Sp := fun vs H Q _ => ∃ (l sa : Addr) (v : V) (line : List Nat) (st : List Int) (ls : List Lot) (w : Nat), vs = [.ref l, .ref sa, v, .int (w : Int)] ∧ H l = some (.lst (natsV line)) ∧ H sa = some (.lst (st.map V.int)) ∧ l ≠ sa ∧ HerdAt K H v ls ∧ Fit ls ∧ st.length = ls.length ∧ w < ls.length ∧ (∀ x ∈ line, w < x ∧ x < ls.length) ∧ line.length ≤ 1000 ∧
  ∀ H', ExB2 l sa H H' → H' l = some (.lst (natsV (goF st ls w [] line (st.getD w 0)).1)) → H' sa = some (.lst ((st.set w (goF st ls w [] line (st.getD w 0)).2).map V.int)) → Q .non H'
def spHerdPassed (K : PySem.W.Frag) : Sp := fun vs H Q _ => ∃ (v : V) (ls : List Lot), vs = [v] ∧ HerdAt K H v ls ∧ Fit ls ∧ RetL ((endG ls ls.length).2.2.map V.int) H Q
def passingsG (ls : List Lot) : Int := ((List.range ls.length).map fun i => (endG ls ls.length).2.2.getD i 0 * lM ls i).sum
def spHerdPassings (K : PySem.W.Frag) : Sp := fun vs H Q _ => ∃ (v : V) (ls : List Lot), vs = [v] ∧ HerdAt K H v ls ∧ Fit ls ∧ RetV (.int (passingsG ls)) H Q
def spHerdPlaces (K : PySem.W.Frag) : Sp := fun vs H Q _ => ∃ (v : V) (ls : List Lot), vs = [v] ∧ HerdAt K H v ls ∧ Fit ls ∧ (∀ i, i < ls.length → ∃ x ∈ (endG ls ls.length).1, x.1 = (i : Int)) ∧ ∀ (q : Addr) (us : List V) H', H q = none → Ex H H' → H' q = some (.lst us) → BeastsT H' us (placesG ls) → Q (.ref q) H'
section
variable {K : PySem.W.Frag} {H H' H0 H1 H2 : Hp} {σ : L2.St} {te ta tb tc ti : TE} {D : Ends} {v : V} {ls : List Lot} {tz : TS}
theorem HerdAt.exL {q : Addr} {ys : List V} (h : HerdAt K H v ls) (e : ExB q H H') (hq : H q = some (.lst ys)) : HerdAt K H' v ls := by
  obtain ⟨a, us, h1, h2, h3⟩ := h
  exact ⟨a, us, h1, e.t hq h2, LotsA.exB' h3 e hq⟩
theorem herd_at (h : HerdAt K H v ls) {i : Nat} (hi : i < ls.length) : ∃ a us p, v = .ref a ∧ SqT K H a us ∧ us[i]? = some (.ref p) ∧ SqT K H p [.int (lS ls i), .int (lT ls i), .int (lM ls i)] := by
  obtain ⟨a, us, rfl, h2, h3⟩ := h
  obtain ⟨u, hu⟩ : ∃ u, us[i]? = some u := ⟨_, List.getElem?_eq_getElem (by rw [All2.len h3]; exact hi)⟩
  obtain ⟨l, hl, p, rfl, hp⟩ := All2.get h3 hu
  rw [lot_get hi] at hl
  cases hl
  exact ⟨a, us, p, rfl, h2, hu, hp⟩
theorem ev_lotT {i : Nat} (h : Ev te σ H v) (hi : Ev ti σ H (.int (i : Int))) (hv : HerdAt K H v ls) (hlt : i < ls.length) : Ev (tOp (rIxT K) (tOp (rIxT K) te ti) (tC (.int 1))) σ H (.int (lT ls i)) := by
  obtain ⟨a, us, p, rfl, h1, h2, h3⟩ := herd_at hv hlt
  exact ev_op (ev_op h hi (rv_ixT h1 (atI_nat h2))) ev_c (rv_ixT h3 rfl)
theorem ev_lotM {i : Nat} (h : Ev te σ H v) (hi : Ev ti σ H (.int (i : Int))) (hv : HerdAt K H v ls) (hlt : i < ls.length) : Ev (tOp (rIxT K) (tOp (rIxT K) te ti) (tC (.int 2))) σ H (.int (lM ls i)) := by
  obtain ⟨a, us, p, rfl, h1, h2, h3⟩ := herd_at hv hlt
  exact ev_op (ev_op h hi (rv_ixT h1 (atI_nat h2))) ev_c (rv_ixT h3 rfl)
theorem ev_lenH (h : Ev te σ H v) (hv : HerdAt K H v ls) : Ev (tCB (rLenS K) (tCons te tNil)) σ H (.int (ls.length : Int)) := by
  obtain ⟨a, us, rfl, h2, h3⟩ := hv
  rw [← All2.len h3]
  exact ev_lenT h h2
theorem getD_at {st : List Int} {i : Nat} (h : i < st.length) : atI (st.map V.int) (i : Int) = some (.int (st.getD i 0)) := atI_nat (by
  rw [List.getElem?_map, List.getElem?_eq_getElem h, List.getD_eq_getElem?_getD, List.getElem?_eq_getElem h]
  rfl)
theorem getD_set {st : List Int} {i j : Nat} {x : Int} (hi : i < st.length) : (st.set i x).getD j 0 = if i = j then x else st.getD j 0 := by
  rw [List.getD_eq_getElem?_getD, List.getD_eq_getElem?_getD]
  by_cases h : i = j
  · subst h
    rw [if_pos rfl, List.getElem?_set_self hi]
    rfl
  · rw [if_neg h, List.getElem?_set_ne h]
theorem lt_map {t1 t2 t3 : TE} {i j : Nat} {vs : List Nat} {ps : HH.Row} {l : Addr} {us : List V} (f : Int × Int → Lot) (h : Ev te σ H (.ref l)) (hl : H l = some (.lst us)) (bs : BeastsT H us ps) (hn : ps.length ≤ 2000) (hw : ∀ x y, wipe (((wipe σ vs).set i (some x)).set j (some y)) vs = wipe σ vs)
    (h1 : ∀ (b : Int × Int) H1, Ex H H1 → b ∈ ps → Ev t1 (((wipe σ vs).set i (some (.int b.1))).set j (some (.int b.2))) H1 (.int (f b).1)) (h2 : ∀ (b : Int × Int) H1, Ex H H1 → b ∈ ps → Ev t2 (((wipe σ vs).set i (some (.int b.1))).set j (some (.int b.2))) H1 (.int (f b).2.1)) (h3 : ∀ (b : Int × Int) H1, Ex H H1 → b ∈ ps → Ev t3 (((wipe σ vs).set i (some (.int b.1))).set j (some (.int b.2))) H1 (.int (f b).2.2)) :
    ∀ H1, Ex H H1 → ∀ Q : VK, (∀ q ws H2, H1 q = none → Ex H1 H2 → H2 q = some (.lst ws) → LotsA K H2 ws (ps.map f) → Q (.ref q) H2) → tLc (iList K te) (gTup K 2 (gCons (gName i) (gCons (gName j) gNil))) tYes (tTup (tCons t1 (tCons t2 (tCons t3 tNil)))) vs σ H1 Q := fun H0 e0 Q q => by
  refine h H0 e0 _ fun H1 e1 => ⟨l, rfl, ⟨us, sq_of ((e0.trans e1) _ _ hl)⟩, fun D hD => ?_⟩
  have e01 := e0.trans e1
  have ul : us.length = ps.length := bs.len
  have hl1 := e01 _ _ hl
  refine in_it (walk_list (xs := us)) (fun k H2 => Ex H1 H2 ∧ ∃ ws, H2 D = some (.lst ws) ∧ LotsA K H2 ws ((ps.take k).map f)) ⟨Ex.new hD, [], upd_same, .nil⟩ (fun k H2 _ z => sq_of (z.1 _ _ hl1)) (fun k x H2 H3 hk z y => ?_) (fun H2 z => ?_)
  · obtain ⟨rfl, hx⟩ := y
    obtain ⟨z1, ws, z2, z3⟩ := z
    obtain ⟨b, hb, pp, rfl, hpp⟩ := bs.get hx
    have hm := List.mem_of_getElem? hb
    refine ⟨pp, _, rfl, st_of (z1 _ _ (e01 _ _ hpp)), rfl, _, _, rfl, _, _, rfl, rfl, hw _ _, ?_⟩
    refine t_yes ?_
    refine (h1 b _ (e01.trans z1) hm) _ (Ex.refl _) _ fun H4 e4 => ?_
    refine (h2 b H4 ((e01.trans z1).trans e4) hm) H4 (Ex.refl _) _ fun H5 e5 => ?_
    refine (h3 b H5 (((e01.trans z1).trans e4).trans e5) hm) H5 (Ex.refl _) _ fun H6 e6 => ⟨by show 3 ≤ sizeLine; decide, fun T hT => ?_⟩
    have nT := Ex.new (o := .tup [V.int (f b).1, .int (f b).2.1, .int (f b).2.2]) hT
    have e25 := (e4.trans e5).trans e6
    have g7 := nT _ _ (e25 _ _ z2)
    refine ⟨ws, g7, sz_lt (by rw [All2.len z3, List.length_map, List.length_take]; omega), Ex.mut ((z1.trans e25).trans nT) hD, ws ++ [.ref T], upd_same, ?_⟩
    rw [List.take_add_one, hb, List.map_append]
    exact All2.app (LotsA.exB' (LotsA.ex' z3 (e25.trans nT)) (ExB.refl _ _).upd g7) (.cons (LotAt.exB ⟨T, rfl, st_of upd_same⟩ (ExB.refl _ _).upd g7) .nil)
  · obtain ⟨z1, ws, z2, z3⟩ := z
    rw [ul, List.take_length] at z3
    exact q D ws H2 (fresh_back e1 hD) (e1.trans z1) z2 z3
theorem lt_mapN {t1 t2 t3 : TE} {j : Nat} {vs : List Nat} {ns : List Nat} {l : Addr} (f : Nat → Lot) (h : Ev te σ H (.ref l)) (hl : H l = some (.lst (natsV ns))) (hn : ns.length ≤ 2000) (hw : ∀ x, wipe ((wipe σ vs).set j (some x)) vs = wipe σ vs)
    (h1 : ∀ b H1, Ex H H1 → b ∈ ns → Ev t1 ((wipe σ vs).set j (some (.int (b : Int)))) H1 (.int (f b).1)) (h2 : ∀ b H1, Ex H H1 → b ∈ ns → Ev t2 ((wipe σ vs).set j (some (.int (b : Int)))) H1 (.int (f b).2.1)) (h3 : ∀ b H1, Ex H H1 → b ∈ ns → Ev t3 ((wipe σ vs).set j (some (.int (b : Int)))) H1 (.int (f b).2.2)) :
    ∀ H1, Ex H H1 → ∀ Q : VK, (∀ q ws H2, H1 q = none → Ex H1 H2 → H2 q = some (.lst ws) → LotsA K H2 ws (ns.map f) → Q (.ref q) H2) → tLc (iList K te) (gName j) tYes (tTup (tCons t1 (tCons t2 (tCons t3 tNil)))) vs σ H1 Q := fun H0 e0 Q q => by
  refine h H0 e0 _ fun H1 e1 => ⟨l, rfl, ⟨_, sq_of ((e0.trans e1) _ _ hl)⟩, fun D hD => ?_⟩
  have e01 := e0.trans e1
  have hl1 := e01 _ _ hl
  refine in_it (walk_list (xs := natsV ns)) (fun k H2 => Ex H1 H2 ∧ ∃ ws, H2 D = some (.lst ws) ∧ LotsA K H2 ws ((ns.take k).map f)) ⟨Ex.new hD, [], upd_same, .nil⟩ (fun k H2 _ z => sq_of (z.1 _ _ hl1)) (fun k x H2 H3 hk z y => ?_) (fun H2 z => ?_)
  · obtain ⟨rfl, hx⟩ := y
    obtain ⟨z1, ws, z2, z3⟩ := z
    have hk' : k < ns.length := by
      rw [natsV_len] at hk
      exact hk
    have hb : ns[k]? = some ns[k] := List.getElem?_eq_getElem hk'
    have hx' : x = .int (ns[k] : Int) := by
      have := natsV_at hb
      rw [hx] at this
      exact Option.some.inj this
    subst hx'
    generalize ns[k] = b at hb hx
    have hm := List.mem_of_getElem? hb
    refine ⟨hw _, t_yes ?_⟩
    refine (h1 b _ (e01.trans z1) hm) _ (Ex.refl _) _ fun H4 e4 => ?_
    refine (h2 b H4 ((e01.trans z1).trans e4) hm) H4 (Ex.refl _) _ fun H5 e5 => ?_
    refine (h3 b H5 (((e01.trans z1).trans e4).trans e5) hm) H5 (Ex.refl _) _ fun H6 e6 => ⟨by show 3 ≤ sizeLine; decide, fun T hT => ?_⟩
    have nT := Ex.new (o := .tup [V.int (f b).1, .int (f b).2.1, .int (f b).2.2]) hT
    have e25 := (e4.trans e5).trans e6
    have g7 := nT _ _ (e25 _ _ z2)
    refine ⟨ws, g7, sz_lt (by rw [All2.len z3, List.length_map, List.length_take]; omega), Ex.mut ((z1.trans e25).trans nT) hD, ws ++ [.ref T], upd_same, ?_⟩
    rw [List.take_add_one, hb, List.map_append]
    exact All2.app (LotsA.exB' (LotsA.ex' z3 (e25.trans nT)) (ExB.refl _ _).upd g7) (.cons (LotAt.exB ⟨T, rfl, st_of upd_same⟩ (ExB.refl _ _).upd g7) .nil)
  · obtain ⟨z1, ws, z2, z3⟩ := z
    rw [natsV_len, List.take_length] at z3
    exact q D ws H2 (fresh_back e1 hD) (e1.trans z1) z2 z3
theorem sqt_ex2 {a b c : Addr} {xs ys zs : List V} (h : SqT K H c zs) (e : ExB2 a b H H') (ha : H a = some (.lst xs)) (hb : H b = some (.lst ys)) : SqT K H' c zs := by
  rcases h with h | h
  · refine .inl ?_
    rcases h with h | ⟨o, h⟩
    · exact .inl (e c _ (fun z => by rw [z, ha] at h; cases h) (fun z => by rw [z, hb] at h; cases h) h)
    · exact .inr ⟨o, e c _ (fun z => by rw [z, ha] at h; cases h) (fun z => by rw [z, hb] at h; cases h) h⟩
  · exact .inr h
theorem HerdAt.ex2 {a b : Addr} {xs ys : List V} (h : HerdAt K H v ls) (e : ExB2 a b H H') (ha : H a = some (.lst xs)) (hb : H b = some (.lst ys)) : HerdAt K H' v ls := by
  obtain ⟨c, us, h1, h2, h3⟩ := h
  exact ⟨c, us, h1, sqt_ex2 h2 e ha hb, All2.mono (fun _ _ ⟨p, g1, g2⟩ => ⟨p, g1, sqt_ex2 g2 e ha hb⟩) h3⟩
theorem ExB2.of {a b : Addr} (e : Ex H H') : ExB2 a b H H' := fun c o _ _ h => e c o h
theorem ExB2.trans {a b : Addr} (x : ExB2 a b H H1) (y : ExB2 a b H1 H2) : ExB2 a b H H2 := fun c o n1 n2 h => y c o n1 n2 (x c o n1 n2 h)
theorem ExB2.fst {a b : Addr} {o : HO} (x : ExB2 a b H H') : ExB2 a b H (upd H' a o) := fun c u n1 n2 h => by
  rw [upd_ne n1]
  exact x c u n1 n2 h
theorem ExB2.snd {a b : Addr} {o : HO} (x : ExB2 a b H H') : ExB2 a b H (upd H' b o) := fun c u n1 n2 h => by
  rw [upd_ne n2]
  exact x c u n1 n2 h
def rIns : V → List V → Hp → VK → Prop := fun x vs H Q => ∃ (l : Addr) (xs : List V) (i : Int) (y : V), x = .ref l ∧ vs = [.int i, y] ∧ H l = some (.lst xs) ∧ xs.length < sizeLine ∧ 0 ≤ i ∧ i < 2 ^ 63 ∧ Q .non (upd H l (.lst (xs.take i.toNat ++ [y] ++ xs.drop i.toNat)))
theorem s_setPT {l : Addr} {xs : List V} {j : Nat} {a b : Int} (hl : H l = some (.lst xs)) (h1 : Ev ta σ H (.int a)) (h2 : Ev tb σ H (.int b)) (ho : Ev tc σ H (.ref l)) (hi : Ev ti σ H (.int (j : Int))) (hj : j < xs.length) (k : ∀ T H1, Ex H H1 → H1 l = some (.lst xs) → H1 T = some (.tup [.int a, .int b]) → D.nx σ (upd H1 l (.lst (xs.set j (.ref T))))) : tAsg (tTup (tCons ta (tCons tb tNil))) (gSub tc ti rSetL) D σ H :=
  h1 H (Ex.refl H) _ fun H1 e1 => h2 H1 e1 _ fun H2 e2 => ⟨by show 2 ≤ sizeLine; decide, fun T hT => by
    have e3 := (e1.trans e2).trans (Ex.new (o := .tup [V.int a, .int b]) hT)
    have g3 : (upd H2 T (.tup [V.int a, .int b])) T = some (.tup [V.int a, .int b]) := upd_same
    generalize upd H2 T (.tup [V.int a, .int b]) = H3 at e3 g3
    refine ho H3 e3 _ fun H4 e4 => hi H4 (e3.trans e4) _ fun H5 e5 => ⟨l, xs, (j : Int), j, rfl, rfl, (e3.trans (e4.trans e5)) _ _ hl, ixN_nat hj, k T H5 (e3.trans (e4.trans e5)) ((e3.trans (e4.trans e5)) _ _ hl) ((e4.trans e5) _ _ g3)⟩⟩
theorem q_setPT {l : Addr} {xs : List V} {j : Nat} {a b : Int} (hl : H l = some (.lst xs)) (h1 : Ev ta σ H (.int a)) (h2 : Ev tb σ H (.int b)) (ho : Ev tc σ H (.ref l)) (hi : Ev ti σ H (.int (j : Int))) (hj : j < xs.length) (k : ∀ T H1, Ex H H1 → H1 l = some (.lst xs) → H1 T = some (.tup [.int a, .int b]) → tz D σ (upd H1 l (.lst (xs.set j (.ref T))))) : tSeq (tAsg (tTup (tCons ta (tCons tb tNil))) (gSub tc ti rSetL)) tz D σ H := s_setPT (D := { D with nx := tz D }) hl h1 h2 ho hi hj k
theorem s_insPT {l : Addr} {xs : List V} {j : Nat} {a b : Int} (hl : H l = some (.lst xs)) (h1 : Ev ta σ H (.int a)) (h2 : Ev tb σ H (.int b)) (ho : Ev tc σ H (.ref l)) (hi : Ev ti σ H (.int (j : Int))) (hn : xs.length ≤ 5000) (hj : j ≤ 10000) (k : ∀ T H1, Ex H H1 → H1 l = some (.lst xs) → H1 T = some (.tup [.int a, .int b]) → D.nx σ (upd H1 l (.lst (xs.take j ++ .ref T :: xs.drop j)))) : tDrop (tBM K "list" rIns tc (tCons ti (tCons (tTup (tCons ta (tCons tb tNil))) tNil))) D σ H :=
  ho H (Ex.refl H) _ fun H1 e1 => ⟨.inl ⟨rfl, xs, sq_of (e1 _ _ hl)⟩, hi H1 e1 _ fun H2 e2 => h1 H2 (e1.trans e2) _ fun H3 e3 => h2 H3 ((e1.trans e2).trans e3) _ fun H4 e4 => ⟨by show 2 ≤ sizeLine; decide, fun T hT => by
    have e5 := (((e1.trans e2).trans e3).trans e4).trans (Ex.new (o := .tup [V.int a, .int b]) hT)
    have := k T _ e5 (e5 _ _ hl) upd_same
    refine ⟨l, xs, (j : Int), .ref T, rfl, rfl, e5 _ _ hl, sz_lt (by omega), by omega, by omega, ?_⟩
    rw [Int.toNat_natCast, List.append_assoc]
    exact this⟩⟩
theorem ex_ex2 {a b : Addr} (e : Ex H0 H) (x : ExB2 a b H H') (na : H0 a = none) (nb : H0 b = none) : Ex H0 H' := fun c o h => x c o (ne_of_none h na) (ne_of_none h nb) (e c o h)
theorem el_mapH {t : TE} {i j k : Nat} {vs : List Nat} (g : Lot → V) (h : Ev te σ H v) (hv : HerdAt K H v ls) (hl : ls.length ≤ 1000) (hw : ∀ x y z, wipe ((((wipe σ vs).set i (some x)).set j (some y)).set k (some z)) vs = wipe σ vs)
    (h1 : ∀ (b : Lot) H1, Ex H H1 → b ∈ ls → Ev t ((((wipe σ vs).set i (some (.int b.1))).set j (some (.int b.2.1))).set k (some (.int b.2.2))) H1 (g b)) : EvL (tLc (iTup K te) (gTup K 3 (gCons (gName i) (gCons (gName j) (gCons (gName k) gNil)))) tYes t vs) σ H (ls.map g) := fun H0 e0 Q q => by
  obtain ⟨a, us, rfl, hs, la⟩ := hv
  refine h H0 e0 _ fun H1 e1 => ⟨a, rfl, ⟨us, ex_t (e0.trans e1) hs⟩, fun D hD => ?_⟩
  have e01 := e0.trans e1
  have hs := ex_t e01 hs
  have la := LotsA.ex' la e01
  have ul := All2.len la
  refine in_it (walk_tup (xs := us)) (fun n H2 => Ex H1 H2 ∧ H2 D = some (.lst ((ls.take n).map g))) ⟨Ex.new hD, upd_same⟩ (fun n H2 _ z => ex_t z.1 hs) (fun n x H2 H3 hn z y => ?_) (fun H2 z => ?_)
  · obtain ⟨rfl, hx⟩ := y
    obtain ⟨z1, z2⟩ := z
    obtain ⟨b, hb, pp, rfl, hpp⟩ := All2.get la hx
    have hm := List.mem_of_getElem? hb
    refine ⟨pp, _, rfl, ex_t z1 hpp, rfl, _, _, rfl, _, _, rfl, _, _, rfl, rfl, hw _ _ _, ?_⟩
    refine t_yes ?_
    refine (h1 b _ (e01.trans z1) hm) _ (Ex.refl _) _ fun H4 e4 => ?_
    refine ⟨_, e4 _ _ z2, sz_lt (by rw [List.length_map, List.length_take]; omega), Ex.mut (z1.trans e4) hD, ?_⟩
    rw [List.take_add_one, hb, List.map_append]
    exact upd_same
  · obtain ⟨z1, z2⟩ := z
    rw [ul, List.take_length] at z2
    exact q D H2 (fresh_back e1 hD) (e1.trans z1) z2
theorem q_forL0 {te : TE} {g : TG} {tu tz : TS} (h : te σ H fun x H1 => tSeq (tFor (iList K (tC x)) g tu) tz D σ H1) : tSeq (tFor (iList K te) g tu) tz D σ H := h
theorem ev_sumI {ns : List Int} (h : EvL te σ H (ns.map V.int)) : Ev (tCB (rSum K) (tCons te tNil)) σ H (.int ns.sum) := fun H1 e Q q => h H1 e _ fun p H2 hp e2 g => ⟨p, ns, rfl, sq_of g, q H2 e2⟩
theorem el_zipH {i j k m : Nat} {vs : List Nat} {os : List Int} (h : EvL ta σ H (os.map V.int)) (hb : ∀ H1, Ex H H1 → Ev tb σ H1 v) (hv : HerdAt K H v ls) (ho : os.length = ls.length) (hl : ls.length ≤ 1000) (hm : ∀ l ∈ ls, 0 ≤ l.2.2 ∧ l.2.2 < 1152921504606846976) (hw : ∀ a b c d, wipe (((((wipe σ vs).set i (some a)).set j (some b)).set k (some c)).set m (some d)) vs = wipe σ vs)
    (hi : ∀ a b c d : V, (((((wipe σ vs).set i (some a)).set j (some b)).set k (some c)).set m (some d))[i]? = some (some a)) (hmm : ∀ a b c d : V, (((((wipe σ vs).set i (some a)).set j (some b)).set k (some c)).set m (some d))[m]? = some (some d)) :
    EvL (tLc (iZipM K (tCons ta (tCons tb tNil))) (gTup K 2 (gCons (gName i) (gCons (gTup K 3 (gCons (gName j) (gCons (gName k) (gCons (gName m) gNil)))) gNil))) tYes (tOp (rI CMul fun i j => .int (i * j)) (tVar i) (tVar m)) vs) σ H (((List.range ls.length).map fun n => os.getD n 0 * lM ls n).map V.int) := fun H0 e0 Q q => by
  obtain ⟨a, us, rfl, hs, la⟩ := hv
  refine h H0 e0 _ fun p H1 hp e1 g1 => hb H1 (e0.trans e1) H1 (Ex.refl H1) _ fun H2 e2 => ⟨p, a, _, us, rfl, sq_of (e2 _ _ g1), ex_t (e0.trans (e1.trans e2)) hs, fun D hD => ?_⟩
  have e02 := e0.trans (e1.trans e2)
  have hs := ex_t e02 hs
  have la := LotsA.ex' la e02
  have ul := All2.len la
  have gp := e2 _ _ g1
  have hlen : (os.map V.int).length = us.length := by rw [List.length_map, ho, ul]
  refine in_it (walk_zipM hlen) (fun n H3 => Ex H2 H3 ∧ H3 D = some (.lst (((List.range n).map fun n => os.getD n 0 * lM ls n).map V.int))) ⟨Ex.new hD, upd_same⟩ (fun n H3 _ z => ⟨sq_of (z.1 _ _ gp), ex_t z.1 hs⟩) (fun n x H3 H4 hn z y => ?_) (fun H3 z => ?_)
  · obtain ⟨z1, z2⟩ := z
    obtain ⟨T, x1, x2, rfl, hT, rfl, hx1, hx2⟩ := y
    have hx2 : us[n]? = some x2 := hx2
    have hx1 : (os.map V.int)[n]? = some x1 := hx1
    obtain ⟨b, hb', pp, rfl, hpp⟩ := All2.get la hx2
    have hn' : n < ls.length := (List.getElem?_eq_some_iff.mp hb').1
    rw [lot_get hn'] at hb'
    cases hb'
    have hno : n < os.length := by omega
    rw [List.getElem?_map, List.getElem?_eq_getElem hno] at hx1
    cases hx1
    have eo : os.getD n 0 = os[n] := by
      rw [List.getD_eq_getElem?_getD, List.getElem?_eq_getElem hno]
      rfl
    have e5 : Ex H3 (upd H3 T (.tup [V.int os[n], .ref pp])) := Ex.new hT
    refine ⟨T, _, rfl, st_of upd_same, rfl, _, _, rfl, _, _, rfl, ⟨pp, _, rfl, ex_t (z1.trans e5) hpp, rfl, _, _, rfl, _, _, rfl, _, _, rfl, rfl, rfl, hw _ _ _ _, ?_⟩⟩
    refine t_yes ?_
    have bd := hm _ (List.mem_of_getElem? (lot_get hn'))
    refine (ev_op (ev_var (hi _ _ _ _)) (ev_var (hmm _ _ _ _)) (rv_I (.inr ⟨by show -(2 ^ 64) < lM ls n; have := bd.1; dsimp only at this; omega, by show lM ls n < 2 ^ 64; have := bd.2; dsimp only at this; omega⟩))) _ (Ex.refl _) _ fun H6 e6 => ?_
    refine ⟨_, e6 _ _ (e5 _ _ z2), sz_lt (by rw [List.length_map, List.length_map, List.length_range]; omega), Ex.mut ((z1.trans e5).trans e6) hD, ?_⟩
    rw [upd_same, List.range_succ, List.map_append, List.map_append]
    show some (HO.lst (_ ++ [V.int (os[n] * lM ls n)])) = some (HO.lst (_ ++ [V.int (os.getD n 0 * lM ls n)]))
    rw [eo]
  · obtain ⟨z1, z2⟩ := z
    rw [List.length_map, ho] at z2
    exact q D H3 (fresh_back (e1.trans e2) hD) ((e1.trans e2).trans z1) z2
theorem ept_rng {t1 t2 : TE} {tr : TA} {j n : Nat} {vs : List Nat} (f g : Nat → Int) (h : EvA tr σ H [.int (n : Int)]) (hn : n ≤ 1000) (hw : ∀ x, wipe ((wipe σ vs).set j (some x)) vs = wipe σ vs)
    (h1 : ∀ i H1, Ex H H1 → i < n → Ev t1 ((wipe σ vs).set j (some (.int (i : Int)))) H1 (.int (f i))) (h2 : ∀ i H1, Ex H H1 → i < n → Ev t2 ((wipe σ vs).set j (some (.int (i : Int)))) H1 (.int (g i))) :
    EvPr PairT (tLc (iRng1 tr) (gName j) tYes (tTup (tCons t1 (tCons t2 tNil))) vs) σ H ((List.range n).map fun i => (f i, g i)) := fun H0 e0 Q q => by
  refine h H0 e0 _ fun H1 e1 => ⟨(n : Int), rfl, by omega, by omega, fun D hD => ?_⟩
  have e01 := e0.trans e1
  refine in_it walk_range (fun m H2 => Ex H1 H2 ∧ ∃ us, H2 D = some (.lst us) ∧ All2 (PairT H2) us ((List.range m).map fun i => (f i, g i))) ⟨Ex.new hD, [], upd_same, .nil⟩ (fun _ _ _ _ => True.intro) (fun m x H2 H3 hm p y => ?_) (fun H2 p => ?_)
  · obtain ⟨rfl, hx⟩ := y
    have hx : x = V.int (0 + (m : Int)) := hx
    rw [Int.zero_add] at hx
    subst hx
    obtain ⟨p1, us, p2, p3⟩ := p
    have hm' : m < n := by
      have : ((n : Int) - 0).toNat = n := by omega
      omega
    refine ⟨hw _, t_yes ?_⟩
    refine (h1 m _ (e01.trans p1) hm') _ (Ex.refl _) _ fun H4 e4 => ?_
    refine (h2 m H4 ((e01.trans p1).trans e4) hm') H4 (Ex.refl _) _ fun H5 e5 => ⟨by show 2 ≤ sizeLine; decide, fun T hT => ?_⟩
    have nT := Ex.new (o := .tup [V.int (f m), .int (g m)]) hT
    have e25 := e4.trans e5
    refine ⟨us, nT _ _ (e25 _ _ p2), sz_lt (by rw [All2.len p3, List.length_map, List.length_range]; omega), Ex.mut ((p1.trans e25).trans nT) hD, us ++ [.ref T], upd_same, ?_⟩
    rw [List.range_succ, List.map_append]
    exact stb_T.allL (nT _ _ (e25 _ _ p2)) (All2.app (stb_T.all (e25.trans nT) p3) (.cons ⟨T, rfl, upd_same⟩ .nil))
  · obtain ⟨p1, us, p2, p3⟩ := p
    rw [Int.toNat_natCast] at p3
    exact q D us H2 (fresh_back e1 hD) (e1.trans p1) p2 p3
theorem beasts_exD {a b : Addr} {ka kb : List (Key × V)} {us : List V} {ps : HH.Row} (h : BeastsT H us ps) (e : ExB2 a b H H') (ha : H a = some (.dK ka)) (hb : H b = some (.dK kb)) : BeastsT H' us ps := All2.mono (fun _ _ ⟨p, g1, g2⟩ => ⟨p, g1, e p _ (fun z => by rw [z, ha] at g2; cases g2) (fun z => by rw [z, hb] at g2; cases g2) g2⟩) h
theorem et_notinK {d : Addr} {kvs : List (Key × V)} {k : Key} (h1 : Ev ta σ H (kV k)) (h2 : Ev tb σ H (.ref d)) (hd : H d = some (.dK kvs)) : EvT (tB (tDNotIn ta tb)) σ H (!(valV kvs k).isSome) := fun H1 e1 Q q =>
  h1 H1 e1 _ fun H2 e2 => h2 H2 (e1.trans e2) _ fun H3 e3 => ⟨d, _, rfl, DGet.k (((e1.trans e2).trans e3) _ _ hd), _, rfl, q H3 (e2.trans e3)⟩
theorem s_setK {d : Addr} {kvs : List (Key × V)} {k : Key} (h : Ev te σ H v) (ho : Ev ta σ H (.ref d)) (hi : Ev tb σ H (kV k)) (hd : H d = some (.dK kvs)) (hl : kvs.length ≤ 10000) (kk : ∀ H1, Ex H H1 → D.nx σ (upd H1 d (.dK (putK kvs k v)))) : tAsg te (gSub ta tb rSetD) D σ H :=
  h H (Ex.refl H) _ fun H1 e1 => ho H1 e1 _ fun H2 e2 => hi H2 (e1.trans e2) _ fun H3 e3 => ⟨d, _, rfl, DPut.k (((e1.trans e2).trans e3) _ _ hd) (sz_lt (by omega)), kk H3 ((e1.trans e2).trans e3)⟩
theorem putK_len {kvs : List (Key × V)} {k : Key} {v : V} : (putK kvs k v).length ≤ kvs.length + 1 := by
  unfold putK
  split
  · rw [List.length_map]
    omega
  · rw [List.length_append]
    exact Nat.le_refl _
end
end HH
set_option maxHeartbeats 4000000
namespace HH
open PySem PySem.Spec PyProof.Rows L2 Evl RZ
theorem Step.appR {L M : List Cow} (X : List Cow) (h : Step L M) : Step (L ++ X) (M ++ X) := by
  obtain ⟨pre, post, a, b, rfl, hp, rfl⟩ := h
  exact ⟨pre, post ++ X, a, b, by simp, hp, by simp⟩
theorem Step.consL {L M : List Cow} (x : Cow) (h : Step L M) : Step (x :: L) (x :: M) := by
  obtain ⟨pre, post, a, b, rfl, hp, rfl⟩ := h
  exact ⟨x :: pre, post, a, b, rfl, hp, rfl⟩
theorem Steps.appR {L M : List Cow} (X : List Cow) (h : Steps L M) : Steps (L ++ X) (M ++ X) := by
  induction h with
  | refl => exact .refl _
  | head s _ ih => exact .head (s.appR X) ih
theorem Steps.consL {L M : List Cow} (x : Cow) (h : Steps L M) : Steps (x :: L) (x :: M) := by
  induction h with
  | refl => exact .refl _
  | head s _ ih => exact .head (s.consL x) ih
section
variable {K : PySem.W.Frag} {σ : L2.St} {H : Hp} {te ta tb t2 : TE} {D : Ends} {tz : TS}
end
def invJ (l : List Nat) : Nat → HH.Row
  | 0 => []
  | k + 1 => invJ l k ++ ((List.range k).filter fun i => bef l k i).map fun (i : Nat) => ((i : Int), (k : Int))
theorem mem_invJ {l : List Nat} {x : Int × Int} : ∀ {m : Nat}, x ∈ invJ l m ↔ ∃ i j : Nat, i < j ∧ j < m ∧ x = ((i : Int), (j : Int)) ∧ bef l j i = true
  | 0 => ⟨fun h => (by cases h), fun ⟨i, j, h1, h2, _⟩ => absurd h2 (by omega)⟩
  | m + 1 => by
    show x ∈ invJ l m ++ _ ↔ _
    rw [List.mem_append, mem_invJ]
    constructor
    · rintro (⟨i, j, h1, h2, h3, h4⟩ | h)
      · exact ⟨i, j, h1, by omega, h3, h4⟩
      · obtain ⟨i, hi, rfl⟩ := List.mem_map.mp h
        obtain ⟨h1, h2⟩ := List.mem_filter.mp hi
        exact ⟨i, m, List.mem_range.mp h1, by omega, rfl, h2⟩
    · rintro ⟨i, j, h1, h2, rfl, h4⟩
      rcases Nat.lt_or_ge j m with c | c
      · exact .inl ⟨i, j, h1, c, rfl, h4⟩
      · have : j = m := by omega
        subst this
        exact .inr (List.mem_map.mpr ⟨i, List.mem_filter.mpr ⟨List.mem_range.mpr h1, h4⟩, rfl⟩)
theorem nd_invJ {l : List Nat} : ∀ {m : Nat}, (invJ l m).Nodup
  | 0 => List.nodup_nil
  | m + 1 => by
    refine List.nodup_append.mpr ⟨nd_invJ, ?_, fun a ha b hb e => ?_⟩
    · refine List.Pairwise.map _ (fun a b (h : a ≠ b) z => h ?_) (List.nodup_range.filter _)
      have := congrArg Prod.fst z
      exact Int.ofNat.inj this
    · subst e
      obtain ⟨i, j, _, h2, rfl, _⟩ := mem_invJ.mp ha
      obtain ⟨i', _, h3⟩ := List.mem_map.mp hb
      have h4 : (m : Int) = (j : Int) := congrArg Prod.snd h3
      omega
theorem invJ_succ (l : List Nat) (m : Nat) : (invJ l (m + 1)).length = (invJ l m).length + ((List.range m).filter fun i => bef l m i).length := by
  show (invJ l m ++ _).length = _
  rw [List.length_append, List.length_map]
section
variable {K : PySem.W.Frag} {σ : L2.St} {H : Hp} {te ta tb t2 : TE} {D : Ends} {tz : TS}
end
end HH
set_option maxHeartbeats 4000000
namespace HH
open PySem PySem.Spec PyProof.Rows L2 Evl RZ
theorem Steps.appL {L M : List Cow} (X : List Cow) (h : Steps L M) : Steps (X ++ L) (X ++ M) := by
  have := h.under X []
  simpa using this
theorem FSteps.appL {L M : List Cow} (X : List Cow) (h : FSteps L M) : FSteps (X ++ L) (X ++ M) := by
  have := h.under X []
  simpa using this
theorem FSteps.appRR {L M : List Cow} (X : List Cow) (h : FSteps L M) : FSteps (L ++ X) (M ++ X) := by
  have := h.under [] X
  simpa using this
theorem rep_snoc {α : Type} (m : Nat) (y : α) : List.replicate (m + 1) y = List.replicate m y ++ [y] := by
  rw [List.replicate_succ']
theorem pass_rep (w : Nat) (t : Int) (y : Cow) (ht : 0 ≤ y.2.2) : ∀ (m : Nat) (s : Int), (∀ j : Nat, j < m → s - (j : Int) * y.2.2 - y.2.2 > y.2.1) → Steps (List.replicate m y ++ [(w, (s, t))]) ((w, (s - (m : Int) * y.2.2, t)) :: List.replicate m y)
  | 0, s, h => by
    show Steps [(w, (s, t))] [(w, (s - ((0 : Nat) : Int) * y.2.2, t))]
    have : s - ((0 : Nat) : Int) * y.2.2 = s := by simp
    rw [this]
    exact .refl _
  | m + 1, s, h => by
    rw [rep_snoc, List.append_assoc]
    have h0 := h 0 (by omega)
    have h0 : s - y.2.2 > y.2.1 := by simpa using h0
    have st : Step (List.replicate m y ++ ([y] ++ [(w, (s, t))])) (List.replicate m y ++ (w, (s - y.2.2, t)) :: [y]) := ⟨List.replicate m y, [], y, (w, (s, t)), rfl, h0, rfl⟩
    refine .head st ?_
    have ih := pass_rep w t y ht m (s - y.2.2) fun j hj => by
      have := h (j + 1) (by omega)
      have e : ((j + 1 : Nat) : Int) * y.2.2 = (j : Int) * y.2.2 + y.2.2 := by rw [Int.natCast_add, Int.add_mul]; simp
      rw [e] at this
      omega
    have ih := ih.appR [y]
    have e : s - y.2.2 - (m : Int) * y.2.2 = s - ((m + 1 : Nat) : Int) * y.2.2 := by
      have e : ((m + 1 : Nat) : Int) * y.2.2 = (m : Int) * y.2.2 + y.2.2 := by rw [Int.natCast_add, Int.add_mul]; simp
      rw [e]
      omega
    rw [e] at ih
    have e2 : List.replicate m y ++ (w, (s - y.2.2, t)) :: [y] = List.replicate m y ++ [(w, (s - y.2.2, t))] ++ [y] := by simp
    have e3 : (w, (s - ((m + 1 : Nat) : Int) * y.2.2, t)) :: List.replicate (m + 1) y = (w, (s - ((m + 1 : Nat) : Int) * y.2.2, t)) :: List.replicate m y ++ [y] := by
      rw [rep_snoc]
      rfl
    rw [← rep_snoc, e2, e3]
    exact ih
theorem pass_lot (w : Nat) (s t : Int) (y : Cow) (ht : 0 ≤ y.2.2) (m : Nat) (h : ∀ j : Nat, j < m → s - (j : Int) * y.2.2 - y.2.2 > y.2.1) : ∀ M : Nat, Steps (List.replicate m y ++ List.replicate M (w, (s, t))) (List.replicate M (w, (s - (m : Int) * y.2.2, t)) ++ List.replicate m y)
  | 0 => by
    show Steps (List.replicate m y ++ []) ([] ++ List.replicate m y)
    rw [List.append_nil]
    exact .refl _
  | M + 1 => by
    have h1 := (pass_rep w t y ht m s h).appR (List.replicate M (w, (s, t)))
    have h2 := (pass_lot w s t y ht m h M).consL (w, (s - (m : Int) * y.2.2, t))
    have e : List.replicate m y ++ List.replicate (M + 1) (w, (s, t)) = List.replicate m y ++ [(w, (s, t))] ++ List.replicate M (w, (s, t)) := by
      rw [List.append_assoc]
      rfl
    rw [e]
    exact h1.trans h2
theorem many_ok {spare t many : Int} (ht : 0 ≤ t) (hm : 0 ≤ many) : 0 ≤ manyP spare t many ∧ manyP spare t many ≤ many ∧ (∀ j : Nat, (j : Int) < manyP spare t many → spare - (j : Int) * t - t > 0) ∧ (manyP spare t many < many → spare - manyP spare t many * t - t ≤ 0) ∧ (0 < manyP spare t many → spare - manyP spare t many * t > 0) := by
  unfold manyP
  split
  · refine ⟨Int.le_refl _, hm, fun j hj => absurd hj (by omega), fun _ => ?_, fun h => absurd h (by omega)⟩
    rw [Int.zero_mul]
    omega
  · rename_i hs
    split
    · rename_i h0
      subst h0
      refine ⟨hm, Int.le_refl _, fun j _ => ?_, fun h => absurd h (by omega), fun _ => ?_⟩
      · rw [Int.mul_zero]; omega
      · rw [Int.mul_zero]; omega
    · rename_i h0
      have tp : 0 < t := by omega
      have d1 : (spare - 1) / t * t ≤ spare - 1 := Int.ediv_mul_le _ h0
      have d2 : spare - 1 < (spare - 1) / t * t + t := by
        have := Int.lt_ediv_add_one_mul_self (spare - 1) tp
        rw [Int.add_mul, Int.one_mul] at this
        exact this
      have d0 : 0 ≤ (spare - 1) / t := Int.ediv_nonneg (by omega) ht
      have key : ∀ k : Int, 0 ≤ k → k ≤ (spare - 1) / t → k * t ≤ spare - 1 := fun k _ hk => Int.le_trans (Int.mul_le_mul_of_nonneg_right hk ht) d1
      split
      · rename_i hlt
        refine ⟨d0, by omega, fun j hj => ?_, fun _ => by omega, fun _ => by omega⟩
        have := key ((j : Int) + 1) (by omega) (by omega)
        rw [Int.add_mul, Int.one_mul] at this
        omega
      · rename_i hge
        refine ⟨hm, Int.le_refl _, fun j hj => ?_, fun h => absurd h (by omega), fun h => ?_⟩
        · have := key ((j : Int) + 1) (by omega) (by omega)
          rw [Int.add_mul, Int.one_mul] at this
          omega
        · have := key many hm (by omega)
          omega
end HH
set_option maxHeartbeats 4000000
namespace HH
open PySem PySem.Spec PyProof.Rows L2 Evl RZ
def expL (ls : List Lot) (st : List Int) (line : HH.Row) : List Cow := line.flatMap fun x => List.replicate x.2.toNat (x.1.toNat, (st.getD x.1.toNat 0, lT ls x.1.toNat))
theorem exp_app (ls : List Lot) (st : List Int) (a b : HH.Row) : expL ls st (a ++ b) = expL ls st a ++ expL ls st b := List.flatMap_append
theorem exp_cons (ls : List Lot) (st : List Int) (x : Int × Int) (b : HH.Row) : expL ls st (x :: b) = List.replicate x.2.toNat (x.1.toNat, (st.getD x.1.toNat 0, lT ls x.1.toNat)) ++ expL ls st b := List.flatMap_cons
def blkL (ls : List Lot) (w : Nat) (s : Int) : List Cow := List.replicate (lM ls w).toNat (w, (s, lT ls w))
theorem exp_set {ls : List Lot} {st : List Int} {w : Nat} {s : Int} {line : HH.Row} (h : Bel w line) : expL ls (st.set w s) line = expL ls st line := by
  unfold expL
  rw [List.flatMap_def, List.flatMap_def]
  congr 1
  refine List.map_congr_left fun x hx => ?_
  obtain ⟨j, e, hj⟩ := h x hx
  have : (st.set w s).getD x.1.toNat 0 = st.getD x.1.toNat 0 := by
    rw [List.getD_eq_getElem?_getD, List.getD_eq_getElem?_getD, List.getElem?_set_ne (by rw [e, Int.toNat_natCast]; omega)]
  rw [this]
theorem exp_own {ls : List Lot} {st : List Int} {w : Nat} {s : Int} (hw : w < st.length) : expL ls (st.set w s) [((w : Int), lM ls w)] = blkL ls w s := by
  rw [exp_cons]
  show List.replicate (lM ls w).toNat (((w : Int)).toNat, ((st.set w s).getD ((w : Int)).toNat 0, lT ls ((w : Int)).toNat)) ++ [] = _
  rw [List.append_nil, Int.toNat_natCast, List.getD_eq_getElem?_getD, List.getElem?_set_self hw]
  rfl
def PosR (line : HH.Row) : Prop := ∀ x ∈ line, 1 ≤ x.2
def cntR (line : HH.Row) : Int := (line.map (·.2)).sum
structure GoOk (ls : List Lot) (st : List Int) (w : Nat) (r B : HH.Row) (s t : Int) (R : HH.Row × Int × Int) : Prop where
  s1 : Steps (expL ls st r.reverse ++ blkL ls w s ++ expL ls st B) (expL ls (st.set w R.2.1) R.1)
  cut : ∃ F B', R.1 = F ++ ((w : Int), lM ls w) :: B' ∧ Bel w F ∧ Bel w B' ∧ PosR F ∧ PosR B' ∧ expL ls st F ++ expL ls st B' = expL ls st r.reverse ++ expL ls st B ∧ cntR B' = cntR B + (R.2.2 - t)
theorem posR_app {a b : HH.Row} (h : PosR a) (g : PosR b) : PosR (a ++ b) := fun x hx => (List.mem_append.mp hx).elim (h x) (g x)
theorem rep_add {α : Type} {m n k : Int} (y : α) (h0 : 0 ≤ m) (h1 : 0 ≤ n) (h : m + n = k) : List.replicate m.toNat y ++ List.replicate n.toNat y = List.replicate k.toNat y := by
  rw [List.replicate_append_replicate]
  congr 1
  omega
theorem go_ok {ls : List Lot} {st : List Int} {w : Nat} (fit : Fit ls) (hw : w < ls.length) (hst : st.length = ls.length) (hm : 1 ≤ lM ls w) : ∀ {r B : HH.Row} {s t : Int}, Bel w r → Bel w B → PosR r → PosR B → GoOk ls st w r B s t (goL st ls w r B s t)
  | [], B, s, t, _, hB, _, pB => by
    refine ⟨?_, [], B, rfl, (fun x hx => by cases hx), hB, (fun x hx => by cases hx), pB, rfl, by show cntR B = cntR B + (t - t); omega⟩
    show Steps ([] ++ blkL ls w s ++ expL ls st B) (expL ls (st.set w s) (((w : Int), lM ls w) :: B))
    have e : expL ls (st.set w s) (((w : Int), lM ls w) :: B) = blkL ls w s ++ expL ls st B := by
      have h1 := exp_own (ls := ls) (st := st) (w := w) (s := s) (by omega)
      have h2 := exp_set (ls := ls) (st := st) (w := w) (s := s) hB
      have h3 := exp_app ls (st.set w s) [((w : Int), lM ls w)] B
      rw [h1, h2] at h3
      exact h3
    rw [e]
    exact .refl _
  | x :: r, B, s, t, hr, hB, pr, pB => by
    have hx := hr x (List.mem_cons_self ..)
    have hr' : Bel w r := fun y hy => hr y (List.mem_cons_of_mem _ hy)
    have pr' : PosR r := fun y hy => pr y (List.mem_cons_of_mem _ hy)
    have px := pr x (List.mem_cons_self ..)
    obtain ⟨j, ej, hj⟩ := hx
    have ft := fit.at' (show j < ls.length by omega)
    have hT : 0 ≤ lT ls x.1.toNat := by rw [ej, Int.toNat_natCast]; exact ft.1
    obtain ⟨m0, m1, m2, m3, m4⟩ := many_ok (spare := s - st.getD x.1.toNat 0) hT (show 0 ≤ x.2 by omega)
    rw [goL_cons]
    generalize hmm : manyP (s - st.getD x.1.toNat 0) (lT ls x.1.toNat) x.2 = m at m0 m1 m2 m3 m4 ⊢
    have pass : Steps (List.replicate m.toNat (x.1.toNat, (st.getD x.1.toNat 0, lT ls x.1.toNat)) ++ blkL ls w s) (blkL ls w (s - m * lT ls x.1.toNat) ++ List.replicate m.toNat (x.1.toNat, (st.getD x.1.toNat 0, lT ls x.1.toNat))) := by
      have := pass_lot w s (lT ls w) (x.1.toNat, (st.getD x.1.toNat 0, lT ls x.1.toNat)) hT m.toNat (fun k hk => by
        have := m2 k (by omega)
        show s - (k : Int) * lT ls x.1.toNat - lT ls x.1.toNat > st.getD x.1.toNat 0
        omega) (lM ls w).toNat
      have e : ((m.toNat : Nat) : Int) = m := Int.toNat_of_nonneg m0
      rw [e] at this
      exact this
    by_cases c : m < x.2
    · rw [if_pos c]
      have hF : Bel w (r.reverse) := fun y hy => hr' y (List.mem_reverse.mp hy)
      have pF : PosR r.reverse := fun y hy => pr' y (List.mem_reverse.mp hy)
      have hxx : Bel w [(x.1, x.2 - m)] := fun y hy => by
        cases List.mem_singleton.mp hy
        exact ⟨j, ej, hj⟩
      by_cases c0 : m > 0
      · rw [if_pos c0]
        have hxm : Bel w ((x.1, m) :: B) := fun y hy => by
          rcases List.mem_cons.mp hy with rfl | hy
          · exact ⟨j, ej, hj⟩
          · exact hB y hy
        have hFx : Bel w (r.reverse ++ [(x.1, x.2 - m)]) := hF.app hxx
        refine ⟨?_, r.reverse ++ [(x.1, x.2 - m)], (x.1, m) :: B, by simp, hFx, hxm, posR_app pF (fun y hy => by cases List.mem_singleton.mp hy; show 1 ≤ x.2 - m; omega), (fun y hy => by
          rcases List.mem_cons.mp hy with rfl | hy
          · show 1 ≤ m; omega
          · exact pB y hy), ?_, ?_⟩
        · dsimp only
          have e1 : r.reverse ++ (x.1, x.2 - m) :: ((w : Int), lM ls w) :: (x.1, m) :: B = (r.reverse ++ [(x.1, x.2 - m)]) ++ [((w : Int), lM ls w)] ++ ((x.1, m) :: B) := by simp
          rw [e1, exp_app, exp_app, exp_set hFx, exp_set hxm, exp_own (by omega), exp_app, List.reverse_cons, exp_app, exp_cons, exp_cons, exp_cons]
          dsimp only
          have e2 : expL ls st [] = [] := rfl
          rw [e2, List.append_nil, List.append_nil]
          have e3 := rep_add (m := x.2 - m) (n := m) (k := x.2) (x.1.toNat, (st.getD x.1.toNat 0, lT ls x.1.toNat)) (by omega) m0 (by omega)
          rw [← e3]
          have s1 := (pass.appL (expL ls st r.reverse ++ List.replicate (x.2 - m).toNat (x.1.toNat, (st.getD x.1.toNat 0, lT ls x.1.toNat)))).appR (expL ls st B)
          simp only [List.append_assoc] at s1 ⊢
          exact s1
        · rw [exp_app, List.reverse_cons, exp_app, exp_cons, exp_cons, exp_cons]
          have e2 : expL ls st [] = [] := rfl
          rw [e2, List.append_nil, List.append_nil]
          dsimp only
          have e3 := rep_add (m := x.2 - m) (n := m) (k := x.2) (x.1.toNat, (st.getD x.1.toNat 0, lT ls x.1.toNat)) (by omega) m0 (by omega)
          rw [← e3]
          simp only [List.append_assoc]
        · show m + cntR B = cntR B + (t + m - t)
          omega
      · rw [if_neg c0]
        have hm0 : m = 0 := by omega
        subst hm0
        have hFx : Bel w (r.reverse ++ [x]) := hF.app fun y hy => by
          cases List.mem_singleton.mp hy
          exact ⟨j, ej, hj⟩
        refine ⟨?_, r.reverse ++ [x], B, by simp, hFx, hB, posR_app pF (fun y hy => by cases List.mem_singleton.mp hy; exact px), pB, by rw [List.reverse_cons], by dsimp only; omega⟩
        dsimp only
        have e1 : r.reverse ++ x :: ((w : Int), lM ls w) :: B = (r.reverse ++ [x]) ++ [((w : Int), lM ls w)] ++ B := by simp
        rw [e1, exp_app, exp_app, exp_set hFx, exp_set hB, exp_own (by omega), List.reverse_cons, Int.zero_mul, Int.sub_zero]
        exact .refl _
    · rw [if_neg c]
      have hmx : m = x.2 := by omega
      subst hmx
      have ih := go_ok fit hw hst hm (r := r) (B := x :: B) (s := s - x.2 * lT ls x.1.toNat) (t := t + x.2) hr' (fun y hy => by
        rcases List.mem_cons.mp hy with rfl | hy
        · exact ⟨j, ej, hj⟩
        · exact hB y hy) pr' (fun y hy => by
        rcases List.mem_cons.mp hy with rfl | hy
        · exact px
        · exact pB y hy)
      obtain ⟨s1, F, B', f1, f2, f3, f4, f5, f6, f7⟩ := ih
      refine ⟨?_, F, B', f1, f2, f3, f4, f5, ?_, ?_⟩
      · have s0 := (pass.appL (expL ls st r.reverse)).appR (expL ls st B)
        rw [exp_cons] at s1
        have s2 : Steps (expL ls st (x :: r).reverse ++ blkL ls w s ++ expL ls st B) (expL ls st r.reverse ++ blkL ls w (s - x.2 * lT ls x.1.toNat) ++ (List.replicate x.2.toNat (x.1.toNat, (st.getD x.1.toNat 0, lT ls x.1.toNat)) ++ expL ls st B)) := by
          rw [List.reverse_cons, exp_app, exp_cons]
          have e2 : expL ls st [] = [] := rfl
          rw [e2, List.append_nil]
          simp only [List.append_assoc] at s0 ⊢
          exact s0
        exact s2.trans s1
      · rw [f6, List.reverse_cons, exp_app, exp_cons, exp_cons]
        have e2 : expL ls st [] = [] := rfl
        rw [e2, List.append_nil, List.append_assoc]
      · rw [f7]
        show x.2 + cntR B + _ = _
        omega
end HH
set_option maxHeartbeats 4000000
namespace HH
open PySem PySem.Spec PyProof.Rows L2 Evl RZ
theorem nfr_cat : ∀ {a b : List Cow}, NfR a → NfR b → (∀ x y, a.getLast? = some x → b.head? = some y → ¬ (y.2.1 - x.2.2 > x.2.1)) → NfR (a ++ b)
  | [], b, _, hb, _ => hb
  | [x], [], _, _, _ => True.intro
  | [x], y :: b, _, hb, h => ⟨h x y rfl rfl, hb⟩
  | x :: z :: a, b, ha, hb, h => by
    have ih := nfr_cat (a := z :: a) (b := b) ha.2 hb fun u v hu hv => h u v (by rw [List.getLast?_cons_cons]; exact hu) hv
    exact ⟨ha.1, ih⟩
theorem nfr_left : ∀ {a b : List Cow}, NfR (a ++ b) → NfR a
  | [], _, _ => True.intro
  | [x], _, _ => True.intro
  | x :: z :: a, b, h => ⟨h.1, nfr_left (a := z :: a) (b := b) h.2⟩
theorem nfr_right : ∀ {a b : List Cow}, NfR (a ++ b) → NfR b
  | [], _, h => h
  | x :: a, b, h => nfr_right (a := a) (nfr_tail h)
theorem nfr_rep {y : Cow} (ht : 0 ≤ y.2.2) : ∀ m, NfR (List.replicate m y)
  | 0 => True.intro
  | 1 => True.intro
  | m + 2 => ⟨by omega, nfr_rep ht (m + 1)⟩
theorem last_rep {α : Type} {y x : α} {m : Nat} (h : (List.replicate m y).getLast? = some x) : x = y := by
  have := List.mem_of_getLast? h
  exact (List.mem_replicate.mp this).2
theorem head_rep {α : Type} {y x : α} {m : Nat} (h : (List.replicate m y).head? = some x) : x = y := by
  have := List.mem_of_head? h
  exact (List.mem_replicate.mp this).2
theorem go_nfr {ls : List Lot} {st : List Int} {w : Nat} (fit : Fit ls) (hw : w < ls.length) (hst : st.length = ls.length) (hm : 1 ≤ lM ls w) : ∀ {r B : HH.Row} {s t : Int}, Bel w r → Bel w B → PosR r → PosR B → NfR (expL ls st r.reverse ++ expL ls st B) → (∀ y, (expL ls st B).head? = some y → s > y.2.1) → NfR (expL ls (st.set w (goL st ls w r B s t).2.1) (goL st ls w r B s t).1)
  | [], B, s, t, _, hB, _, pB, h, hs => by
    have tw := (fit.at' hw).1
    show NfR (expL ls (st.set w s) (((w : Int), lM ls w) :: B))
    have e : expL ls (st.set w s) (((w : Int), lM ls w) :: B) = blkL ls w s ++ expL ls st B := by
      have h1 := exp_own (ls := ls) (st := st) (w := w) (s := s) (by omega)
      have h2 := exp_set (ls := ls) (st := st) (w := w) (s := s) hB
      have h3 := exp_app ls (st.set w s) [((w : Int), lM ls w)] B
      rw [h1, h2] at h3
      exact h3
    rw [e]
    refine nfr_cat (nfr_rep tw _) (nfr_right h) fun x y hx hy => ?_
    have := last_rep hx
    subst this
    have := hs y hy
    show ¬ (y.2.1 - lT ls w > s)
    omega
  | x :: r, B, s, t, hr, hB, pr, pB, h, hs => by
    have tw := (fit.at' hw).1
    have hx := hr x (List.mem_cons_self ..)
    have hr' : Bel w r := fun y hy => hr y (List.mem_cons_of_mem _ hy)
    have pr' : PosR r := fun y hy => pr y (List.mem_cons_of_mem _ hy)
    have px := pr x (List.mem_cons_self ..)
    obtain ⟨j, ej, hj⟩ := hx
    have ft := fit.at' (show j < ls.length by omega)
    have hT : 0 ≤ lT ls x.1.toNat := by rw [ej, Int.toNat_natCast]; exact ft.1
    obtain ⟨m0, m1, m2, m3, m4⟩ := many_ok (spare := s - st.getD x.1.toNat 0) hT (show 0 ≤ x.2 by omega)
    rw [goL_cons]
    generalize hmm : manyP (s - st.getD x.1.toNat 0) (lT ls x.1.toNat) x.2 = m at m0 m1 m2 m3 m4 ⊢
    have e2 : expL ls st [] = [] := rfl
    rw [List.reverse_cons, exp_app, exp_cons, e2, List.append_nil] at h
    by_cases c : m < x.2
    · rw [if_pos c]
      have hF : Bel w (r.reverse) := fun y hy => hr' y (List.mem_reverse.mp hy)
      have hxx : Bel w [(x.1, x.2 - m)] := fun y hy => by
        cases List.mem_singleton.mp hy
        exact ⟨j, ej, hj⟩
      have hFx : Bel w (r.reverse ++ [(x.1, x.2 - m)]) := hF.app hxx
      have hxm : Bel w ((x.1, m) :: B) := fun y hy => by
        rcases List.mem_cons.mp hy with rfl | hy
        · exact ⟨j, ej, hj⟩
        · exact hB y hy
      have e3 := rep_add (m := x.2 - m) (n := m) (k := x.2) (x.1.toNat, (st.getD x.1.toNat 0, lT ls x.1.toNat)) (by omega) m0 (by omega)
      rw [← e3] at h
      have main : NfR ((expL ls st r.reverse ++ List.replicate (x.2 - m).toNat (x.1.toNat, (st.getD x.1.toNat 0, lT ls x.1.toNat))) ++ (blkL ls w (s - m * lT ls x.1.toNat) ++ (List.replicate m.toNat (x.1.toNat, (st.getD x.1.toNat 0, lT ls x.1.toNat)) ++ expL ls st B))) := by
        have h' : NfR ((expL ls st r.reverse ++ List.replicate (x.2 - m).toNat (x.1.toNat, (st.getD x.1.toNat 0, lT ls x.1.toNat))) ++ (List.replicate m.toNat (x.1.toNat, (st.getD x.1.toNat 0, lT ls x.1.toNat)) ++ expL ls st B)) := by
          simp only [List.append_assoc] at h ⊢
          exact h
        refine nfr_cat (nfr_left h') (nfr_cat (nfr_rep tw _) (nfr_right h') fun u v hu hv => ?_) fun u v hu hv => ?_
        · have := last_rep hu
          subst this
          show ¬ (v.2.1 - lT ls w > s - m * lT ls x.1.toNat)
          by_cases c0 : 0 < m
          · have hv2 : v = (x.1.toNat, (st.getD x.1.toNat 0, lT ls x.1.toNat)) := by
              obtain ⟨k, hk⟩ : ∃ k, m.toNat = k + 1 := ⟨m.toNat - 1, by omega⟩
              rw [hk] at hv
              exact (Option.some.inj hv).symm
            subst hv2
            have := m4 c0
            show ¬ (st.getD x.1.toNat 0 - lT ls w > s - m * lT ls x.1.toNat)
            omega
          · have hm0 : m = 0 := by omega
            subst hm0
            have := hs v hv
            rw [Int.zero_mul, Int.sub_zero]
            omega
        · have hu2 : u = (x.1.toNat, (st.getD x.1.toNat 0, lT ls x.1.toNat)) := by
            obtain ⟨k, hk⟩ : ∃ k, (x.2 - m).toNat = k + 1 := ⟨(x.2 - m).toNat - 1, by omega⟩
            rw [hk, rep_snoc, ← List.append_assoc, List.getLast?_concat] at hu
            exact (Option.some.inj hu).symm
          subst hu2
          have hv2 : v = (w, (s - m * lT ls x.1.toNat, lT ls w)) := by
            obtain ⟨k, hk⟩ : ∃ k, (lM ls w).toNat = k + 1 := ⟨(lM ls w).toNat - 1, by omega⟩
            unfold blkL at hv
            rw [hk] at hv
            exact (Option.some.inj hv).symm
          subst hv2
          have := m3 c
          show ¬ (s - m * lT ls x.1.toNat - lT ls x.1.toNat > st.getD x.1.toNat 0)
          omega
      by_cases c0 : m > 0
      · rw [if_pos c0]
        dsimp only
        have e1 : r.reverse ++ (x.1, x.2 - m) :: ((w : Int), lM ls w) :: (x.1, m) :: B = (r.reverse ++ [(x.1, x.2 - m)]) ++ [((w : Int), lM ls w)] ++ ((x.1, m) :: B) := by simp
        rw [e1, exp_app, exp_app, exp_set hFx, exp_set hxm, exp_own (by omega), exp_app, exp_cons, exp_cons, e2, List.append_nil]
        simp only [List.append_assoc] at main ⊢
        exact main
      · rw [if_neg c0]
        have hm0 : m = 0 := by omega
        subst hm0
        dsimp only
        have hFx' : Bel w (r.reverse ++ [x]) := hF.app fun y hy => by
          cases List.mem_singleton.mp hy
          exact ⟨j, ej, hj⟩
        have e1 : r.reverse ++ x :: ((w : Int), lM ls w) :: B = (r.reverse ++ [x]) ++ [((w : Int), lM ls w)] ++ B := by simp
        rw [e1, exp_app, exp_app, exp_set hFx', exp_set hB, exp_own (by omega), exp_app, exp_cons, e2, List.append_nil]
        have e9 : x.2 - 0 = x.2 := by omega
        rw [e9] at main
        simp only [List.append_assoc] at main ⊢
        exact main
    · rw [if_neg c]
      have hmx : m = x.2 := by omega
      subst hmx
      refine go_nfr fit hw hst hm (r := r) (B := x :: B) hr' (fun y hy => by
        rcases List.mem_cons.mp hy with rfl | hy
        · exact ⟨j, ej, hj⟩
        · exact hB y hy) pr' (fun y hy => by
        rcases List.mem_cons.mp hy with rfl | hy
        · exact px
        · exact pB y hy) (by
        rw [exp_cons, ← List.append_assoc]
        exact h) fun y hy => ?_
      rw [exp_cons] at hy
      have hv2 : y = (x.1.toNat, (st.getD x.1.toNat 0, lT ls x.1.toNat)) := by
        obtain ⟨k, hk⟩ : ∃ k, x.2.toNat = k + 1 := ⟨x.2.toNat - 1, by omega⟩
        rw [hk] at hy
        exact (Option.some.inj hy).symm
      subst hv2
      have := m4 (by omega)
      show s - x.2 * lT ls x.1.toNat > st.getD x.1.toNat 0
      omega
def sprC (ls : List Lot) (w : Nat) : List Cow := (List.range w).flatMap fun u => List.replicate (lM ls u).toNat (u, (lS ls u, lT ls u))
theorem sprC_succ (ls : List Lot) (w : Nat) : sprC ls (w + 1) = sprC ls w ++ blkL ls w (lS ls w) := by
  unfold sprC
  rw [List.range_succ, List.flatMap_append]
  show _ ++ (List.replicate (lM ls w).toNat (w, (lS ls w, lT ls w)) ++ []) = _
  rw [List.append_nil]
  rfl
def lowB (X : List Cow) (p u : Nat) : Nat := ((X.drop (p + 1)).filter fun c => decide (c.1 < u)).length
structure EndOk (ls : List Lot) (w : Nat) : Prop where
  s1 : Steps (sprC ls w) (expL ls (endG ls w).2.1 (endG ls w).1)
  nf : NfR (expL ls (endG ls w).2.1 (endG ls w).1)
  pos : PosR (endG ls w).1
  low : ∀ (p u : Nat) (c : Cow), (expL ls (endG ls w).2.1 (endG ls w).1)[p]? = some c → c.1 = u → (lowB (expL ls (endG ls w).2.1 (endG ls w).1) p u : Int) = (endG ls w).2.2.getD u 0
  st : ∀ u, w ≤ u → u < ls.length → (endG ls w).2.1.getD u 0 = lS ls u
theorem exp_own_lt {ls : List Lot} {st : List Int} {w : Nat} {line : HH.Row} (h : Bel w line) : ∀ c ∈ expL ls st line, c.1 < w := fun c hc => by
  obtain ⟨x, hx, h2⟩ := List.mem_flatMap.mp hc
  obtain ⟨j, e, hj⟩ := h x hx
  rw [(List.mem_replicate.mp h2).2]
  show x.1.toNat < w
  rw [e, Int.toNat_natCast]
  exact hj
theorem exp_len {ls : List Lot} {st : List Int} : ∀ {line : HH.Row}, PosR line → ((expL ls st line).length : Int) = cntR line
  | [], _ => rfl
  | x :: r, h => by
    have px := h x (List.mem_cons_self ..)
    rw [exp_cons, List.length_append, List.length_replicate]
    have := exp_len (ls := ls) (st := st) (line := r) fun y hy => h y (List.mem_cons_of_mem _ hy)
    show ((x.2.toNat + (expL ls st r).length : Nat) : Int) = x.2 + cntR r
    omega
end HH
set_option maxHeartbeats 4000000
namespace HH
open PySem PySem.Spec PyProof.Rows L2 Evl RZ
theorem low_left {a b : List Cow} {p u : Nat} (h : p < a.length) : lowB (a ++ b) p u = lowB a p u + (b.filter fun c => decide (c.1 < u)).length := by
  unfold lowB
  rw [List.drop_append_of_le_length (by omega), List.filter_append, List.length_append]
theorem low_right {a b : List Cow} {q u : Nat} : lowB (a ++ b) (a.length + q) u = lowB b q u := by
  unfold lowB
  rw [show a.length + q + 1 = a.length + (q + 1) by omega, ← List.drop_drop, List.drop_left]
theorem none_low {b : List Cow} {u : Nat} (h : ∀ c ∈ b, ¬ c.1 < u) : (b.filter fun c => decide (c.1 < u)).length = 0 := by
  rw [List.length_eq_zero_iff, List.filter_eq_nil_iff]
  exact fun c hc z => h c hc (of_decide_eq_true z)
theorem all_low {b : List Cow} {u : Nat} (h : ∀ c ∈ b, c.1 < u) : (b.filter fun c => decide (c.1 < u)).length = b.length := by
  rw [List.filter_eq_self.mpr fun c hc => decide_eq_true (h c hc)]
theorem end_ok {ls : List Lot} (fit : Fit ls) (pos : PosL ls) : ∀ w, w ≤ ls.length → EndOk ls w
  | 0, _ => ⟨.refl _, True.intro, (fun x hx => by cases hx), (fun p u c h => by cases h), fun u _ hu => by
      show (ls.map (·.1)).getD u 0 = lS ls u
      rw [List.getD_eq_getElem?_getD, List.getElem?_map, lot_get hu]
      rfl⟩
  | w + 1, hw => by
    obtain ⟨i1, i2, i3, i4, i5⟩ := end_ok fit pos w (by omega)
    obtain ⟨g1, g2, g3, g4⟩ := endG_facts ls w
    have hlen : w < ls.length := by omega
    have hm : 1 ≤ lM ls w := pos _ (List.mem_of_getElem? (lot_get hlen))
    have hs := i5 w (Nat.le_refl _) hlen
    have br : Bel w (endG ls w).1.reverse := fun x hx => g1 x (List.mem_reverse.mp hx)
    have pr : PosR (endG ls w).1.reverse := fun x hx => i3 x (List.mem_reverse.mp hx)
    have gk := go_ok (st := (endG ls w).2.1) fit hlen g3 hm (r := (endG ls w).1.reverse) (B := []) (s := lS ls w) (t := 0) br (fun x hx => by cases hx) pr (fun x hx => by cases hx)
    have gn := go_nfr (st := (endG ls w).2.1) fit hlen g3 hm (r := (endG ls w).1.reverse) (B := []) (s := lS ls w) (t := 0) br (fun x hx => by cases hx) pr (fun x hx => by cases hx) (by
      rw [List.reverse_reverse]
      show NfR (expL ls (endG ls w).2.1 (endG ls w).1 ++ [])
      rw [List.append_nil]
      exact i2) (fun y hy => by cases hy)
    have e1 : (endG ls (w + 1)).1 = (goL (endG ls w).2.1 ls w (endG ls w).1.reverse [] (lS ls w) 0).1 := by
      show (goL _ ls w _ [] ((endG ls w).2.1.getD w 0) 0).1 = _
      rw [hs]
    have e2 : (endG ls (w + 1)).2.1 = (endG ls w).2.1.set w (goL (endG ls w).2.1 ls w (endG ls w).1.reverse [] (lS ls w) 0).2.1 := by
      show List.set _ w (goL _ ls w _ [] ((endG ls w).2.1.getD w 0) 0).2.1 = _
      rw [hs]
    have e3 : (endG ls (w + 1)).2.2 = (endG ls w).2.2 ++ [(goL (endG ls w).2.1 ls w (endG ls w).1.reverse [] (lS ls w) 0).2.2] := by
      show _ ++ [(goL _ ls w _ [] ((endG ls w).2.1.getD w 0) 0).2.2] = _
      rw [hs]
    obtain ⟨s1, F, B', f1, f2, f3, f4, f5, f6, f7⟩ := gk
    generalize goL (endG ls w).2.1 ls w (endG ls w).1.reverse [] (lS ls w) 0 = R at e1 e2 e3 s1 f1 f7 gn
    generalize (endG ls w).2.1 = st at *
    generalize (endG ls w).1 = line at *
    generalize (endG ls w).2.2 = told at *
    have nil : expL ls st [] = [] := rfl
    rw [List.reverse_reverse, nil, List.append_nil] at s1 f6
    have hX : expL ls (st.set w R.2.1) R.1 = expL ls st F ++ (blkL ls w R.2.1 ++ expL ls st B') := by
      have e9 : F ++ ((w : Int), lM ls w) :: B' = F ++ [((w : Int), lM ls w)] ++ B' := by simp
      rw [f1, e9, exp_app, exp_app, exp_set f2, exp_set f3, exp_own (by omega), List.append_assoc]
    refine ⟨?_, ?_, ?_, ?_, ?_⟩
    · rw [e1, e2, sprC_succ]
      exact (i1.appR _).trans s1
    · rw [e1, e2]
      exact gn
    · rw [e1, f1]
      refine posR_app f4 fun y hy => ?_
      rcases List.mem_cons.mp hy with rfl | hy
      · exact hm
      · exact f5 y hy
    · rw [e1, e2, e3, hX]
      have oF : ∀ c ∈ expL ls st F, c.1 < w := exp_own_lt f2
      have oB : ∀ c ∈ expL ls st B', c.1 < w := exp_own_lt f3
      have oK : ∀ c ∈ blkL ls w R.2.1, c.1 = w := fun c hc => by rw [(List.mem_replicate.mp hc).2]
      rw [← f6] at i4
      have toldL : ∀ u, u < w → (told ++ [R.2.2]).getD u 0 = told.getD u 0 := fun u hu => by
        rw [List.getD_eq_getElem?_getD, List.getD_eq_getElem?_getD, List.getElem?_append_left (by omega)]
      intro p u c hp hc
      by_cases c1 : p < (expL ls st F).length
      · rw [List.getElem?_append_left c1] at hp
        have hu : u < w := by rw [← hc]; exact oF c (List.mem_of_getElem? hp)
        have h4 := i4 p u c (by rw [List.getElem?_append_left c1]; exact hp) hc
        rw [low_left c1] at h4 ⊢
        rw [toldL u hu, ← h4, List.filter_append, List.length_append, none_low (b := blkL ls w R.2.1) fun d hd z => by rw [oK d hd] at z; omega, Nat.zero_add]
      · obtain ⟨q, rfl⟩ : ∃ q, p = (expL ls st F).length + q := ⟨p - (expL ls st F).length, by omega⟩
        rw [List.getElem?_append_right (by omega), Nat.add_sub_cancel_left] at hp
        rw [low_right]
        by_cases c2 : q < (blkL ls w R.2.1).length
        · rw [List.getElem?_append_left c2] at hp
          have hu : u = w := by rw [← hc]; exact oK c (List.mem_of_getElem? hp)
          subst hu
          rw [low_left c2, all_low oB]
          have : lowB (blkL ls u R.2.1) q u = 0 := none_low fun d hd z => by rw [oK d (List.mem_of_mem_drop hd)] at z; omega
          rw [this, Nat.zero_add, exp_len f5, f7, List.getD_eq_getElem?_getD, ← g4, List.getElem?_append_right (Nat.le_refl _), Nat.sub_self]
          show cntR [] + (R.2.2 - 0) = R.2.2
          show (0 : Int) + (R.2.2 - 0) = R.2.2
          omega
        · obtain ⟨q2, rfl⟩ : ∃ q2, q = (blkL ls w R.2.1).length + q2 := ⟨q - (blkL ls w R.2.1).length, by omega⟩
          rw [List.getElem?_append_right (by omega), Nat.add_sub_cancel_left] at hp
          have hu : u < w := by rw [← hc]; exact oB c (List.mem_of_getElem? hp)
          have h4 := i4 ((expL ls st F).length + q2) u c (by rw [List.getElem?_append_right (by omega), Nat.add_sub_cancel_left]; exact hp) hc
          rw [low_right] at h4 ⊢
          rw [toldL u hu, ← h4]
    · intro u hu hul
      rw [e2, ← i5 u (by omega) hul, List.getD_eq_getElem?_getD, List.getD_eq_getElem?_getD, List.getElem?_set_ne (by omega)]
end HH
set_option maxHeartbeats 4000000
namespace HH
open PySem PySem.Spec PyProof.Rows L2 Evl RZ
theorem fall_rep (w : Nat) (t : Int) (y : Cow) (ht : 0 ≤ y.2.2) : ∀ (m : Nat) (s : Int), s > y.2.1 → FSteps ((w, (s, t)) :: List.replicate m y) (List.replicate m y ++ [(w, (s + (m : Int) * y.2.2, t))])
  | 0, s, h => by
    show FSteps [(w, (s, t))] [(w, (s + ((0 : Nat) : Int) * y.2.2, t))]
    have : s + ((0 : Nat) : Int) * y.2.2 = s := by simp
    rw [this]
    exact .refl _
  | m + 1, s, h => by
    have st : FStep ((w, (s, t)) :: List.replicate (m + 1) y) (y :: (w, (s + y.2.2, t)) :: List.replicate m y) := ⟨[], List.replicate m y, (w, (s, t)), y, rfl, h, rfl⟩
    refine .head st ?_
    have ih := (fall_rep w t y ht m (s + y.2.2) (by omega)).appL [y]
    have e : s + y.2.2 + (m : Int) * y.2.2 = s + ((m + 1 : Nat) : Int) * y.2.2 := by
      have e : ((m + 1 : Nat) : Int) * y.2.2 = (m : Int) * y.2.2 + y.2.2 := by rw [Int.natCast_add, Int.add_mul]; simp
      rw [e]
      omega
    rw [e] at ih
    exact ih
theorem fall_lot (w : Nat) (s t : Int) (y : Cow) (ht : 0 ≤ y.2.2) (m : Nat) (h : s > y.2.1) : ∀ M : Nat, FSteps (List.replicate M (w, (s, t)) ++ List.replicate m y) (List.replicate m y ++ List.replicate M (w, (s + (m : Int) * y.2.2, t)))
  | 0 => by
    show FSteps ([] ++ List.replicate m y) (List.replicate m y ++ [])
    rw [List.append_nil]
    exact .refl _
  | M + 1 => by
    have h1 := (fall_rep w t y ht m s h).appL (List.replicate M (w, (s, t)))
    have h2 := (fall_lot w s t y ht m h M).appRR [(w, (s + (m : Int) * y.2.2, t))]
    rw [rep_snoc, rep_snoc, ← List.append_assoc]
    have e : List.replicate M (w, (s, t)) ++ [(w, (s, t))] ++ List.replicate m y = List.replicate M (w, (s, t)) ++ (w, (s, t)) :: List.replicate m y := by simp
    rw [e]
    rw [← List.append_assoc] at h1
    exact h1.trans h2
def expF (ls : List Lot) (st : List Int) (line : List Nat) : List Cow := line.flatMap fun u => List.replicate (lM ls u).toNat (u, (st.getD u 0, lT ls u))
theorem expF_app (ls : List Lot) (st : List Int) (a b : List Nat) : expF ls st (a ++ b) = expF ls st a ++ expF ls st b := List.flatMap_append
theorem expF_cons (ls : List Lot) (st : List Int) (x : Nat) (b : List Nat) : expF ls st (x :: b) = List.replicate (lM ls x).toNat (x, (st.getD x 0, lT ls x)) ++ expF ls st b := List.flatMap_cons
theorem expF_set {ls : List Lot} {st : List Int} {w : Nat} {s : Int} {line : List Nat} (h : ∀ x ∈ line, w ≠ x) : expF ls (st.set w s) line = expF ls st line := by
  unfold expF
  rw [List.flatMap_def, List.flatMap_def]
  congr 1
  refine List.map_congr_left fun x hx => ?_
  have : (st.set w s).getD x 0 = st.getD x 0 := by
    rw [List.getD_eq_getElem?_getD, List.getD_eq_getElem?_getD, List.getElem?_set_ne (h x hx)]
  rw [this]
theorem expF_own {ls : List Lot} {st : List Int} {w : Nat} {s : Int} (hw : w < st.length) : expF ls (st.set w s) [w] = blkL ls w s := by
  rw [expF_cons]
  show List.replicate (lM ls w).toNat (w, ((st.set w s).getD w 0, lT ls w)) ++ [] = _
  rw [List.append_nil, List.getD_eq_getElem?_getD, List.getElem?_set_self hw]
  rfl
theorem ffr_cat : ∀ {a b : List Cow}, FfR a → FfR b → (∀ x y, a.getLast? = some x → b.head? = some y → ¬ (x.2.1 > y.2.1)) → FfR (a ++ b)
  | [], b, _, hb, _ => hb
  | [x], [], _, _, _ => True.intro
  | [x], y :: b, _, hb, h => ⟨h x y rfl rfl, hb⟩
  | x :: z :: a, b, ha, hb, h => by
    have ih := ffr_cat (a := z :: a) (b := b) ha.2 hb fun u v hu hv => h u v (by rw [List.getLast?_cons_cons]; exact hu) hv
    exact ⟨ha.1, ih⟩
theorem ffr_left : ∀ {a b : List Cow}, FfR (a ++ b) → FfR a
  | [], _, _ => True.intro
  | [x], _, _ => True.intro
  | x :: z :: a, b, h => ⟨h.1, ffr_left (a := z :: a) (b := b) h.2⟩
theorem ffr_right : ∀ {a b : List Cow}, FfR (a ++ b) → FfR b
  | [], _, h => h
  | x :: a, b, h => ffr_right (a := a) (ffr_tail h)
theorem ffr_rep {y : Cow} : ∀ m, FfR (List.replicate m y)
  | 0 => True.intro
  | 1 => True.intro
  | m + 2 => ⟨by omega, ffr_rep (m + 1)⟩
theorem goF_ok {ls : List Lot} {st : List Int} {w : Nat} (fit : Fit ls) (hw : w < st.length) (hm : 1 ≤ lM ls w) : ∀ {R pre : List Nat} {s : Int}, (∀ x ∈ R, w ≠ x ∧ x < ls.length ∧ 1 ≤ lM ls x) → (∀ x ∈ pre, w ≠ x) → FfR (expF ls st pre ++ expF ls st R) → (∀ y, (expF ls st pre).getLast? = some y → s > y.2.1) →
    FSteps (expF ls st pre ++ blkL ls w s ++ expF ls st R) (expF ls (st.set w (goF st ls w pre R s).2) (goF st ls w pre R s).1) ∧ FfR (expF ls (st.set w (goF st ls w pre R s).2) (goF st ls w pre R s).1)
  | [], pre, s, _, hp, hf, hs => by
    show FSteps (expF ls st pre ++ blkL ls w s ++ expF ls st []) (expF ls (st.set w s) (pre ++ [w])) ∧ FfR (expF ls (st.set w s) (pre ++ [w]))
    have nil : expF ls st [] = [] := rfl
    rw [expF_app, expF_set hp, expF_own hw, nil, List.append_nil]
    rw [nil, List.append_nil] at hf
    refine ⟨.refl _, ffr_cat hf (ffr_rep _) fun x y hx hy => ?_⟩
    have := head_rep hy
    subst this
    have := hs x hx
    show ¬ (x.2.1 > s)
    omega
  | x :: R, pre, s, hR, hp, hf, hs => by
    obtain ⟨hx1, hx2, hx3⟩ := hR x (List.mem_cons_self ..)
    have ft := (fit.at' hx2).1
    rw [goF]
    split
    · rename_i c
      have ih := goF_ok fit hw hm (R := R) (pre := pre ++ [x]) (s := s + lM ls x * lT ls x) (fun y hy => hR y (List.mem_cons_of_mem _ hy)) (fun y hy => by
        rcases List.mem_append.mp hy with hy | hy
        · exact hp y hy
        · cases List.mem_singleton.mp hy
          exact hx1) (by
        rw [expF_app, expF_cons]
        rw [expF_cons] at hf
        have nil : expF ls st [] = [] := rfl
        rw [nil, List.append_nil, List.append_assoc]
        exact hf) fun y hy => by
        rw [expF_app, expF_cons] at hy
        have nil : expF ls st [] = [] := rfl
        rw [nil, List.append_nil] at hy
        obtain ⟨k, hk⟩ : ∃ k, (lM ls x).toNat = k + 1 := ⟨(lM ls x).toNat - 1, by omega⟩
        rw [hk, rep_snoc, ← List.append_assoc, List.getLast?_concat] at hy
        cases Option.some.inj hy
        have : 0 ≤ lM ls x * lT ls x := Int.mul_nonneg (by omega) ft
        show s + lM ls x * lT ls x > st.getD x 0
        omega
      refine ⟨?_, ih.2⟩
      have h1 := fall_lot w s (lT ls w) (x, (st.getD x 0, lT ls x)) ft (lM ls x).toNat c (lM ls w).toNat
      have e : (((lM ls x).toNat : Nat) : Int) = lM ls x := Int.toNat_of_nonneg (by omega)
      rw [e] at h1
      have h2 := (h1.appL (expF ls st pre)).appRR (expF ls st R)
      refine FSteps.trans ?_ ih.1
      rw [expF_cons, expF_app, expF_cons]
      have nil : expF ls st [] = [] := rfl
      rw [nil, List.append_nil]
      simp only [List.append_assoc] at h2 ⊢
      exact h2
    · rename_i c
      dsimp only
      have hR' : ∀ y ∈ x :: R, w ≠ y := fun y hy => (hR y hy).1
      have e1 : pre ++ w :: x :: R = pre ++ [w] ++ (x :: R) := by simp
      rw [e1, expF_app, expF_app, expF_set hp, expF_set hR', expF_own hw]
      refine ⟨.refl _, ?_⟩
      rw [List.append_assoc]
      refine ffr_cat (ffr_left hf) (ffr_cat (ffr_rep _) (ffr_right hf) fun u v hu hv => ?_) fun u v hu hv => ?_
      · have := last_rep hu
        subst this
        rw [expF_cons] at hv
        obtain ⟨k, hk⟩ : ∃ k, (lM ls x).toNat = k + 1 := ⟨(lM ls x).toNat - 1, by omega⟩
        rw [hk] at hv
        cases Option.some.inj hv
        exact c
      · obtain ⟨k, hk⟩ : ∃ k, (lM ls w).toNat = k + 1 := ⟨(lM ls w).toNat - 1, by omega⟩
        unfold blkL at hv
        rw [hk] at hv
        cases Option.some.inj hv
        have := hs u hu
        show ¬ (u.2.1 > s)
        omega
def sprB (ls : List Lot) (n : Nat) : Nat → List Cow
  | 0 => []
  | k + 1 => blkL ls (n - (k + 1)) (lS ls (n - (k + 1))) ++ sprB ls n k
theorem beg_ok {ls : List Lot} (fit : Fit ls) (pos : PosL ls) : ∀ k, k ≤ ls.length → FSteps (sprB ls ls.length k) (expF ls (begG ls ls.length k).2 (begG ls ls.length k).1) ∧ FfR (expF ls (begG ls ls.length k).2 (begG ls ls.length k).1) ∧ ∀ u, u + k < ls.length → (begG ls ls.length k).2.getD u 0 = lS ls u
  | 0, _ => ⟨.refl _, True.intro, fun u hu => by
      show (ls.map (·.1)).getD u 0 = lS ls u
      rw [List.getD_eq_getElem?_getD, List.getElem?_map, lot_get (by omega)]
      rfl⟩
  | k + 1, hk => by
    obtain ⟨i1, i2, i3⟩ := beg_ok fit pos k (by omega)
    obtain ⟨g1, g2, g3⟩ := begG_facts ls k (by omega)
    have hw : ls.length - (k + 1) < ls.length := by omega
    have hmp : ∀ x, x < ls.length → 1 ≤ lM ls x := fun x hx => pos _ (List.mem_of_getElem? (lot_get hx))
    have hs := i3 (ls.length - (k + 1)) (by omega)
    have nil : expF ls (begG ls ls.length k).2 [] = [] := rfl
    have gk := goF_ok (st := (begG ls ls.length k).2) (w := ls.length - (k + 1)) fit (by omega) (hmp _ hw) (R := (begG ls ls.length k).1) (pre := []) (s := lS ls (ls.length - (k + 1))) (fun x hx => by
      have := g1 x hx
      exact ⟨by omega, this.2, hmp x this.2⟩) (fun x hx => by cases hx) (by
      rw [nil]
      exact i2) (fun y hy => by cases hy)
    rw [nil] at gk
    have e1 : begG ls ls.length (k + 1) = ((goF (begG ls ls.length k).2 ls (ls.length - (k + 1)) [] (begG ls ls.length k).1 (lS ls (ls.length - (k + 1)))).1, (begG ls ls.length k).2.set (ls.length - (k + 1)) (goF (begG ls ls.length k).2 ls (ls.length - (k + 1)) [] (begG ls ls.length k).1 (lS ls (ls.length - (k + 1)))).2) := by
      rw [begG]
      rw [hs]
    rw [e1]
    refine ⟨?_, gk.2, fun u hu => ?_⟩
    · have := (i1.appL (blkL ls (ls.length - (k + 1)) (lS ls (ls.length - (k + 1))))).trans gk.1
      exact this
    · rw [← i3 u (by omega)]
      show (List.set _ _ _).getD u 0 = _
      rw [List.getD_eq_getElem?_getD, List.getD_eq_getElem?_getD, List.getElem?_set_ne (by omega)]
theorem spr_both (ls : List Lot) : ∀ k, k ≤ ls.length → sprC ls (ls.length - k) ++ sprB ls ls.length k = sprC ls ls.length
  | 0, _ => by
    show sprC ls ls.length ++ [] = _
    rw [List.append_nil]
  | k + 1, hk => by
    have ih := spr_both ls k (by omega)
    have e : ls.length - k = ls.length - (k + 1) + 1 := by omega
    rw [e, sprC_succ, List.append_assoc] at ih
    exact ih
end HH
set_option maxHeartbeats 4000000
namespace HH
open PySem PySem.Spec PyProof.Rows L2 Evl RZ
def ownL (ls : List Lot) : List Nat := (sprC ls ls.length).map (·.1)
theorem lots_map (ls : List Lot) : (List.range ls.length).map (fun u => (lS ls u, lT ls u, lM ls u)) = ls := by
  refine List.ext_getElem? fun i => ?_
  rw [List.getElem?_map]
  rcases Nat.lt_or_ge i ls.length with c | c
  · rw [List.getElem?_range c, lot_get c]
    rfl
  · rw [List.getElem?_eq_none (by rw [List.length_range]; exact c), List.getElem?_eq_none c]
    rfl
theorem lots_row (ls : List Lot) : rowsOf (sprC ls ls.length) = sprR ls := by
  have h : sprR ls = ((List.range ls.length).map (fun u => (lS ls u, lT ls u, lM ls u))).flatMap fun l => List.replicate l.2.2.toNat (l.1, l.2.1) := by
    rw [lots_map]
    rfl
  rw [h, rowsOf, sprC, List.flatMap_map, List.map_flatMap, List.flatMap_def, List.flatMap_def]
  congr 1
  refine List.map_congr_left fun u _ => ?_
  rw [List.map_replicate]
theorem own_len (ls : List Lot) : (ownL ls).length = (sprR ls).length := by
  rw [← lots_row, ownL, rowsOf, List.length_map, List.length_map]
theorem spr_sorted (ls : List Lot) : ∀ w, ((sprC ls w).map (·.1)).Pairwise (· ≤ ·) ∧ ∀ x ∈ (sprC ls w).map (·.1), x < w
  | 0 => ⟨.nil, (fun x hx => by cases hx)⟩
  | w + 1 => by
    obtain ⟨h1, h2⟩ := spr_sorted ls w
    have hb : (blkL ls w (lS ls w)).map (·.1) = List.replicate (lM ls w).toNat w := by
      unfold blkL
      rw [List.map_replicate]
    rw [sprC_succ, List.map_append, hb]
    refine ⟨List.pairwise_append.mpr ⟨h1, ?_, fun a ha b hb => ?_⟩, fun x hx => ?_⟩
    · refine List.pairwise_iff_getElem.mpr fun i j hi hj _ => ?_
      rw [List.getElem_replicate, List.getElem_replicate]
      exact Nat.le_refl _
    · rw [(List.mem_replicate.mp hb).2]
      exact Nat.le_of_lt (h2 a ha)
    · rcases List.mem_append.mp hx with hx | hx
      · exact Nat.lt_succ_of_lt (h2 x hx)
      · rw [(List.mem_replicate.mp hx).2]
        exact Nat.lt_succ_self _
theorem own_at {ls : List Lot} {i : Nat} (h : i < (sprR ls).length) : ∃ u, u < ls.length ∧ (ownL ls)[i]? = some u ∧ ixN (ownL ls) i = u ∧ (sprR ls)[i]? = some (lS ls u, lT ls u) := by
  rw [← own_len, ownL, List.length_map] at h
  have hc := List.getElem?_eq_getElem h
  obtain ⟨u, hu, h2⟩ := List.mem_flatMap.mp (List.getElem_mem h)
  have e := (List.mem_replicate.mp h2).2
  have hu := List.mem_range.mp hu
  have h3 : (ownL ls)[i]? = some u := by
    rw [ownL, List.getElem?_map, hc]
    show some ((sprC ls ls.length)[i]).1 = some u
    rw [e]
  refine ⟨u, hu, h3, ?_, ?_⟩
  · unfold ixN
    rw [h3]
    rfl
  · rw [← lots_row, rowsOf, List.getElem?_map, hc]
    show some ((sprC ls ls.length)[i]).2 = _
    rw [e]
theorem own_mono {ls : List Lot} {i j : Nat} (h : i ≤ j) (hj : j < (sprR ls).length) : ixN (ownL ls) i ≤ ixN (ownL ls) j := by
  rcases Nat.lt_or_ge i j with c | c
  · have hl := own_len ls
    have := List.pairwise_iff_getElem.mp (spr_sorted ls ls.length).1 i j (by rw [← hl] at hj; unfold ownL at hj; omega) (by rw [← hl] at hj; exact hj) c
    unfold ixN ownL
    rw [List.getElem?_eq_getElem (by rw [← hl] at hj; unfold ownL at hj; omega), List.getElem?_eq_getElem (by rw [← hl] at hj; exact hj)]
    exact this
  · have : i = j := by omega
    rw [this]
    exact Nat.le_refl _
theorem spr_tl {ls : List Lot} (fit : Fit ls) : ∀ x ∈ sprC ls ls.length, 0 ≤ x.2.2 := fun x hx => by
  obtain ⟨u, hu, h2⟩ := List.mem_flatMap.mp hx
  rw [(List.mem_replicate.mp h2).2]
  exact (fit.at' (List.mem_range.mp hu)).1
theorem sprR_tl {ls : List Lot} (fit : Fit ls) : ∀ b ∈ sprR ls, 0 ≤ b.2 := fun b hb => by
  rw [← lots_row] at hb
  exact tolls_rows (spr_tl fit) b hb
theorem ends_lots {ls : List Lot} (fit : Fit ls) (pos : PosL ls) {E : List Cow} (s : Steps (tag 0 (sprR ls)) E) (n : Nf E) : rlL (ixN (ownL ls)) E = expL ls (endG ls ls.length).2.1 (endG ls ls.length).1 := by
  have s2 := s.map (ixN (ownL ls))
  rw [← lots_row, ownL, rl_tag] at s2
  have k := end_ok fit pos ls.length (Nat.le_refl _)
  exact nf_any (spr_tl fit) s2 (nf_map n) k.s1 (nfr_nf k.nf)
theorem starts_lots {ls : List Lot} (fit : Fit ls) (pos : PosL ls) {B : List Cow} (s : FSteps (tag 0 (sprR ls)) B) (n : Ff B) : rlL (ixN (ownL ls)) B = expF ls (begG ls ls.length ls.length).2 (begG ls ls.length ls.length).1 := by
  have s2 := s.map (ixN (ownL ls))
  rw [← lots_row, ownL, rl_tag] at s2
  obtain ⟨k1, k2, k3⟩ := beg_ok fit pos ls.length (Nat.le_refl _)
  have k4 := spr_both ls ls.length (Nat.le_refl _)
  rw [Nat.sub_self] at k4
  have k4 : sprB ls ls.length ls.length = sprC ls ls.length := k4
  rw [k4] at k1
  exact ff_any (spr_tl fit) s2 (ff_map n) k1 (ffr_ff k2)
theorem pass_strong {rs : HH.Row} {E : List Cow} (tl : ∀ b ∈ rs, 0 ≤ b.2) (s : Steps (tag 0 rs) E) (n : Nf E) {i j : Nat} (hij : i < j) (hj : j < rs.length) (h : bef (E.map (·.1)) j i = true) : sS rs i < sS rs j := by
  have hm : ((i : Int), (j : Int)) ∈ tab (E.map (·.1)) rs.length rs.length := mem_tab.mpr ⟨i, j, hij, hj, rfl, h⟩
  obtain ⟨i', j', h1, h2, h3, h4⟩ := (mem_tabN tl s n).mp hm
  have e1 : i = i' := by
    have := congrArg Prod.fst h3
    exact Int.ofNat.inj this
  have e2 : j = j' := by
    have := congrArg Prod.snd h3
    exact Int.ofNat.inj this
  subst e1 e2
  have := bar_low tl (i := i) (j - i - 1)
  have t0 : 0 ≤ tS rs i := by
    have hi : i < rs.length := by omega
    have := tl _ (List.getElem_mem hi)
    unfold tS
    rw [List.getElem?_eq_getElem hi]
    exact this
  omega
theorem often_is {ls : List Lot} (fit : Fit ls) (pos : PosL ls) {E : List Cow} (s : Steps (tag 0 (sprR ls)) E) (n : Nf E) {who : Nat} (hw : who < (sprR ls).length) : (((List.range who).filter fun i => bef (E.map (·.1)) who i).length : Int) = (endG ls ls.length).2.2.getD (ixN (ownL ls) who) 0 := by
  have ids := s.idsT
  have nd : (E.map (·.1)).Nodup := ids.nodup_iff.mpr List.nodup_range
  obtain ⟨p, hp⟩ := List.getElem?_of_mem (ids.mem_iff.mpr (List.mem_range.mpr hw))
  have k := end_ok fit pos ls.length (Nat.le_refl _)
  have e := ends_lots fit pos s n
  have hp' := hp
  rw [List.getElem?_map, Option.map_eq_some_iff] at hp'
  obtain ⟨c, hc, hcw⟩ := hp'
  have low := k.low p (ixN (ownL ls) who) (rl (ixN (ownL ls)) c) (by rw [← e, rlL, List.getElem?_map, hc]; rfl) (by show ixN (ownL ls) c.1 = _; rw [hcw])
  rw [← low, ← e]
  congr 1
  have h2 : lowB (rlL (ixN (ownL ls)) E) p (ixN (ownL ls) who) = (((E.map (·.1)).drop (p + 1)).filter fun i => decide (ixN (ownL ls) i < ixN (ownL ls) who)).length := by
    unfold lowB rlL
    rw [← List.map_drop, ← List.map_drop, List.filter_map, List.filter_map, List.length_map, List.length_map]
    rfl
  rw [h2]
  refine List.Perm.length_eq ((List.perm_ext_iff_of_nodup (List.nodup_range.filter _) ((nd.sublist (List.drop_sublist _ _)).filter _)).mpr fun i => ?_)
  rw [List.mem_filter, List.mem_filter, List.mem_range, decide_eq_true_iff]
  constructor
  · rintro ⟨h3, h4⟩
    have him := (bef_mem h4).2
    obtain ⟨q, hq⟩ := List.getElem?_of_mem him
    rw [bef_iff nd hp hq] at h4
    have hpq := of_decide_eq_true h4
    refine ⟨List.mem_of_getElem? (i := q - (p + 1)) (by rw [List.getElem?_drop]; rw [show p + 1 + (q - (p + 1)) = q by omega]; exact hq), ?_⟩
    have hle := own_mono (ls := ls) (Nat.le_of_lt h3) hw
    rcases Nat.lt_or_ge (ixN (ownL ls) i) (ixN (ownL ls) who) with c | c
    · exact c
    · exfalso
      have eq : ixN (ownL ls) i = ixN (ownL ls) who := by omega
      obtain ⟨u1, _, _, v1, w1⟩ := own_at (ls := ls) (i := i) (by omega)
      obtain ⟨u2, _, _, v2, w2⟩ := own_at (ls := ls) hw
      have h5 := pass_strong (sprR_tl fit) s n h3 hw (by rw [bef_iff nd hp hq]; exact h4)
      unfold sS at h5
      rw [w1, w2] at h5
      have : u1 = u2 := by omega
      rw [this] at h5
      exact absurd h5 (Int.lt_irrefl _)
  · rintro ⟨h3, h4⟩
    obtain ⟨q, hq⟩ := List.getElem?_of_mem h3
    rw [List.getElem?_drop] at hq
    have hi : i < (sprR ls).length := List.mem_range.mp (ids.mem_iff.mp (List.mem_of_getElem? hq))
    refine ⟨?_, ?_⟩
    · rcases Nat.lt_or_ge i who with c | c
      · exact c
      · have := own_mono (ls := ls) c hi
        omega
    · rw [bef_iff nd hp hq]
      exact decide_eq_true (by omega)
theorem sum_append (xs ys : List Int) : (xs ++ ys).sum = xs.sum + ys.sum := by
  induction xs with
  | nil => show ys.sum = 0 + ys.sum; omega
  | cons x r ih => show x + (r ++ ys).sum = x + r.sum + ys.sum; omega
theorem sum_rep (n : Nat) (x : Int) : (List.replicate n x).sum = x * (n : Int) := by
  induction n with
  | zero => show (0 : Int) = x * 0; omega
  | succ n ih =>
    show x + (List.replicate n x).sum = x * ((n + 1 : Nat) : Int)
    rw [ih, Int.natCast_add, Int.mul_add]
    show x + x * (n : Int) = x * (n : Int) + x * 1
    omega
theorem own_sum (ls : List Lot) (pos : PosL ls) (f : Nat → Int) : ∀ w, w ≤ ls.length → (((sprC ls w).map (·.1)).map f).sum = ((List.range w).map fun i => f i * lM ls i).sum
  | 0, _ => rfl
  | w + 1, hw => by
    have ih := own_sum ls pos f w (by omega)
    have hb : ((blkL ls w (lS ls w)).map (·.1)).map f = List.replicate (lM ls w).toNat (f w) := by
      unfold blkL
      rw [List.map_replicate, List.map_replicate]
    have hm : 1 ≤ lM ls w := pos _ (List.mem_of_getElem? (lot_get (by omega)))
    rw [sprC_succ, List.map_append, List.map_append, sum_append, ih, hb, sum_rep, List.range_succ, List.map_append, sum_append]
    show _ + f w * (((lM ls w).toNat : Nat) : Int) = _ + (f w * lM ls w + 0)
    rw [Int.toNat_of_nonneg (by omega)]
    omega
theorem all_pairs {ls : List Lot} (fit : Fit ls) (pos : PosL ls) {E : List Cow} (s : Steps (tag 0 (sprR ls)) E) (n : Nf E) : ((invJ (E.map (·.1)) (sprR ls).length).length : Int) = passingsG ls := by
  have key : ∀ m, m ≤ (sprR ls).length → ((invJ (E.map (·.1)) m).length : Int) = (((ownL ls).take m).map fun u => (endG ls ls.length).2.2.getD u 0).sum := by
    intro m
    induction m with
    | zero => intro _; rfl
    | succ m ih =>
      intro hm
      have ho := own_at (ls := ls) (i := m) (by omega)
      obtain ⟨u, _, h1, h2, _⟩ := ho
      have := often_is fit pos s n (who := m) (by omega)
      rw [h2] at this
      rw [invJ_succ, List.take_add_one, h1, List.map_append, sum_append, ← ih (by omega)]
      show ((_ + _ : Nat) : Int) = _ + ((endG ls ls.length).2.2.getD u 0 + 0)
      rw [← this]
      omega
  rw [key _ (Nat.le_refl _), ← own_len, List.take_length]
  exact own_sum ls pos _ ls.length (Nat.le_refl _)
theorem exp_rows {ls : List Lot} {st : List Int} : ∀ line : HH.Row, rowsOf (expL ls st line) = sprR (line.map fun x => (st.getD x.1.toNat 0, lT ls x.1.toNat, x.2))
  | [] => rfl
  | x :: r => by
    have ih := exp_rows (ls := ls) (st := st) r
    rw [exp_cons]
    unfold rowsOf at ih ⊢
    rw [List.map_append, ih, List.map_replicate]
    rfl
theorem expF_rows {ls : List Lot} {st : List Int} : ∀ line : List Nat, rowsOf (expF ls st line) = sprR (line.map fun x => (st.getD x 0, lT ls x, lM ls x))
  | [] => rfl
  | x :: r => by
    have ih := expF_rows (ls := ls) (st := st) r
    rw [expF_cons]
    unfold rowsOf at ih ⊢
    rw [List.map_append, ih, List.map_replicate]
    rfl
theorem last_pack {ls : List Lot} (fit : Fit ls) (pos : PosL ls) {E : List Cow} (s : Steps (tag 0 (sprR ls)) E) (n : Nf E) : packL (ones (rowsOf E)) = packL (lastLots ls) := by
  have k := end_ok fit pos ls.length (Nat.le_refl _)
  have e : rowsOf E = sprR (lastLots ls) := by
    rw [← rl_rows (ixN (ownL ls)) E, ends_lots fit pos s n, exp_rows]
    rfl
  rw [e]
  refine fold_ones _ [] fun l hl => ?_
  obtain ⟨x, hx, rfl⟩ := List.mem_map.mp hl
  exact k.pos x hx
theorem first_pack {ls : List Lot} (fit : Fit ls) (pos : PosL ls) {B : List Cow} (s : FSteps (tag 0 (sprR ls)) B) (n : Ff B) : packL (ones (rowsOf B)) = packL (firstLots ls) := by
  have e : rowsOf B = sprR (firstLots ls) := by
    rw [← rl_rows (ixN (ownL ls)) B, starts_lots fit pos s n, expF_rows]
    rfl
  rw [e]
  refine fold_ones _ [] fun l hl => ?_
  obtain ⟨x, hx, rfl⟩ := List.mem_map.mp hl
  have := (begG_facts ls ls.length (Nat.le_refl _)).1 x hx
  have h := pos _ (List.mem_of_getElem? (lot_get this.2))
  exact h
end HH
set_option maxHeartbeats 4000000
namespace HH
open PySem PySem.Spec PyProof.Rows L2 Evl RZ
theorem all_stand {ls : List Lot} (fit : Fit ls) (pos : PosL ls) {i : Nat} (hi : i < ls.length) : ∃ x ∈ (endG ls ls.length).1, x.1 = (i : Int) := by
  have k := end_ok fit pos ls.length (Nat.le_refl _)
  have hb := (endG_facts ls ls.length).1
  have hm : 1 ≤ lM ls i := pos _ (List.mem_of_getElem? (lot_get hi))
  have h1 : (i : Nat) ∈ (sprC ls ls.length).map (·.1) := by
    refine List.mem_map.mpr ⟨(i, (lS ls i, lT ls i)), List.mem_flatMap.mpr ⟨i, List.mem_range.mpr hi, List.mem_replicate.mpr ⟨by omega, rfl⟩⟩, rfl⟩
  have h2 := k.s1.ids.mem_iff.mpr h1
  obtain ⟨c, hc, hci⟩ := List.mem_map.mp h2
  obtain ⟨x, hx, h3⟩ := List.mem_flatMap.mp hc
  obtain ⟨j, e, hj⟩ := hb x hx
  have := (List.mem_replicate.mp h3).2
  subst this
  refine ⟨x, hx, ?_⟩
  have : x.1.toNat = i := hci
  omega
end HH
set_option maxHeartbeats 4000000
namespace HH
open PySem PySem.Spec PyProof.Rows L2 Evl RZ
def lotD (l : Lot) : PyData := .tuple [.int l.1, .int l.2.1, .int l.2.2]
section
variable {P : Addr → Prop} {K : PySem.W.Frag} {c k : Nat} {H H' : Hp} {σ : L2.St} {te ta tb : TE} {D : Ends} {v : V} {d : PyData}
theorem Da.lot {l : Lot} (hd : Da P K c H k v (lotD l)) : LotAt K H v l := by
  obtain ⟨k', a, xs, rfl, rfl, hs, hx⟩ := hd.tupAt
  have hl : xs.length = 3 := hx.1
  obtain ⟨x0, e0, h0, g0, r0⟩ := hx.at' (i := 0) (by omega)
  obtain ⟨x1, e1, h1, g1, r1⟩ := hx.at' (i := 1) (by omega)
  obtain ⟨x2, e2, h2, g2, r2⟩ := hx.at' (i := 2) (by omega)
  cases g0
  cases g1
  cases g2
  have q0 := r0.intAt
  have q1 := r1.intAt
  have q2 := r2.intAt
  subst q0 q1 q2
  refine ⟨a, rfl, ?_⟩
  match xs, hl with
  | [a, b, c], _ =>
    cases h0
    cases h1
    cases h2
    exact hs
end
def Fits (M : Int) (l : Lot) : Prop := -(10 ^ 12) < l.1 ∧ l.1 < 10 ^ 12 ∧ 0 ≤ l.2.1 ∧ l.2.1 < 10 ^ 12 ∧ 1 ≤ l.2.2 ∧ l.2.2 ≤ M
theorem Fits.le {M M' : Int} {l : Lot} (h : Fits M l) (e : M ≤ M') : Fits M' l := ⟨h.1, h.2.1, h.2.2.1, h.2.2.2.1, h.2.2.2.2.1, Int.le_trans h.2.2.2.2.2 e⟩
theorem packL_ne {ls : List Lot} (h : 0 < ls.length) : 0 < (packL ls).length := by
  have e := packL_take (k := ls.length - 1) (List.getElem?_eq_getElem (show ls.length - 1 < ls.length by omega))
  rw [show ls.length - 1 + 1 = ls.length by omega, List.take_length] at e
  rw [e]
  unfold packStep
  rw [List.length_append]
  show 0 < _ + 1
  omega
end HH
namespace HH
open PySem PySem.Spec PyProof.Rows L2 Evl RZ
end HH
namespace HH
open PySem PySem.Spec PyProof.Rows L2 Evl RZ
section
variable {P : Addr → Prop} {K : PySem.W.Frag} {n : Nat} {H : Hp} {σ : L2.St} {D : Ends}
end
end HH
set_option maxHeartbeats 4000000
namespace HH
open PySem PySem.Spec PyProof.Rows L2 Evl RZ
section
variable {K : PySem.W.Frag} {H0 H H' : Hp} {σ : L2.St} {te ta tb : TE} {D : Ends} {tz tu : TS} {g : TG}
theorem q_forSA {a : Addr} {xs : List V} (h : Ev te σ H (.ref a)) (e0 : Ex H0 H) (hs : SqA K H0 a xs) (Pv : Nat → L2.St → Hp → Prop) (h0 : ∀ H1, Ex H H1 → Pv 0 σ H1) (hl : ∀ i σ' H', i ≤ xs.length → Pv i σ' H' → Ex H0 H')
    (hb : ∀ i x σ' H', xs[i]? = some x → Pv i σ' H' → g x σ' H' fun σ2 H2 => tu { D with nx := Pv (i + 1), ct := Pv (i + 1), bk := tz D } σ2 H2) (hd : ∀ σ' H', Pv xs.length σ' H' → tz D σ' H') : tSeq (tFor (iSeqA K te) g tu) tz D σ H :=
  h H (Ex.refl H) _ fun H1 e1 => by
    rcases hs with hs | hs
    · exact ⟨a, xs, rfl, .inl ⟨ex_l (e0.trans e1) hs, for_list (D := { D with nx := tz D }) Pv (h0 H1 e1) (fun i σ' H' hi p => ex_l (hl i σ' H' hi p) hs) hb hd⟩⟩
    · exact ⟨a, xs, rfl, .inr ⟨ex_t (e0.trans e1) hs, for_tup (D := { D with nx := tz D }) Pv (h0 H1 e1) (fun i σ' H' hi p => ex_t (hl i σ' H' hi p) hs) hb hd⟩⟩
end
def spPackA (K : PySem.W.Frag) : Sp := fun vs H Q _ => ∃ (a : Addr) (us : List V) (ls : List Lot), vs = [.ref a] ∧ SqA K H a us ∧ LotsA K H us ls ∧ ls.length ≤ 1000 ∧ ∀ z H', Ex H H' → HerdAt K H' z (packL ls) → Q z H'
end HH
set_option maxHeartbeats 4000000
namespace HH
open PySem PySem.Spec PyProof.Rows L2 Evl RZ
section
variable {K : PySem.W.Frag} {H : Hp} {σ : L2.St} {te ta tb : TE}
end
end HH
set_option maxHeartbeats 4000000
namespace HH
open PySem PySem.Spec PyProof.Rows L2 Evl RZ
theorem PRun.appR {L0 L : List Cow} {ps : List (Int × Int)} (X : List Cow) (h : PRun L0 L ps) : PRun (L0 ++ X) (L ++ X) ps := by
  induction h with
  | nil => exact .nil
  | step r hp ih =>
    rename_i pre post a b ps
    have e1 : (pre ++ a :: b :: post) ++ X = pre ++ a :: b :: (post ++ X) := by simp
    rw [e1] at ih
    have := PRun.step ih hp
    have e2 : (pre ++ (b.1, (b.2.1 - a.2.2, b.2.2)) :: a :: post) ++ X = pre ++ (b.1, (b.2.1 - a.2.2, b.2.2)) :: a :: (post ++ X) := by simp
    rw [e2]
    exact this
def Ex3 (a b c : Addr) (H H' : Hp) : Prop := ∀ x o, x ≠ a → x ≠ b → x ≠ c → H x = some o → H' x = some o
section
variable {a b c : Addr} {H0 H H1 H' : Hp}
theorem Ex3.trans (x : Ex3 a b c H H1) (y : Ex3 a b c H1 H') : Ex3 a b c H H' := fun d o n1 n2 n3 h => y d o n1 n2 n3 (x d o n1 n2 n3 h)
theorem Ex3.of (e : Ex H H') : Ex3 a b c H H' := fun d o _ _ _ h => e d o h
theorem Ex3.u1 {o : HO} (x : Ex3 a b c H H') : Ex3 a b c H (upd H' a o) := fun d u n1 n2 n3 h => by
  rw [upd_ne n1]
  exact x d u n1 n2 n3 h
theorem Ex3.u2 {o : HO} (x : Ex3 a b c H H') : Ex3 a b c H (upd H' b o) := fun d u n1 n2 n3 h => by
  rw [upd_ne n2]
  exact x d u n1 n2 n3 h
end
section
variable {K : PySem.W.Frag} {H H' : Hp} {σ : L2.St} {ta tb tc ti : TE} {D : Ends} {tz : TS}
end
theorem q_par3S {i j l : Nat} {ta tb tc : TE} {tz : TS} {D : Ends} {σ : L2.St} {H : Hp} (h : ta σ H fun x H1 => tb σ H1 fun y H2 => tc σ H2 fun z H3 => ∃ u v w, [x, y, z] = [u, v, w] ∧ tz D (((σ.set i (some u)).set j (some v)).set l (some w)) H3) : tSeq (tPar3 i j l (tCons ta (tCons tb (tCons tc tNil)))) tz D σ H := h
theorem fs_tl {L M : List Cow} (h : FSteps L M) : (∀ x ∈ L, 0 ≤ x.2.2) → ∀ x ∈ M, 0 ≤ x.2.2 := by
  induction h with
  | refl => exact fun h => h
  | head s _ ih =>
    obtain ⟨p, q, a, b, rfl, hp, rfl⟩ := s
    refine fun h => ih fun x hx => ?_
    rcases List.mem_append.mp hx with hx | hx
    · exact h x (List.mem_append_left _ hx)
    · rcases List.mem_cons.mp hx with rfl | hx
      · exact h _ (by simp)
      · rcases List.mem_cons.mp hx with rfl | hx
        · exact h a (by simp)
        · exact h x (by simp [hx])
end HH
set_option maxHeartbeats 4000000
namespace HH
open PySem PySem.Spec PyProof.Rows L2 Evl RZ
def ListOf (H : Hp) (u : V) (xs : List V) : Prop := ∃ p, u = .ref p ∧ H p = some (.lst xs)
theorem ListOf.ex {H H' : Hp} {u : V} {xs : List V} (h : ListOf H u xs) (e : Ex H H') : ListOf H' u xs := let ⟨p, h1, h2⟩ := h; ⟨p, h1, e _ _ h2⟩
section
variable {K : PySem.W.Frag} {H H' : Hp} {σ : L2.St} {te ta tb : TE} {tr : TA}
end
section
variable {H : Hp} {σ : L2.St} {te : TE} {ta : TA} {D : Ends} {tz : TS} {g : TG}
end
end HH
set_option maxHeartbeats 4000000
namespace HH
open PySem PySem.Spec PyProof.Rows L2 Evl RZ
theorem mem_spr {ls : List Lot} {l : Lot} (h : l ∈ ls) (hm : 1 ≤ l.2.2) : (l.1, l.2.1) ∈ sprR ls := List.mem_flatMap.mpr ⟨l, h, List.mem_replicate.mpr ⟨by omega, rfl⟩⟩
theorem many_le : ∀ {ls : List Lot} {l : Lot}, l ∈ ls → l.2.2.toNat ≤ (sprR ls).length
  | x :: ls, l, h => by
    unfold sprR
    rw [List.flatMap_cons, List.length_append, List.length_replicate]
    rcases List.mem_cons.mp h with rfl | h
    · omega
    · have := many_le h
      unfold sprR at this
      omega
theorem tag0_fst (rs : HH.Row) : (tag 0 rs).map (·.1) = List.range rs.length := by
  rw [tag_fst]
  have e : (fun x => 0 + x) = (id : Nat → Nat) := by
    funext x
    exact Nat.zero_add x
  rw [e, List.map_id]
theorem ids_low {rs : HH.Row} {E : List Cow} (s : Steps (tag 0 rs) E) : (∀ x ∈ E.map (·.1), x < rs.length) ∧ E.length = rs.length := by
  have h := s.ids
  rw [tag0_fst] at h
  refine ⟨fun x hx => List.mem_range.mp (h.mem_iff.mp hx), ?_⟩
  have := h.length_eq
  rw [List.length_map, List.length_range] at this
  exact this
theorem pairs_inv {n : Nat} {l : List Nat} {ps : HH.Row} (t : Told n l ps) (hl : ∀ x ∈ l, x < n) : ps.Perm (invJ l n) := by
  refine (told_tab t hl).trans (told_tab ⟨fun p => ?_, nd_invJ⟩ hl).symm
  rw [mem_invJ]
  constructor
  · rintro ⟨i, j, h1, h2, h3, h4⟩
    exact ⟨i, j, h1, h3, h4⟩
  · rintro ⟨i, j, h1, h2, h3⟩
    exact ⟨i, j, h1, hl _ (bef_mem h3).1, h2, h3⟩
section
variable {ls : List Lot} {E : List Cow} {ps : HH.Row}
theorem pairs_len (fit : Fit ls) (pos : PosL ls) (r : PRun (tag 0 (sprR ls)) E ps) (n : NfR E) : (ps.length : Int) = passingsG ls := by
  have t := (r.told (sprR_tl fit)).1
  have p := pairs_inv t (ids_low r.steps).1
  rw [p.length_eq]
  exact all_pairs fit pos r.steps (nfr_nf n)
end
end HH
set_option maxHeartbeats 4000000
namespace HH
open PySem PySem.Spec PyProof.Rows L2 Evl RZ
def Mild (ls : List Lot) : Prop := ls.length ≤ 100 ∧ PosL ls ∧ (∀ b ∈ sprR ls, 0 ≤ b.2 ∧ b.2 < 1152921504606846976) ∧ (sprR ls).length < 1152921504606846976
theorem Mild.fit {ls : List Lot} (h : Mild ls) : Fit ls := ⟨h.1, fun l hl => by
  have h1 := h.2.1 l hl
  have h2 := h.2.2.1 _ (mem_spr hl h1)
  have h3 := many_le hl
  have h4 := h.2.2.2
  exact ⟨h2.1, h2.2, by omega, by omega⟩⟩
theorem rows_tag (rs : HH.Row) : rowsOf (tag 0 rs) = rs := tag_snd 0 rs
theorem nf_rows {E : List Cow} (h : Nf E) : Nf (tag 0 (rowsOf E)) := nf_un (f := ixN (E.map (·.1))) (by rw [rl_tag]; exact h)
theorem row_end {rs : HH.Row} (tl : ∀ b ∈ rs, 0 ≤ b.2) : ∃ E, Steps (tag 0 rs) E ∧ Nf E := some_nf _ (good_tag tl) (Nat.le_refl _)
theorem row_start {rs : HH.Row} (tl : ∀ b ∈ rs, 0 ≤ b.2) : ∃ B, FSteps (tag 0 rs) B ∧ Ff B := some_ff _ (fgood_tag tl) (Nat.le_refl _)
theorem tl_tag {rs : HH.Row} (tl : ∀ b ∈ rs, 0 ≤ b.2) : ∀ x ∈ tag 0 rs, 0 ≤ x.2.2 := (good_tag tl).tl
theorem Steps.tlP {P : Int → Prop} {L M : List Cow} (h : Steps L M) : (∀ x ∈ L, P x.2.2) → ∀ x ∈ M, P x.2.2 := by
  induction h with
  | refl => exact fun h => h
  | head s _ ih =>
    obtain ⟨p, q, a, b, rfl, hp, rfl⟩ := s
    refine fun h => ih fun x hx => ?_
    rcases List.mem_append.mp hx with hx | hx
    · exact h x (List.mem_append_left _ hx)
    · rcases List.mem_cons.mp hx with rfl | hx
      · exact h b (by simp)
      · rcases List.mem_cons.mp hx with rfl | hx
        · exact h _ (by simp)
        · exact h x (by simp [hx])
theorem FSteps.tlP {P : Int → Prop} {L M : List Cow} (h : FSteps L M) : (∀ x ∈ L, P x.2.2) → ∀ x ∈ M, P x.2.2 := by
  induction h with
  | refl => exact fun h => h
  | head s _ ih =>
    obtain ⟨p, q, a, b, rfl, hp, rfl⟩ := s
    refine fun h => ih fun x hx => ?_
    rcases List.mem_append.mp hx with hx | hx
    · exact h x (List.mem_append_left _ hx)
    · rcases List.mem_cons.mp hx with rfl | hx
      · exact h _ (by simp)
      · rcases List.mem_cons.mp hx with rfl | hx
        · exact h a (by simp)
        · exact h x (by simp [hx])
theorem nf_at {X Y : List Cow} {c d : Cow} (h : Nf (X ++ c :: d :: Y)) : ¬ (d.2.1 - c.2.2 > c.2.1) := fun z => h _ ⟨X, Y, c, d, rfl, z, rfl⟩
theorem ff_at {X Y : List Cow} {c d : Cow} (h : Ff (X ++ c :: d :: Y)) : ¬ (c.2.1 > d.2.1) := fun z => h _ ⟨X, Y, c, d, rfl, z, rfl⟩
theorem tag_P {P : Int → Prop} {rs : HH.Row} (h : ∀ b ∈ rs, P b.2) : ∀ x ∈ tag 0 rs, P x.2.2 := fun x hx => by
  have h2 : x.2 ∈ (tag 0 rs).map (·.2) := List.mem_map.mpr ⟨x, hx, rfl⟩
  rw [tag_snd] at h2
  exact h _ h2
theorem rows_P {P : Int → Prop} {L : List Cow} (h : ∀ x ∈ L, P x.2.2) : ∀ b ∈ rowsOf L, P b.2 := fun b hb => by
  obtain ⟨c, hc, rfl⟩ := List.mem_map.mp hb
  exact h c hc
structure HerdE (ls A Z : List Lot) (E B : List Cow) : Prop where
  sE : Steps (tag 0 (sprR ls)) E
  nE : Nf E
  sB : FSteps (tag 0 (sprR ls)) B
  nB : Ff B
  eA : A = packL (ones (rowsOf E))
  eZ : Z = packL (ones (rowsOf B))
  lA : A = packL (lastLots ls)
  lZ : Z = packL (firstLots ls)
theorem herd_ends {ls : List Lot} (h : Mild ls) : ∃ E B, HerdE ls (packL (lastLots ls)) (packL (firstLots ls)) E B := by
  have fit := h.fit
  have tl := sprR_tl fit
  obtain ⟨E, sE, nE⟩ := row_end tl
  obtain ⟨B, sB, nB⟩ := row_start tl
  exact ⟨E, B, sE, nE, sB, nB, (last_pack fit h.2.1 sE nE).symm, (first_pack fit h.2.1 sB nB).symm, rfl, rfl⟩
section
variable {ls A Z : List Lot} {E B : List Cow}
theorem HerdE.tlE (h : Mild ls) (e : HerdE ls A Z E B) : ∀ x ∈ E, 0 ≤ x.2.2 := e.sE.tl (tl_tag (sprR_tl h.fit))
theorem HerdE.tlB (h : Mild ls) (e : HerdE ls A Z E B) : ∀ x ∈ B, 0 ≤ x.2.2 := fs_tl e.sB (tl_tag (sprR_tl h.fit))
theorem HerdE.sprA (e : HerdE ls A Z E B) : sprR A = rowsOf E := by rw [e.eA, packL_spr (ones_pos _), ones_spr]
theorem HerdE.sprZ (e : HerdE ls A Z E B) : sprR Z = rowsOf B := by rw [e.eZ, packL_spr (ones_pos _), ones_spr]
theorem HerdE.posA (e : HerdE ls A Z E B) : PosL A := by rw [e.eA]; exact packL_pos (ones_pos _)
theorem HerdE.posZ (e : HerdE ls A Z E B) : PosL Z := by rw [e.eZ]; exact packL_pos (ones_pos _)
theorem HerdE.lenE (e : HerdE ls A Z E B) : (rowsOf E).length = (sprR ls).length := by
  unfold rowsOf
  rw [List.length_map]
  exact (ids_low e.sE).2
theorem HerdE.lenB (e : HerdE ls A Z E B) : (rowsOf B).length = (sprR ls).length := by
  unfold rowsOf
  rw [List.length_map, e.sB.len]
  have h2 := congrArg List.length (tag0_fst (sprR ls))
  rw [List.length_map, List.length_range] at h2
  exact h2
theorem HerdE.tP {P : Int → Prop} (e : HerdE ls A Z E B) (h : ∀ b ∈ sprR ls, P b.2) : (∀ b ∈ rowsOf E, P b.2) ∧ ∀ b ∈ rowsOf B, P b.2 :=
  ⟨rows_P (Steps.tlP e.sE (tag_P h)), rows_P fun x hx => by
    exact FSteps.tlP e.sB (tag_P h) x hx⟩
theorem HerdE.mildA (h : Mild ls) (hl : ls.length ≤ 50) (e : HerdE ls A Z E B) : Mild A ∧ A.length ≤ 2 * ls.length := by
  have l1 : A.length ≤ 2 * ls.length := by
    rw [e.lA]
    have h1 := packL_len (lastLots ls)
    have h2 : (lastLots ls).length = (endG ls ls.length).1.length := List.length_map ..
    have h3 := (endG_facts ls ls.length).2.1
    omega
  refine ⟨⟨by omega, e.posA, ?_, by rw [e.sprA, e.lenE]; exact h.2.2.2⟩, l1⟩
  rw [e.sprA]
  exact (e.tP (P := fun t => 0 ≤ t ∧ t < 1152921504606846976) h.2.2.1).1
theorem HerdE.mildZ (h : Mild ls) (e : HerdE ls A Z E B) : Mild Z ∧ Z.length ≤ ls.length := by
  have l1 : Z.length ≤ ls.length := by
    rw [e.lZ]
    have h1 := packL_len (firstLots ls)
    have h2 : (firstLots ls).length = (begG ls ls.length ls.length).1.length := List.length_map ..
    have h3 := (begG_facts ls ls.length (Nat.le_refl _)).2.1
    omega
  refine ⟨⟨by have := h.1; omega, e.posZ, ?_, by rw [e.sprZ, e.lenB]; exact h.2.2.2⟩, l1⟩
  rw [e.sprZ]
  exact (e.tP (P := fun t => 0 ≤ t ∧ t < 1152921504606846976) h.2.2.1).2
theorem HerdE.lastA (h : Mild ls) (hl : ls.length ≤ 50) (e : HerdE ls A Z E B) : packL (lastLots A) = A := by
  have m := (e.mildA h hl).1
  have n : Nf (tag 0 (sprR A)) := by
    rw [e.sprA]
    exact nf_rows e.nE
  have := last_pack m.fit m.2.1 (.refl _) n
  rw [← this, rows_tag, e.sprA]
  exact e.eA.symm
theorem HerdE.firstA (h : Mild ls) (hl : ls.length ≤ 50) (e : HerdE ls A Z E B) : packL (firstLots A) = Z := by
  have m := (e.mildA h hl).1
  obtain ⟨M, sM, nM⟩ := row_start (sprR_tl m.fit)
  have := first_pack m.fit m.2.1 sM nM
  rw [e.sprA] at sM
  have r := (relF (e.tlE h) sM nM (e.sE.back.trans e.sB) e.nB).1
  rw [← this, r]
  exact e.eZ.symm
theorem HerdE.lastZ (h : Mild ls) (e : HerdE ls A Z E B) : packL (lastLots Z) = A := by
  have m := (e.mildZ h).1
  obtain ⟨M, sM, nM⟩ := row_end (sprR_tl m.fit)
  have := last_pack m.fit m.2.1 sM nM
  rw [e.sprZ] at sM
  have r := (relS (e.tlB h) sM nM (e.sB.back.trans e.sE) e.nE).1
  rw [← this, r]
  exact e.eA.symm
end
theorem spr_two {A C : List Lot} {a b : Lot} (ha : 1 ≤ a.2.2) (hb : 1 ≤ b.2.2) : ∃ P Q, sprR (A ++ a :: b :: C) = P ++ (a.1, a.2.1) :: (b.1, b.2.1) :: Q := by
  obtain ⟨m, hm⟩ : ∃ m, a.2.2.toNat = m + 1 := ⟨a.2.2.toNat - 1, by omega⟩
  obtain ⟨k, hk⟩ : ∃ k, b.2.2.toNat = k + 1 := ⟨b.2.2.toNat - 1, by omega⟩
  refine ⟨sprR A ++ List.replicate m (a.1, a.2.1), List.replicate k (b.1, b.2.1) ++ sprR C, ?_⟩
  rw [spr_app]
  have e : sprR (a :: b :: C) = List.replicate a.2.2.toNat (a.1, a.2.1) ++ (List.replicate b.2.2.toNat (b.1, b.2.1) ++ sprR C) := by
    unfold sprR
    rw [List.flatMap_cons, List.flatMap_cons]
  rw [e, hm, hk, rep_snoc, List.replicate_succ]
  simp
theorem row_two {E : List Cow} {P Q : HH.Row} {x y : Int × Int} (h : rowsOf E = P ++ x :: y :: Q) : ∃ (A D : List Cow) (c d : Cow), E = A ++ c :: d :: D ∧ c.2 = x ∧ d.2 = y := by
  unfold rowsOf at h
  obtain ⟨A, R, rfl, h1, h2⟩ := List.map_eq_append_iff.mp h
  obtain ⟨c, R, rfl, h3, h4⟩ := List.map_eq_cons_iff.mp h2
  obtain ⟨d, D, rfl, h5, h6⟩ := List.map_eq_cons_iff.mp h4
  exact ⟨A, D, c, d, rfl, h3, h5⟩
theorem two_at {α : Type} {xs : List α} {i : Nat} {a b : α} (h1 : xs[i]? = some a) (h2 : xs[i + 1]? = some b) : xs = xs.take i ++ a :: b :: xs.drop (i + 2) := by
  obtain ⟨l1, e1⟩ := List.getElem?_eq_some_iff.mp h1
  obtain ⟨l2, e2⟩ := List.getElem?_eq_some_iff.mp h2
  rw [← e1, ← e2, ← List.drop_eq_getElem_cons l2, ← List.drop_eq_getElem_cons l1, List.take_append_drop]
section
variable {ls A Z : List Lot} {E B : List Cow}
theorem HerdE.nextA (e : HerdE ls A Z E B) {i : Nat} {a b : Lot} (h1 : A[i]? = some a) (h2 : A[i + 1]? = some b) : ¬ (b.1 - a.2.1 > a.1) := fun z => by
  have ha := e.posA a (List.mem_of_getElem? h1)
  have hb := e.posA b (List.mem_of_getElem? h2)
  obtain ⟨P, Q, h3⟩ := spr_two (A := A.take i) (C := A.drop (i + 2)) ha hb
  rw [← two_at h1 h2, e.sprA] at h3
  obtain ⟨X, Y, c, d, rfl, hc, hd⟩ := row_two h3
  exact nf_at e.nE (by rw [hc, hd]; exact z)
theorem HerdE.nextZ (e : HerdE ls A Z E B) {i : Nat} {a b : Lot} (h1 : Z[i]? = some a) (h2 : Z[i + 1]? = some b) : ¬ (a.1 > b.1) := fun z => by
  have ha := e.posZ a (List.mem_of_getElem? h1)
  have hb := e.posZ b (List.mem_of_getElem? h2)
  obtain ⟨P, Q, h3⟩ := spr_two (A := Z.take i) (C := Z.drop (i + 2)) ha hb
  rw [← two_at h1 h2, e.sprZ] at h3
  obtain ⟨X, Y, c, d, rfl, hc, hd⟩ := row_two h3
  exact ff_at e.nB (by rw [hc, hd]; exact z)
end
end HH
set_option maxHeartbeats 4000000
namespace HH
open PySem PySem.Spec PyProof.Rows L2 Evl RZ
theorem many_scl {c a t m : Int} (hc : 0 < c) (ht : 0 ≤ t) : manyP (c * a) (c * t) m = manyP a t m := by
  unfold manyP
  by_cases h : a ≤ 0
  · rw [if_pos h, if_pos (Int.mul_nonpos_of_nonneg_of_nonpos (Int.le_of_lt hc) h)]
  · have ha : 0 < a := by omega
    have : ¬ (c * a ≤ 0) := by
      have := Int.mul_pos hc ha
      omega
    rw [if_neg h, if_neg this]
    by_cases h0 : t = 0
    · rw [if_pos h0, if_pos (by rw [h0, Int.mul_zero])]
    · have htp : 0 < t := by omega
      have : ¬ (c * t = 0) := by
        have := Int.mul_pos hc htp
        omega
      rw [if_neg h0, if_neg this]
      have e : (c * a - 1) / (c * t) = (a - 1) / t := by
        rw [← Int.ediv_ediv_of_nonneg (Int.le_of_lt hc)]
        congr 1
        have e1 : c * a - 1 = (c - 1) + c * (a - 1) := by
          rw [Int.mul_sub]
          omega
        rw [e1, Int.add_mul_ediv_left _ _ (by omega), Int.ediv_eq_zero_of_lt (by omega) (by omega), Int.zero_add]
      rw [e]
theorem goL_like {c d : Int} (hc : 0 < c) {st st' : List Int} {ls ls' : List Lot} {w : Nat} (hs : ∀ j, j < w → st'.getD j 0 = c * st.getD j 0 + d) (ht : ∀ j, j < w → lT ls' j = c * lT ls j ∧ 0 ≤ lT ls j) : ∀ {r B : HH.Row} {s t : Int}, Bel w r →
    (goL st' ls' w r B (c * s + d) t).2.1 = c * (goL st ls w r B s t).2.1 + d ∧ (goL st' ls' w r B (c * s + d) t).2.2 = (goL st ls w r B s t).2.2 ∧ (lM ls' w = lM ls w → (goL st' ls' w r B (c * s + d) t).1 = (goL st ls w r B s t).1)
  | [], B, s, t, _ => by
    unfold goL
    refine ⟨rfl, rfl, fun h => ?_⟩
    dsimp only
    rw [h]
  | x :: r, B, s, t, hr => by
    obtain ⟨j, ej, hj⟩ := hr x (List.mem_cons_self ..)
    have hr' : Bel w r := fun y hy => hr y (List.mem_cons_of_mem _ hy)
    have e1 : x.1.toNat = j := by rw [ej, Int.toNat_natCast]
    have em : manyP (c * s + d - st'.getD x.1.toNat 0) (lT ls' x.1.toNat) x.2 = manyP (s - st.getD x.1.toNat 0) (lT ls x.1.toNat) x.2 := by
      rw [e1, hs j hj, (ht j hj).1, show c * s + d - (c * st.getD j 0 + d) = c * (s - st.getD j 0) by rw [Int.mul_sub]; omega]
      exact many_scl hc (ht j hj).2
    rw [goL_cons, goL_cons, em]
    generalize manyP (s - st.getD x.1.toNat 0) (lT ls x.1.toNat) x.2 = m
    have es : c * s + d - m * lT ls' x.1.toNat = c * (s - m * lT ls x.1.toNat) + d := by
      rw [e1, (ht j hj).1, Int.mul_sub, Int.mul_left_comm]
      omega
    rw [es]
    by_cases h : m < x.2
    · rw [if_pos h, if_pos h]
      refine ⟨rfl, rfl, fun hm => ?_⟩
      dsimp only
      rw [hm]
    · rw [if_neg h, if_neg h]
      exact goL_like hc hs ht hr'
theorem getD_mapS {ls : List Lot} {j : Nat} (h : j < ls.length) : (ls.map (·.1)).getD j 0 = lS ls j := by
  unfold lS
  rw [List.getD_eq_getElem?_getD, List.getElem?_map, List.getElem?_eq_getElem h]
  rfl
theorem getD_setI {st : List Int} {i j : Nat} {x : Int} (hi : i < st.length) : (st.set i x).getD j 0 = if i = j then x else st.getD j 0 := by
  rw [List.getD_eq_getElem?_getD, List.getElem?_set]
  by_cases h : i = j
  · subst h
    rw [if_pos rfl, if_pos rfl, if_pos hi]
    rfl
  · rw [if_neg h, if_neg h, ← List.getD_eq_getElem?_getD]
structure LikeL (c d : Int) (m : Nat) (ls ls' : List Lot) : Prop where
  l1 : m ≤ ls.length
  l2 : m ≤ ls'.length
  s : ∀ j, j < m → lS ls' j = c * lS ls j + d
  t : ∀ j, j < m → lT ls' j = c * lT ls j ∧ 0 ≤ lT ls j
theorem endG_like {c d : Int} (hc : 0 < c) {m : Nat} {ls ls' : List Lot} (k : LikeL c d m ls ls') : ∀ w, w ≤ m → (∀ j, j < w → lM ls' j = lM ls j) →
    (endG ls' w).1 = (endG ls w).1 ∧ (∀ j, j < m → (endG ls' w).2.1.getD j 0 = c * (endG ls w).2.1.getD j 0 + d) ∧ (endG ls' w).2.2 = (endG ls w).2.2
  | 0, _, _ => ⟨rfl, fun j hj => by
      show (ls'.map (·.1)).getD j 0 = c * (ls.map (·.1)).getD j 0 + d
      rw [getD_mapS (by have := k.l2; omega), getD_mapS (by have := k.l1; omega)]
      exact k.s j hj, rfl⟩
  | w + 1, hw, hM => by
    obtain ⟨h1, h2, h3⟩ := endG_like hc k w (by omega) (fun j hj => hM j (by omega))
    obtain ⟨b1, b2, b3, b4⟩ := endG_facts ls w
    obtain ⟨_, _, b3', _⟩ := endG_facts ls' w
    have bel : Bel w (endG ls w).1.reverse := fun x hx => b1 x (List.mem_reverse.mp hx)
    obtain ⟨g1, g2, g3⟩ := goL_like (s := (endG ls w).2.1.getD w 0) (t := 0) (B := []) hc (st := (endG ls w).2.1) (st' := (endG ls' w).2.1) (ls := ls) (ls' := ls') (w := w) (fun j hj => h2 j (by omega)) (fun j hj => k.t j (by omega)) bel
    have hs := h2 w (by omega)
    have e : endG ls' (w + 1) = ((goL (endG ls' w).2.1 ls' w (endG ls w).1.reverse [] (c * (endG ls w).2.1.getD w 0 + d) 0).1, (endG ls' w).2.1.set w (goL (endG ls' w).2.1 ls' w (endG ls w).1.reverse [] (c * (endG ls w).2.1.getD w 0 + d) 0).2.1, (endG ls w).2.2 ++ [(goL (endG ls' w).2.1 ls' w (endG ls w).1.reverse [] (c * (endG ls w).2.1.getD w 0 + d) 0).2.2]) := by
      rw [endG]
      rw [h1, h3, hs]
    have e' : endG ls (w + 1) = ((goL (endG ls w).2.1 ls w (endG ls w).1.reverse [] ((endG ls w).2.1.getD w 0) 0).1, (endG ls w).2.1.set w (goL (endG ls w).2.1 ls w (endG ls w).1.reverse [] ((endG ls w).2.1.getD w 0) 0).2.1, (endG ls w).2.2 ++ [(goL (endG ls w).2.1 ls w (endG ls w).1.reverse [] ((endG ls w).2.1.getD w 0) 0).2.2]) := rfl
    rw [e, e']
    refine ⟨g3 (hM w (by omega)), fun j hj => ?_, by rw [g2]⟩
    rw [getD_setI (by rw [b3']; have := k.l2; omega), getD_setI (by rw [b3]; have := k.l1; omega)]
    split
    · exact g1
    · exact h2 j hj
theorem told_like {c d : Int} (hc : 0 < c) {w : Nat} {ls ls' : List Lot} (k : LikeL c d (w + 1) ls ls') (hM : ∀ j, j < w → lM ls' j = lM ls j) : (endG ls' (w + 1)).2.2 = (endG ls (w + 1)).2.2 := by
  obtain ⟨h1, h2, h3⟩ := endG_like hc k w (by omega) hM
  have bel : Bel w (endG ls w).1.reverse := fun x hx => (endG_facts ls w).1 x (List.mem_reverse.mp hx)
  obtain ⟨g1, g2, g3⟩ := goL_like (s := (endG ls w).2.1.getD w 0) (t := 0) (B := []) hc (st := (endG ls w).2.1) (st' := (endG ls' w).2.1) (ls := ls) (ls' := ls') (w := w) (fun j hj => h2 j (by omega)) (fun j hj => k.t j (by omega)) bel
  have hs := h2 w (by omega)
  rw [endG, endG]
  dsimp only
  rw [h1, h3, hs, g2]
theorem told_take (ls : List Lot) (k : Nat) : ∀ n, k ≤ n → (endG ls k).2.2 = (endG ls n).2.2.take k
  | 0, h => by
    have : k = 0 := by omega
    subst this
    rfl
  | n + 1, h => by
    have hl := (endG_facts ls n).2.2.2
    by_cases e : k = n + 1
    · subst e
      have := (endG_facts ls (n + 1)).2.2.2
      rw [List.take_of_length_le (by omega)]
    · rw [told_take ls k n (by omega)]
      show _ = (List.take k (_ ++ [_]))
      rw [List.take_append_of_le_length (by omega)]
theorem lS_take {ls ms : List Lot} {k j : Nat} (h : j < k) (hk : k ≤ ls.length) : lS (ls.take k ++ ms) j = lS ls j ∧ lT (ls.take k ++ ms) j = lT ls j ∧ lM (ls.take k ++ ms) j = lM ls j := by
  have e : (ls.take k ++ ms)[j]? = ls[j]? := by
    rw [List.getElem?_append_left (by rw [List.length_take]; omega), List.getElem?_take_of_lt h]
  unfold lS lT lM
  rw [e]
  exact ⟨rfl, rfl, rfl⟩
theorem told_alone {ls : List Lot} (fit : Fit ls) {k : Nat} {m : Int} (hk : k < ls.length) : (endG (ls.take k ++ [(lS ls k, lT ls k, m)]) (ls.take k ++ [(lS ls k, lT ls k, m)]).length).2.2 = (endG ls ls.length).2.2.take (k + 1) := by
  have hl : (ls.take k ++ [(lS ls k, lT ls k, m)]).length = k + 1 := by
    rw [List.length_append, List.length_take]
    show min k ls.length + 1 = _
    omega
  have at' : (ls.take k ++ [(lS ls k, lT ls k, m)])[k]? = some (lS ls k, lT ls k, m) := by
    rw [List.getElem?_append_right (by rw [List.length_take]; omega), List.length_take, show k - min k ls.length = 0 by omega]
    rfl
  rw [hl, ← told_take ls (k + 1) ls.length (by omega)]
  refine told_like (c := 1) (d := 0) (by decide) (ls := ls) ⟨by omega, by omega, fun j hj => ?_, fun j hj => ?_⟩ fun j hj => (lS_take hj (by omega)).2.2
  · rw [Int.one_mul, Int.add_zero]
    by_cases e : j = k
    · subst e
      show ((ls.take j ++ _)[j]?.getD (0, 0, 0)).1 = _
      rw [at']
      rfl
    · exact (lS_take (by omega) (by omega)).1
  · rw [Int.one_mul]
    refine ⟨?_, (fit.at' (by omega)).1⟩
    by_cases e : j = k
    · subst e
      show ((ls.take j ++ _)[j]?.getD (0, 0, 0)).2.1 = _
      rw [at']
      rfl
    · exact (lS_take (by omega) (by omega)).2.1
theorem told_upto {ls : List Lot} (fit : Fit ls) {k : Nat} (hk : k < ls.length) : (endG (ls.take (k + 1)) (ls.take (k + 1)).length).2.2 = (endG ls ls.length).2.2.take (k + 1) := by
  have := told_alone fit (m := lM ls k) hk
  have e : ls.take (k + 1) = ls.take k ++ [(lS ls k, lT ls k, lM ls k)] := by
    rw [List.take_add_one, lot_get hk]
    rfl
  rw [e]
  exact this
def sclL (c d : Int) (ls : List Lot) : List Lot := ls.map fun l => (c * l.1 + d, c * l.2.1, l.2.2)
theorem lS_scl {c d : Int} {ls : List Lot} {j : Nat} (h : j < ls.length) : lS (sclL c d ls) j = c * lS ls j + d ∧ lT (sclL c d ls) j = c * lT ls j ∧ lM (sclL c d ls) j = lM ls j := by
  unfold lS lT lM sclL
  rw [List.getElem?_map, List.getElem?_eq_getElem h]
  exact ⟨rfl, rfl, rfl⟩
theorem scl_len (c d : Int) (ls : List Lot) : (sclL c d ls).length = ls.length := List.length_map ..
theorem scl_end {c d : Int} (hc : 0 < c) {ls : List Lot} (fit : Fit ls) : (endG (sclL c d ls) (sclL c d ls).length).1 = (endG ls ls.length).1 ∧ (∀ j, j < ls.length → (endG (sclL c d ls) (sclL c d ls).length).2.1.getD j 0 = c * (endG ls ls.length).2.1.getD j 0 + d) ∧ (endG (sclL c d ls) (sclL c d ls).length).2.2 = (endG ls ls.length).2.2 := by
  rw [scl_len]
  exact endG_like hc (m := ls.length) ⟨Nat.le_refl _, by rw [scl_len]; exact Nat.le_refl _, fun j hj => (lS_scl hj).1, fun j hj => ⟨(lS_scl hj).2.1, (fit.at' hj).1⟩⟩ ls.length (Nat.le_refl _) fun j hj => (lS_scl hj).2.2
theorem scl_places {c d : Int} (hc : 0 < c) {ls : List Lot} (fit : Fit ls) : placesG (sclL c d ls) = placesG ls := by
  unfold placesG
  rw [(scl_end (d := d) hc fit).1, scl_len]
theorem scl_last {c d : Int} (hc : 0 < c) {ls : List Lot} (fit : Fit ls) : lastLots (sclL c d ls) = sclL c d (lastLots ls) := by
  unfold lastLots
  obtain ⟨h1, h2, _⟩ := scl_end (d := d) hc fit
  rw [h1]
  unfold sclL
  rw [List.map_map]
  refine List.map_congr_left fun x hx => ?_
  obtain ⟨j, ej, hj⟩ := (endG_facts ls ls.length).1 x hx
  have e1 : x.1.toNat = j := by rw [ej, Int.toNat_natCast]
  have h2 := h2 j hj
  unfold sclL at h2
  have h3 := (lS_scl (c := c) (d := d) hj).2.1
  unfold sclL at h3
  show (_, _, _) = (_, _, _)
  dsimp only
  rw [e1, h2, h3]
theorem scl_alike {c d : Int} (hc : 0 < c) (acc : List Lot) (s t : Int) : alikeB (sclL c d acc) (c * s + d) (c * t) = alikeB acc s t := by
  unfold alikeB sclL
  rw [List.getLast?_map]
  cases h : acc.getLast? with
  | none => rfl
  | some l =>
    show decide (c * l.1 + d = c * s + d ∧ c * l.2.1 = c * t) = decide (l.1 = s ∧ l.2.1 = t)
    refine decide_eq_decide.mpr ⟨fun ⟨a, b⟩ => ⟨?_, ?_⟩, fun ⟨a, b⟩ => ⟨by rw [a], by rw [b]⟩⟩
    · exact Int.eq_of_mul_eq_mul_left (by omega) (by omega : c * l.1 = c * s)
    · exact Int.eq_of_mul_eq_mul_left (by omega) b
theorem scl_pack {c d : Int} (hc : 0 < c) : ∀ (ls acc : List Lot), (sclL c d ls).foldl packStep (sclL c d acc) = sclL c d (ls.foldl packStep acc)
  | [], acc => rfl
  | l :: ls, acc => by
    show (sclL c d ls).foldl packStep (packStep (sclL c d acc) (c * l.1 + d, c * l.2.1, l.2.2)) = _
    have e : packStep (sclL c d acc) (c * l.1 + d, c * l.2.1, l.2.2) = sclL c d (packStep acc l) := by
      unfold packStep popL befL
      dsimp only
      rw [scl_alike hc]
      split
      · unfold sclL
        rw [List.map_append, List.map_dropLast, List.getLast?_map]
        cases acc.getLast? with
        | none => rfl
        | some m => rfl
      · unfold sclL
        rw [List.map_append]
        rfl
    rw [e]
    exact scl_pack hc ls (packStep acc l)
theorem scl_packL {c d : Int} (hc : 0 < c) (ls : List Lot) : packL (sclL c d ls) = sclL c d (packL ls) := scl_pack hc ls []
def cntL (ls : List Lot) : Int := (ls.map (·.2.2)).sum
def totL (ls : List Lot) : Int := (ls.map fun l => l.1 * l.2.2).sum
def sumS (rs : HH.Row) : Int := (rs.map (·.1)).sum
theorem sumS_app (a b : HH.Row) : sumS (a ++ b) = sumS a + sumS b := by
  unfold sumS
  rw [List.map_append, sum_append]
theorem cnt_spr : ∀ {ls : List Lot}, PosL ls → cntL ls = ((sprR ls).length : Int)
  | [], _ => rfl
  | l :: ls, h => by
    have ih := cnt_spr (ls := ls) fun x hx => h x (List.mem_cons_of_mem _ hx)
    have hl := h l (List.mem_cons_self ..)
    have e : sprR (l :: ls) = List.replicate l.2.2.toNat (l.1, l.2.1) ++ sprR ls := by
      unfold sprR
      rw [List.flatMap_cons]
    rw [e, List.length_append, List.length_replicate]
    unfold cntL at ih ⊢
    rw [List.map_cons, List.sum_cons, ih]
    omega
theorem tot_spr : ∀ {ls : List Lot}, PosL ls → totL ls = sumS (sprR ls)
  | [], _ => rfl
  | l :: ls, h => by
    have ih := tot_spr (ls := ls) fun x hx => h x (List.mem_cons_of_mem _ hx)
    have hl := h l (List.mem_cons_self ..)
    have e : sprR (l :: ls) = List.replicate l.2.2.toNat (l.1, l.2.1) ++ sprR ls := by
      unfold sprR
      rw [List.flatMap_cons]
    rw [e, sumS_app]
    unfold totL at ih ⊢
    rw [List.map_cons, List.sum_cons, ih]
    have e2 : sumS (List.replicate l.2.2.toNat (l.1, l.2.1)) = l.1 * l.2.2 := by
      unfold sumS
      rw [List.map_replicate, sum_rep, Int.toNat_of_nonneg (by omega)]
    rw [e2]
theorem stepsN_sum {t : Int} {k : Nat} {L M : List Cow} (h : StepsN k L M) : (∀ x ∈ L, x.2.2 = t) → sumS (rowsOf L) - sumS (rowsOf M) = t * (k : Int) := by
  induction h with
  | refl => intro _; simp
  | head s _ ih =>
    rename_i k L M N _
    intro ht
    have hM : ∀ x ∈ M, x.2.2 = t := (Steps.one s).tlP (P := fun z => z = t) ht
    have ih := ih hM
    obtain ⟨p, q, a, b, rfl, hp, rfl⟩ := s
    have ha := ht a (by simp)
    have e1 : sumS (rowsOf (p ++ a :: b :: q)) = sumS (rowsOf p) + (a.2.1 + (b.2.1 + sumS (rowsOf q))) := by
      unfold rowsOf
      rw [List.map_append, sumS_app]
      rfl
    have e2 : sumS (rowsOf (p ++ (b.1, (b.2.1 - a.2.2, b.2.2)) :: a :: q)) = sumS (rowsOf p) + ((b.2.1 - a.2.2) + (a.2.1 + sumS (rowsOf q))) := by
      unfold rowsOf
      rw [List.map_append, sumS_app]
      rfl
    rw [e2] at ih
    rw [e1]
    have e3 : t * ((k + 1 : Nat) : Int) = t * (k : Int) + t := by
      rw [Int.natCast_add, Int.mul_add]
      simp
    rw [e3]
    omega
theorem end_pays {ls : List Lot} (h : Mild ls) {t : Int} (ht : ∀ b ∈ sprR ls, b.2 = t) {E : List Cow} (s : Steps (tag 0 (sprR ls)) E) (n : Nf E) : sumS (sprR ls) - sumS (rowsOf E) = t * passingsG ls := by
  obtain ⟨k, hk⟩ := s.count
  obtain ⟨qs, r, e⟩ := hk.run .nil
  have := pairs_len h.fit h.2.1 r (nfr_of n)
  have e : qs.length = k := by rw [e]; simp
  rw [e] at this
  have h2 := stepsN_sum hk (t := t) (tag_P (P := fun z => z = t) ht)
  rw [rows_tag] at h2
  rw [h2, this]
section
variable {ls A Z : List Lot} {E B : List Cow}
theorem HerdE.pays (h : Mild ls) (e : HerdE ls A Z E B) {t : Int} (ht : ∀ b ∈ sprR ls, b.2 = t) : totL ls - totL A = t * passingsG ls ∧ totL Z - totL A = t * passingsG Z := by
  have p1 := end_pays h ht e.sE e.nE
  rw [tot_spr h.2.1, tot_spr e.posA, e.sprA]
  refine ⟨p1, ?_⟩
  have m := (e.mildZ h).1
  obtain ⟨M, sM, nM⟩ := row_end (sprR_tl m.fit)
  have p2 := end_pays m (t := t) (by rw [e.sprZ]; exact (e.tP (P := fun z => z = t) ht).2) sM nM
  rw [e.sprZ] at sM p2
  have r := (relS (e.tlB h) sM nM (e.sB.back.trans e.sE) e.nE).1
  rw [r] at p2
  rw [tot_spr e.posZ, e.sprZ]
  exact p2
theorem HerdE.many (h : Mild ls) (e : HerdE ls A Z E B) : cntL A = cntL ls ∧ cntL Z = cntL ls := by
  rw [cnt_spr h.2.1, cnt_spr e.posA, cnt_spr e.posZ, e.sprA, e.sprZ, e.lenE, e.lenB]
  exact ⟨rfl, rfl⟩
end
theorem spr_cap {M : Int} : ∀ {ls : List Lot}, (∀ l ∈ ls, 1 ≤ l.2.2 ∧ l.2.2 ≤ M) → ((sprR ls).length : Int) ≤ (ls.length : Int) * M
  | [], _ => by
    show (0 : Int) ≤ 0 * M
    rw [Int.zero_mul]
    exact Int.le_refl _
  | l :: ls, h => by
    have ih := spr_cap (ls := ls) fun x hx => h x (List.mem_cons_of_mem _ hx)
    have hl := h l (List.mem_cons_self ..)
    have e : sprR (l :: ls) = List.replicate l.2.2.toNat (l.1, l.2.1) ++ sprR ls := by
      unfold sprR
      rw [List.flatMap_cons]
    rw [e, List.length_append, List.length_replicate, List.length_cons, Int.natCast_add, Int.natCast_add, Int.add_mul]
    omega
theorem mild_of {ls : List Lot} (hl : ls.length ≤ 50) (h : ∀ l ∈ ls, 0 ≤ l.2.1 ∧ l.2.1 ≤ 1000000000000 ∧ 1 ≤ l.2.2 ∧ l.2.2 ≤ 1000000000000) : Mild ls := by
  refine ⟨by omega, fun l hl => (h l hl).2.2.1, fun b hb => ?_, ?_⟩
  · obtain ⟨l, hl, h2⟩ := List.mem_flatMap.mp hb
    rw [(List.mem_replicate.mp h2).2]
    obtain ⟨h1, h2, _⟩ := h l hl
    exact ⟨h1, by dsimp only; omega⟩
  · have := spr_cap (M := 1000000000000) (ls := ls) fun l hl => ⟨(h l hl).2.2.1, (h l hl).2.2.2⟩
    omega
end HH
set_option maxHeartbeats 4000000
namespace K79
open PySem PySem.Spec PyProof.Rows L2 Evl HH RZ
def topS (i : Nat) : Stmt := PySem.Challenge.pw_hayherd_k79_whole_great_lots.main.body.getD i (.Pass ⟨0, 0, 0, 0⟩)
abbrev s_is_number : Stmt := topS 1
theorem sc_is_number : FnScope ["thing"] ["thing"] (defScope s_is_number) := ⟨rfl, rfl, rfl, by decide +kernel, rfl, by decide +kernel, by decide +kernel⟩
abbrev s_is_lot : Stmt := topS 3
theorem sc_is_lot : FnScope ["thing", "part"] ["thing"] (defScope s_is_lot) := ⟨rfl, rfl, rfl, by decide +kernel, rfl, by decide +kernel, by decide +kernel⟩
abbrev s_is_herd : Stmt := topS 4
theorem sc_is_herd : FnScope ["thing", "at", "part"] ["thing"] (defScope s_is_herd) := ⟨rfl, rfl, rfl, by decide +kernel, rfl, by decide +kernel, by decide +kernel⟩
abbrev s_together : Stmt := topS 5
theorem sc_together : FnScope ["lots", "herd", "strength", "toll", "many", "alike", "before"] ["lots"] (defScope s_together) := ⟨rfl, rfl, rfl, by decide +kernel, rfl, by decide +kernel, by decide +kernel⟩
abbrev s_many_passed : Stmt := topS 6
theorem sc_many_passed : FnScope ["spare", "toll", "many"] ["spare", "toll", "many"] (defScope s_many_passed) := ⟨rfl, rfl, rfl, by decide +kernel, rfl, by decide +kernel, by decide +kernel⟩
abbrev s_pass_lots : Stmt := topS 7
theorem sc_pass_lots : FnScope ["line", "strengths", "herd", "who", "place", "told", "lot", "many", "toll", "some"] ["line", "strengths", "herd", "who"] (defScope s_pass_lots) := ⟨rfl, rfl, rfl, by decide +kernel, rfl, by decide +kernel, by decide +kernel⟩
abbrev s_herd_end : Stmt := topS 8
theorem sc_herd_end : FnScope ["herd", "strengths", "line", "told", "who", "strength", "toll", "many"] ["herd"] (defScope s_herd_end) := ⟨rfl, rfl, rfl, by decide +kernel, rfl, by decide +kernel, by decide +kernel⟩
abbrev s_herd_last : Stmt := topS 9
theorem sc_herd_last : FnScope ["herd", "line", "strengths", "told", "lot", "many"] ["herd"] (defScope s_herd_last) := ⟨rfl, rfl, rfl, by decide +kernel, rfl, by decide +kernel, by decide +kernel⟩
abbrev s_fall_lots : Stmt := topS 10
theorem sc_fall_lots : FnScope ["line", "strengths", "herd", "who", "place", "strength", "toll", "many"] ["line", "strengths", "herd", "who"] (defScope s_fall_lots) := ⟨rfl, rfl, rfl, by decide +kernel, rfl, by decide +kernel, by decide +kernel⟩
abbrev s_herd_first : Stmt := topS 11
theorem sc_herd_first : FnScope ["herd", "strengths", "line", "who", "strength", "toll", "many", "lot"] ["herd"] (defScope s_herd_first) := ⟨rfl, rfl, rfl, by decide +kernel, rfl, by decide +kernel, by decide +kernel⟩
abbrev s_herd_passed : Stmt := topS 12
theorem sc_herd_passed : FnScope ["herd"] ["herd"] (defScope s_herd_passed) := ⟨rfl, rfl, rfl, by decide +kernel, rfl, by decide +kernel, by decide +kernel⟩
abbrev s_herd_passings : Stmt := topS 13
theorem sc_herd_passings : FnScope ["herd", "passed", "strength", "toll", "many"] ["herd"] (defScope s_herd_passings) := ⟨rfl, rfl, rfl, by decide +kernel, rfl, by decide +kernel, by decide +kernel⟩
abbrev s_herd_places : Stmt := topS 14
theorem sc_herd_places : FnScope ["herd", "foremost", "hindmost", "place", "lot", "many"] ["herd"] (defScope s_herd_places) := ⟨rfl, rfl, rfl, by decide +kernel, rfl, by decide +kernel, by decide +kernel⟩
abbrev s_law_dip : Stmt := topS 16
theorem sc_law_dip : FnScope ["_law_script", "_law_k", "_law_cell"] ["_law_script", "_law_k"] (defScope s_law_dip) := ⟨rfl, rfl, rfl, by decide +kernel, rfl, by decide +kernel, by decide +kernel⟩
abbrev s_law_take : Stmt := topS 17
theorem sc_law_take : FnScope ["_law_box", "_law_many", "_law_found", "_law_once", "_law_pair"] ["_law_box", "_law_many"] (defScope s_law_take) := ⟨rfl, rfl, rfl, by decide +kernel, rfl, by decide +kernel, by decide +kernel⟩
abbrev s_law_folded : Stmt := topS 18
theorem sc_law_folded : FnScope ["_law_script", "_law_many", "_law_cells", "_law_k", "_law_cell"] ["_law_script", "_law_many"] (defScope s_law_folded) := ⟨rfl, rfl, rfl, by decide +kernel, rfl, by decide +kernel, by decide +kernel⟩
abbrev s_law_same : Stmt := topS 19
theorem sc_law_same : FnScope ["_law_found", "_law_due", "_law_one", "_law_two"] ["_law_found", "_law_due"] (defScope s_law_same) := ⟨rfl, rfl, rfl, by decide +kernel, rfl, by decide +kernel, by decide +kernel⟩
abbrev s_law_packed : Stmt := topS 20
theorem sc_law_packed : FnScope ["_law_lots", "_law_found", "_law_strength", "_law_toll", "_law_many"] ["_law_lots"] (defScope s_law_packed) := ⟨rfl, rfl, rfl, by decide +kernel, rfl, by decide +kernel, by decide +kernel⟩
abbrev s_law_wide : Stmt := topS 21
theorem sc_law_wide : FnScope ["_law_box", "_law_top"] ["_law_box", "_law_top"] (defScope s_law_wide) := ⟨rfl, rfl, rfl, by decide +kernel, rfl, by decide +kernel, by decide +kernel⟩
abbrev s_law_great : Stmt := topS 22
theorem sc_law_great : FnScope ["_law_box", "_law_found", "_law_turn", "_law_toll", "_law_many", "_law_strength", "_law_other", "_law_pays"] ["_law_box"] (defScope s_law_great) := ⟨rfl, rfl, rfl, by decide +kernel, rfl, by decide +kernel, by decide +kernel⟩
abbrev s_law_total : Stmt := topS 23
theorem sc_law_total : FnScope ["_law_herd", "_law_strength", "_law_toll", "_law_many"] ["_law_herd"] (defScope s_law_total) := ⟨rfl, rfl, rfl, by decide +kernel, rfl, by decide +kernel, by decide +kernel⟩
abbrev s_law_right : Stmt := topS 24
theorem sc_law_right : FnScope ["_law_box", "_law_turn", "_law_herd", "_law_by", "_law_ends", "_law_starts", "_law_often", "_law_other", "_law_its", "_law_count", "_law_strength", "_law_toll", "_law_many", "_law_beasts", "_law_due", "_law_at", "_law_alone", "_law_some", "_law_one", "_law_two", "_law_lot", "_law_own"] ["_law_box"] (defScope s_law_right) := ⟨rfl, rfl, rfl, by decide +kernel, rfl, by decide +kernel, by decide +kernel⟩
abbrev s_law_likes_right : Stmt := topS 25
theorem sc_law_likes_right : FnScope ["_law_herd", "_law_by", "_law_ends", "_law_often", "_law_great_here", "_law_more", "_law_even", "_law_totals", "_law_ahead", "_law_later", "_law_some", "_law_strength", "_law_toll", "_law_many"] ["_law_herd", "_law_by", "_law_ends", "_law_often"] (defScope s_law_likes_right) := ⟨rfl, rfl, rfl, by decide +kernel, rfl, by decide +kernel, by decide +kernel⟩
abbrev s_law : Stmt := topS 26
theorem sc_law : FnScope ["_law_script", "_law_cells", "_law_k"] ["_law_script"] (defScope s_law) := ⟨rfl, rfl, rfl, by decide +kernel, rfl, by decide +kernel, by decide +kernel⟩
end K79
set_option maxHeartbeats 4000000
namespace K79
open PySem PySem.Spec PyProof.Rows L2 Evl HH RZ
section
variable {P : Program} {w : World} {K : PySem.W.Frag} {mg : Str → Option Value} {base : Heap}
theorem ok_many_passed {f : Addr} {fd : FuncData} (F : FnP K "many_passed" s_many_passed f fd) (g : mg "many_passed" = some (.ref f)) (b : Binds K fd ["spare", "toll", "many"] []) (m_min : mg "min" = none) : Has P w K mg base 1 "many_passed" ["spare", "toll", "many"] spManyP f fd := by
  refine ⟨F.ok sc_many_passed (fun vs H Q E h => ?_) (fun cdv A outer s H vs Q E hr h => ?_), g, F.kp, b⟩
  · obtain ⟨a, b, c, rfl, _⟩ := h
    rfl
  · obtain ⟨a, b, c, rfl, h0, h1, q⟩ := h
    refine ⟨_, PSs.nox (pss_cons (ps_if (pt_cmpR op_le (pv 0) pe_int (nomark _)) (pss_one (ps_ret pe_int)) pss_nil)
      (pss_one (ps_ret (pe_ifExp (pt_cmpR op_eq (pv 1) pe_int (nomark _)) (pv 2) (pe_callB (call_min2 rfl) (by rfl) m_min (by decide +kernel) (pa_cons (pv 2) (pa_cons (pe_op op_fdivW (pe_op op_sub (pv 0) pe_int) (pv 1)) pa_nil))))))), ?_⟩
    refine q_when (b := decide (a ≤ 0)) (et_is (et_test (ev_op (ev_var rfl) ev_c rv_I0)) rfl) (fun hd H1 e1 => s_ret ev_c fun H2 e2 => ?_) (fun hd H1 e1 => ?_)
    · have := q H2 (e1.trans e2)
      unfold manyP at this
      rw [if_pos (of_decide_eq_true hd)] at this
      exact this
    · have hd := of_decide_eq_false hd
      refine s_ret (v := .int (manyP a b c)) (ev_if (b := decide (b = 0)) (et_is (et_test (ev_op (ev_var rfl) ev_c (rv_eq rfl))) (by simp)) (fun hz => ?_) fun hz => ?_) fun H2 e2 => q H2 (e1.trans e2)
      · refine ev_is (ev_var rfl) ?_
        unfold manyP
        rw [if_neg hd, if_pos (of_decide_eq_true hz)]
      · have hz := of_decide_eq_false hz
        refine ev_is (ev_cb (z := .int (if (a - 1) / b < c then (a - 1) / b else c)) (ea_cons (ev_var rfl) (ea_cons (ev_op (ev_op (ev_var rfl) ev_c rv_I0) (ev_var rfl) (rv_I (divW_okW (by omega) h1))) ea_nil)) (fun H3 e3 Q k => ⟨_, _, rfl, k H3 (Ex.refl H3)⟩)) ?_
        unfold manyP
        rw [if_neg hd, if_neg hz]
theorem ok_pass_lots {f f1 : Addr} {fd fd1 : FuncData} (F : FnP K "pass_lots" s_pass_lots f fd) (g : mg "pass_lots" = some (.ref f)) (b : Binds K fd ["line", "strengths", "herd", "who"] []) (h_many_passed : Has P w K mg base 1 "many_passed" ["spare", "toll", "many"] spManyP f1 fd1) (m_len : mg "len" = none) : Has P w K mg base 2 "pass_lots" ["line", "strengths", "herd", "who"] (spPassLots K) f fd := by
  refine ⟨F.ok sc_pass_lots (fun vs H Q E h => ?_) (fun cdv A outer s H vs Q E hr h => ?_), g, F.kp, b⟩
  · obtain ⟨l, sa, v, us, line, st, ls, w, rfl, _⟩ := h
    rfl
  · obtain ⟨l, sa, v, us, line, st, ls, w, rfl, hl, bs, hs, ne, hv, ft, hst, hw, bel, len, q⟩ := h
    refine ⟨_, PSs.nox (pss_cons (ps_set (i := 4) sc_pass_lots.nd rfl (.inl rfl) (pe_callB call_len_seq (by rfl) m_len PySem.boot_len (pa_cons (pv 0) pa_nil)))
      (pss_cons (ps_set (i := 5) sc_pass_lots.nd rfl (.inl rfl) pe_int)
      (pss_cons (ps_while PassesOwn.never (pt_cmpR op_gt (pv 4) pe_int (nomark _)) (pss_cons (ps_asg (pe_ix ix_list (pv 0) (pe_op op_sub (pv 4) pe_int) (fun _ _ => rfl)) (pg_tup rfl (pgs_cons (pg_name (i := 6) sc_pass_lots.nd rfl (Or.inl rfl)) (pgs_cons (pg_name (i := 7) sc_pass_lots.nd rfl (Or.inl rfl)) pgs_nil))))
      (pss_cons (ps_set (i := 8) sc_pass_lots.nd rfl (.inl rfl) (pe_ix ix_tup (pe_ix ix_tup (pv 2) (pv 6) (fun _ _ => rfl)) pe_int (fun _ _ => rfl)))
      (pss_cons (ps_set (i := 9) sc_pass_lots.nd rfl (.inl rfl) (pe_call h_many_passed.G (hr.mono (by decide)) (by rfl) h_many_passed.g h_many_passed.kp h_many_passed.b .nil pass0 (pa_cons (pe_op op_sub (pe_ix ix_list (pv 1) (pv 3) (fun _ _ => rfl)) (pe_ix ix_list (pv 1) (pv 6) (fun _ _ => rfl))) (pa_cons (pv 8) (pa_cons (pv 7) pa_nil)))))
      (pss_cons (ps_augS (pv 1) (pv 3) get_listN (pe_op op_mul (pv 9) (pv 8)) ip_sub set_list)
      (pss_cons (ps_aug (i := 5) sc_pass_lots.nd rfl (.inl rfl) (pv 9) ip_add)
      (pss_cons (ps_if (pt_cmpR op_lt (pv 9) (pv 7) (nomark _)) (pss_cons (ps_if (pt_cmpR op_gt (pv 9) pe_int (nomark _)) (pss_cons (ps_asg (pe_tup (pa_cons (pv 6) (pa_cons (pe_op op_sub (pv 7) (pv 9)) pa_nil))) (pg_sub (pv 0) (pe_op op_sub (pv 4) pe_int) set_list))
      (pss_one (ps_expr (pe_bm PySem.F.plainAttrs_list PySem.F.slot_list_insert PySem.F.type_list_insert mt_insert (pv 0) (pa_cons (pv 4) (pa_cons (pe_tup (pa_cons (pv 6) (pa_cons (pv 9) pa_nil))) pa_nil)))))) pss_nil)
      (pss_one ps_break)) pss_nil)
      (pss_one (ps_aug (i := 4) sc_pass_lots.nd rfl (.inl rfl) pe_int ip_sub)))))))))
      (pss_cons (ps_expr (pe_bm PySem.F.plainAttrs_list PySem.F.slot_list_insert PySem.F.type_list_insert mt_insert (pv 0) (pa_cons (pv 4) (pa_cons (pe_tup (pa_cons (pv 3) (pa_cons (pe_ix ix_tup (pe_ix ix_tup (pv 2) (pv 3) (fun _ _ => rfl)) pe_int (fun _ _ => rfl)) pa_nil))) pa_nil))))
      (pss_one (ps_ret (pv 5))))))), ?_⟩
    have lw : w < st.length := by omega
    refine q_asg (ev_len (K := K) (ev_var rfl) (sq_of hl)) fun H1 e1 => ?_
    refine q_asg ev_c fun H2 e2 => ?_
    refine s_at [some (.ref l), some (.ref sa), some v, some (.int (w : Int)), some (.int (us.length : Int)), some (.int 0), none, none, none, none] rfl ?_
    have fin : ∀ (A C : HH.Row) (s t : Int) (y6 y7 y8 y9 : Option V) (us1 : List V) (H1 : Hp), H1 l = some (.lst us1) → BeastsT H1 us1 (A ++ C) → H1 sa = some (.lst ((st.set w s).map V.int)) → ExB2 l sa H H1 → A.length + C.length ≤ 2000 → (A ++ ((w : Int), lM ls w) :: C, s, t) = goL st ls w line.reverse [] (st.getD w 0) 0 → tSeq (tDrop (tBM K "list" (fun x vs H Q => ∃ (l : Addr) (xs : List V) (i : Int) (y : V), x = .ref l ∧ vs = [.int i, y] ∧ H l = some (.lst xs) ∧ xs.length < sizeLine ∧ 0 ≤ i ∧ i < 2 ^ 63 ∧ Q .non (upd H l (.lst (xs.take i.toNat ++ [y] ++ xs.drop i.toNat)))) (tVar 0) (tCons (tVar 4) (tCons (tTup (tCons (tVar 3) (tCons (tOp (rIxT K) (tOp (rIxT K) (tVar 2) (tVar 3)) (tC (.int 2))) tNil))) tNil)))) (tRet (tVar 5)) { nx := fun _ H' => Q .non H', rt := Q } [some (.ref l), some (.ref sa), some v, some (.int (w : Int)), some (.int (A.length : Int)), some (.int t), y6, y7, y8, y9] H1 := fun A C s t y6 y7 y8 y9 us1 H1 g1 b1 gs x1 hlen e => by
      obtain ⟨u1, u2, rfl, bA, bC⟩ := All2.split b1
      have lA := bA.len
      have lC := bC.len
      have hv1 := hv.ex2 x1 hl hs
      refine ⟨.ref l, rfl, .inl ⟨rfl, _, sq_of g1⟩, .int (A.length : Int), rfl, .int (w : Int), rfl, ?_⟩
      refine (ev_lotM (K := K) (ev_var rfl) (ev_var rfl) hv1 hw) H1 (Ex.refl H1) _ fun H2 e2 => ⟨by show 2 ≤ sizeLine; decide, fun T hT => ?_⟩
      have e3 := e2.trans (Ex.new (o := .tup [V.int (w : Int), .int (lM ls w)]) hT)
      have g3 : (upd H2 T (.tup [V.int (w : Int), .int (lM ls w)])) T = some (.tup [V.int (w : Int), .int (lM ls w)]) := upd_same
      generalize upd H2 T (.tup [V.int (w : Int), .int (lM ls w)]) = H3 at e3 g3
      refine ⟨l, u1 ++ u2, (A.length : Int), .ref T, rfl, rfl, e3 _ _ g1, sz_lt (by rw [List.length_append]; omega), by omega, by omega, ?_⟩
      refine ⟨.int t, rfl, ?_⟩
      have q' := q
      rw [← e] at q'
      have ex : (u1 ++ u2).take ((A.length : Nat) : Int).toNat ++ [V.ref T] ++ (u1 ++ u2).drop ((A.length : Nat) : Int).toNat = u1 ++ .ref T :: u2 := by
        rw [Int.toNat_natCast, ← lA, List.take_left, List.drop_left]
        simp
      rw [ex]
      refine q' _ _ ((x1.trans (.of e3)).fst) upd_same ?_ ?_
      · refine BeastsT.exB' (q := l) (All2.app (BeastsT.ex' bA e3) (.cons ⟨T, rfl, g3⟩ (BeastsT.ex' bC e3))) (ExB.refl _ _).upd (e3 _ _ g1)
      · rw [upd_ne (Ne.symm ne)]
        exact e3 _ _ gs
    refine q_while (fun m σ' H' => ∃ (r B : HH.Row) (s t : Int) (y6 y7 y8 y9 : Option V), m = r.length ∧ σ' = [some (.ref l), some (.ref sa), some v, some (.int (w : Int)), some (.int (r.length : Int)), some (.int t), y6, y7, y8, y9] ∧ line = r.reverse ++ B ∧ goL st ls w r B s t = goL st ls w line.reverse [] (st.getD w 0) 0 ∧ H' sa = some (.lst ((st.set w s).map V.int)) ∧ ExB sa H H') line.length ?_ (fun m σ' H' hW => ?_)
    · refine ⟨line.reverse, [], st.getD w 0, 0, none, none, none, none, by rw [List.length_reverse], by rw [List.length_reverse, ← bs.len], by simp, rfl, ?_, .of (e1.trans e2)⟩
      have : st.set w (st.getD w 0) = st := set_self (by rw [List.getElem?_eq_getElem lw, List.getD_eq_getElem?_getD, List.getElem?_eq_getElem lw]; rfl)
      rw [this]
      exact (e1.trans e2) _ _ hs
    · obtain ⟨r, B, s, t, y6, y7, y8, y9, rfl, rfl, hline, hgo, hsa, x1⟩ := hW
      have hl' := x1 _ _ ne hl
      have bs' : BeastsT H' us line := BeastsT.exB' bs x1 hs
      have hv' := hv.exL x1 hs
      have x2 : ExB2 l sa H H' := fun c o n1 n2 h => x1 c o n2 h
      have llen : r.length + B.length ≤ 1000 := by
        rw [hline, List.length_append, List.length_reverse] at len
        exact len
      cases r with
      | nil =>
        refine ⟨false, et_is (et_test (ev_op (ev_var rfl) ev_c rv_I0)) rfl, (fun z => by cases z), fun _ H3 e3 => ?_⟩
        refine fin [] B s t y6 y7 y8 y9 us H3 (e3 _ _ hl') ?_ (e3 _ _ hsa) (x2.trans (.of e3)) (by simp only [List.length_nil] at llen ⊢; omega) hgo
        rw [hline] at bs'
        exact BeastsT.ex' bs' e3
      | cons x r =>
        have hA : ((x :: r).length : Int) = ((r.reverse ++ [x]).length : Int) := by
          simp
        have hlr : ((x :: r).length : Int) - 1 = (r.length : Int) := by
          rw [List.length_cons]
          omega
        have hxl : line[r.length]? = some x := by
          rw [hline, List.reverse_cons, List.append_assoc, List.getElem?_append_right (by rw [List.length_reverse]; omega), List.length_reverse, Nat.sub_self]
          rfl
        obtain ⟨j, hj, hjw⟩ := bel x (List.mem_of_getElem? hxl)
        obtain ⟨u, hu⟩ : ∃ u, us[r.length]? = some u := ⟨_, List.getElem?_eq_getElem (by rw [bs.len]; exact (List.getElem?_eq_some_iff.mp hxl).1)⟩
        obtain ⟨b, hb, p, rfl, hp⟩ := bs'.at' hu
        rw [hxl] at hb
        cases hb
        have hjs : j < st.length := by omega
        have jw : j ≠ w := by omega
        refine ⟨true, et_is (et_test (ev_op (ev_var rfl) ev_c rv_I0)) (decide_eq_true (by rw [List.length_cons]; omega)), fun _ H3 e3 => ?_, fun z => by cases z⟩
        refine ⟨fun σ2 H2 => ∃ m', m' < (x :: r).length ∧ ∃ (r B : HH.Row) (s t : Int) (y6 y7 y8 y9 : Option V), m' = r.length ∧ σ2 = [some (.ref l), some (.ref sa), some v, some (.int (w : Int)), some (.int (r.length : Int)), some (.int t), y6, y7, y8, y9] ∧ line = r.reverse ++ B ∧ goL st ls w r B s t = goL st ls w line.reverse [] (st.getD w 0) 0 ∧ H2 sa = some (.lst ((st.set w s).map V.int)) ∧ ExB sa H H2, fun σ2 H2 h => h, ?_⟩
        refine q_asgT2 (K := K) (p := p) (x := .int x.1) (y := .int x.2) (ev_op (ev_var rfl) (ev_is (ev_op (ev_var rfl) ev_c rv_I0) (by rw [hlr])) (rv_ixL (K := K) (sq_of (e3 _ _ hl')) (atI_nat hu))) (st_of (e3 _ _ hp)) fun H4 e4 => ?_
        refine s_at [some (.ref l), some (.ref sa), some v, some (.int (w : Int)), some (.int ((x :: r).length : Int)), some (.int t), some (.int x.1), some (.int x.2), y8, y9] rfl ?_
        have e34 := e3.trans e4
        refine q_asg (ev_lotT (K := K) (i := j) (ev_var rfl) (ev_var (by rw [← hj]; rfl)) (hv'.ex e34) (by omega)) fun H5 e5 => ?_
        refine s_at [some (.ref l), some (.ref sa), some v, some (.int (w : Int)), some (.int ((x :: r).length : Int)), some (.int t), some (.int x.1), some (.int x.2), some (.int (lT ls j)), y9] rfl ?_
        have e35 := e34.trans e5
        have hsa5 := e35 _ _ hsa
        have sw : atI ((st.set w s).map V.int) (w : Int) = some (.int s) := by
          have := getD_at (st := st.set w s) (i := w) (by rw [List.length_set]; exact lw)
          rw [getD_set lw, if_pos rfl] at this
          exact this
        have sj : atI ((st.set w s).map V.int) (j : Int) = some (.int (st.getD j 0)) := by
          have := getD_at (st := st.set w s) (i := j) (by rw [List.length_set]; exact hjs)
          rw [getD_set lw, if_neg (Ne.symm jw)] at this
          exact this
        have ft' := ft.at' (i := j) (by omega)
        have ej : x.1.toNat = j := by rw [hj]; rfl
        refine q_asg (v := .int (manyP (s - st.getD j 0) (lT ls j) x.2)) (ev_call (ea_cons (ev_op (ev_op (ev_var rfl) (ev_var rfl) (rv_ixL (K := K) (sq_of hsa5) sw)) (ev_op (ev_var rfl) (ev_var rfl) (rv_ixL (K := K) (sq_of hsa5) (by rw [hj]; exact sj))) rv_I0) (ea_cons (ev_var rfl) (ea_cons (ev_var rfl) ea_nil))) fun H6 e6 Q k E => ⟨_, _, _, rfl, ft'.1, ft'.2.1, k⟩) fun H6 e6 => ?_
        refine s_at [some (.ref l), some (.ref sa), some v, some (.int (w : Int)), some (.int ((x :: r).length : Int)), some (.int t), some (.int x.1), some (.int x.2), some (.int (lT ls j)), some (.int (manyP (s - st.getD j 0) (lT ls j) x.2))] rfl ?_
        have e36 := e35.trans e6
        have hsa6 := e36 _ _ hsa
        rw [goL_cons, ej] at hgo
        generalize manyP (s - st.getD j 0) (lT ls j) x.2 = k at hgo ⊢
        have lset : (st.set w s).length = st.length := List.length_set ..
        refine ⟨.ref sa, rfl, .int (w : Int), rfl, sa, _, w, .int s, rfl, rfl, hsa6, getI (set_at (List.getElem?_eq_getElem lw)), ?_⟩
        have ev : Ev (tOp (rI CMul fun i j => .int (i * j)) (tVar 9) (tVar 8)) [some (.ref l), some (.ref sa), some v, some (.int (w : Int)), some (.int ((x :: r).length : Int)), some (.int t), some (.int x.1), some (.int x.2), some (.int (lT ls j)), some (.int k)] H6 (.int (k * lT ls j)) := ev_op (ev_var rfl) (ev_var rfl) (rv_I (.inr ⟨by omega, by omega⟩))
        refine ev H6 (Ex.refl H6) _ fun H7 e7 => ⟨s, k * lT ls j, rfl, rfl, sa, _, (w : Int), w, rfl, rfl, e7 _ _ hsa6, ixN_nat (by rw [List.length_map, List.length_set]; exact lw), ?_⟩
        have e37 := e36.trans e7
        have x7 : ExB sa H (upd H7 sa (.lst (((st.set w s).map V.int).set w (.int (s - k * lT ls j))))) := (x1.trans (.of e37)).upd
        have gs7 : (upd H7 sa (.lst (((st.set w s).map V.int).set w (.int (s - k * lT ls j))))) sa = some (.lst ((st.set w (s - k * lT ls j)).map V.int)) := by
          rw [upd_same, ← List.map_set, List.set_set]
        have gl7 : (upd H7 sa (.lst (((st.set w s).map V.int).set w (.int (s - k * lT ls j))))) l = some (.lst us) := x7 _ _ ne hl
        have b7 : BeastsT (upd H7 sa (.lst (((st.set w s).map V.int).set w (.int (s - k * lT ls j))))) us line := BeastsT.exB' bs x7 hs
        have hv7 := hv.exL x7 hs
        generalize upd H7 sa (.lst (((st.set w s).map V.int).set w (.int (s - k * lT ls j)))) = H8 at x7 gs7 gl7 b7 hv7
        dsimp only
        refine q_aug (f := fun i j => i + j) (b := k) rfl (ev_var rfl) fun H9 e9 => ?_
        refine s_at [some (.ref l), some (.ref sa), some v, some (.int (w : Int)), some (.int ((x :: r).length : Int)), some (.int (t + k)), some (.int x.1), some (.int x.2), some (.int (lT ls j)), some (.int k)] rfl ?_
        have x27 : ExB2 l sa H H9 := fun c o n1 n2 h => e9 _ _ (x7 c o n2 h)
        refine q_if (b := decide (k < x.2)) (et_is (et_test (ev_op (ev_var rfl) (ev_var rfl) rv_I0)) rfl) (fun hd H10 e10 => ?_) (fun hd H10 e10 => ?_)
        · have hd := of_decide_eq_true hd
          rw [if_pos hd] at hgo
          have e8 := e9.trans e10
          have x10 : ExB2 l sa H H10 := x27.trans (.of e10)
          refine q_if (b := decide (k > 0)) (et_is (et_test (ev_op (ev_var rfl) ev_c rv_I0)) rfl) (fun hk H11 e11 => ?_) (fun hk H11 e11 => ?_)
          · have hk := of_decide_eq_true hk
            rw [if_pos hk] at hgo
            have e8' := e8.trans e11
            have b11 := BeastsT.ex' b7 e8'
            rw [hline, List.reverse_cons, List.append_assoc] at b11
            obtain ⟨u1, u2, rfl, bA, bxB⟩ := All2.split b11
            have lA := bA.len
            rw [List.length_reverse] at lA
            cases bxB with
            | cons bx bB =>
            rename_i ux uB
            refine q_setPT (j := r.length) (a := x.1) (b := x.2 - k) (e8' _ _ gl7) (ev_var rfl) (ev_op (ev_var rfl) (ev_var rfl) rv_I0) (ev_var rfl) (ev_is (ev_op (ev_var rfl) ev_c rv_I0) (by rw [hlr])) (by rw [List.length_append, lA]; show r.length < r.length + (uB.length + 1); omega) fun T H12 e12 g12 gT => ?_
            have e712 := e8'.trans e12
            have es : (u1 ++ ux :: uB).set r.length (.ref T) = u1 ++ .ref T :: uB := by
              rw [← lA, List.set_append_right _ _ (Nat.le_refl _), Nat.sub_self]
              rfl
            rw [es]
            have nTl : T ≠ l := fun z => by
              rw [z, g12] at gT
              cases gT
            have x12 : ExB2 l sa H (upd H12 l (.lst (u1 ++ .ref T :: uB))) := ((x10.trans (.of (e11.trans e12)))).fst
            have gs12 : (upd H12 l (.lst (u1 ++ .ref T :: uB))) sa = some (.lst ((st.set w (s - k * lT ls j)).map V.int)) := by
              rw [upd_ne (Ne.symm ne)]
              exact e712 _ _ gs7
            have gl12 : (upd H12 l (.lst (u1 ++ .ref T :: uB))) l = some (.lst (u1 ++ .ref T :: uB)) := upd_same
            have gT12 : (upd H12 l (.lst (u1 ++ .ref T :: uB))) T = some (.tup [.int x.1, .int (x.2 - k)]) := by
              rw [upd_ne nTl]
              exact gT
            have xl : ExB l H12 (upd H12 l (.lst (u1 ++ .ref T :: uB))) := (ExB.refl _ _).upd
            have bA12 : BeastsT (upd H12 l (.lst (u1 ++ .ref T :: uB))) u1 r.reverse := BeastsT.exB' (BeastsT.ex' bA e12) xl g12
            have bB12 : BeastsT (upd H12 l (.lst (u1 ++ .ref T :: uB))) uB B := BeastsT.exB' (BeastsT.ex' bB e12) xl g12
            have lB : uB.length = B.length := bB.len
            generalize upd H12 l (.lst (u1 ++ .ref T :: uB)) = H13 at x12 gs12 gl12 gT12 bA12 bB12
            refine s_insPT (K := K) (j := r.length + 1) (a := x.1) (b := k) gl12 (ev_var rfl) (ev_var rfl) (ev_var rfl) (ev_var (by rw [List.length_cons]; rfl)) (by rw [List.length_append, List.length_cons, lA, lB]; rw [List.length_cons] at llen; omega) (by rw [List.length_cons] at llen; omega) fun T2 H14 e14 g14 gT2 => ?_
            have ei : (u1 ++ V.ref T :: uB).take (r.length + 1) ++ .ref T2 :: (u1 ++ V.ref T :: uB).drop (r.length + 1) = u1 ++ .ref T :: .ref T2 :: uB := by
              have e1 : u1 ++ V.ref T :: uB = (u1 ++ [V.ref T]) ++ uB := by simp
              have e2 : (u1 ++ [V.ref T]).length = r.length + 1 := by rw [List.length_append, lA]; rfl
              rw [e1, ← e2, List.take_left, List.drop_left]
              simp
            rw [ei]
            have nT2 : T2 ≠ l := fun z => by
              rw [z, g14] at gT2
              cases gT2
            have xl2 : ExB l H14 (upd H14 l (.lst (u1 ++ .ref T :: .ref T2 :: uB))) := (ExB.refl _ _).upd
            rw [hA]
            have hA2 : (r.reverse ++ [x]).length = (r.reverse ++ [(x.1, x.2 - k)]).length := by simp
            rw [hA2]
            refine fin (r.reverse ++ [(x.1, x.2 - k)]) ((x.1, k) :: B) (s - k * lT ls j) (t + k) _ _ _ _ (u1 ++ .ref T :: .ref T2 :: uB) _ upd_same ?_ ?_ ((x12.trans (.of e14)).fst) ?_ ?_
            · have h1 := BeastsT.exB' (BeastsT.ex' bA12 e14) xl2 g14
              have h2 := BeastsT.exB' (BeastsT.ex' bB12 e14) xl2 g14
              rw [List.append_assoc]
              exact All2.app h1 (.cons ⟨T, rfl, xl2 _ _ nTl (e14 _ _ gT12)⟩ (.cons ⟨T2, rfl, xl2 _ _ nT2 gT2⟩ h2))
            · rw [upd_ne (Ne.symm ne)]
              exact e14 _ _ gs12
            · simp only [List.length_append, List.length_reverse, List.length_cons, List.length_nil] at llen ⊢
              omega
            · rw [← hgo]
              simp
          · have hk := of_decide_eq_false hk
            rw [if_neg hk] at hgo
            have e8' := e8.trans e11
            rw [hA]
            refine fin (r.reverse ++ [x]) B (s - k * lT ls j) (t + k) _ _ _ _ us H11 (e8' _ _ gl7) ?_ (e8' _ _ gs7) (x10.trans (.of e11)) ?_ ?_
            · have := BeastsT.ex' b7 e8'
              rw [hline, List.reverse_cons] at this
              exact this
            · simp only [List.length_append, List.length_reverse, List.length_cons, List.length_nil] at llen ⊢
              omega
            · rw [← hgo]
              simp
        · have hd := of_decide_eq_false hd
          rw [if_neg hd] at hgo
          refine s_aug (f := fun i j => i - j) (b := 1) rfl ev_c fun H11 e11 => ?_
          refine ⟨r.length, by rw [List.length_cons]; omega, r, x :: B, s - k * lT ls j, t + k, _, _, _, _, rfl, by rw [← hlr]; rfl, by rw [hline, List.reverse_cons, List.append_assoc]; rfl, hgo, (e9.trans (e10.trans e11)) _ _ gs7, x7.trans (.of (e9.trans (e10.trans e11)))⟩
theorem ok_herd_end {f f1 : Addr} {fd fd1 : FuncData} (F : FnP K "herd_end" s_herd_end f fd) (g : mg "herd_end" = some (.ref f)) (b : Binds K fd ["herd"] []) (h_pass_lots : Has P w K mg base 2 "pass_lots" ["line", "strengths", "herd", "who"] (spPassLots K) f1 fd1) (m_len : mg "len" = none) (m_range : mg "range" = none) : Has P w K mg base 3 "herd_end" ["herd"] (spHerdEnd K) f fd := by
  refine ⟨F.ok sc_herd_end (fun vs H Q E h => ?_) (fun cdv A outer s H vs Q E hr h => ?_), g, F.kp, b⟩
  · obtain ⟨v, ls, rfl, _⟩ := h
    rfl
  · obtain ⟨v, ls, rfl, hv, ft, q⟩ := h
    refine ⟨_, PSs.nox (pss_cons (ps_setLc (i := 1) (own := [("strength", 5), ("toll", 6), ("many", 7)]) (g := gTup K 3 (gCons (gName 5) (gCons (gName 6) (gCons (gName 7) gNil)))) (by rfl) sc_herd_end.nd rfl rfl (sw_true rfl rfl rfl (by decide +kernel)) (pi_tup (pv 0)) (blkOk_by (own := [("strength", 5), ("toll", 6), ("many", 7)]) (N := ["herd", "strengths", "line", "told", "who", "strength", "toll", "many"]) (sc := defScope s_herd_end) (by decide +kernel)) (fun _ _ _ _ _ => (pg_tup rfl (pgs_cons (pg_name (i := 5) sc_herd_end.nd rfl (Or.inl rfl)) (pgs_cons (pg_name (i := 6) sc_herd_end.nd rfl (Or.inl rfl)) (pgs_cons (pg_name (i := 7) sc_herd_end.nd rfl (Or.inl rfl)) pgs_nil))))) (fun _ _ _ _ _ => pts_nil) (fun _ _ _ _ _ => (pv 5)))
      (pss_cons (ps_set (i := 2) sc_herd_end.nd rfl (.inl rfl) (pe_lst pa_nil))
      (pss_cons (ps_set (i := 3) sc_herd_end.nd rfl (.inl rfl) (pe_lst pa_nil))
      (pss_cons (ps_for PassesOwn.never rfl (pi_range1 (by rfl) m_range (pa_cons (pe_callB call_len_seq (by rfl) m_len PySem.boot_len (pa_cons (pv 0) pa_nil)) pa_nil)) (pg_name (i := 4) sc_herd_end.nd rfl (Or.inl rfl))
        (pss_one (ps_expr (pe_bm PySem.F.plainAttrs_list PySem.F.slot_list_append PySem.F.type_list_append mt_append (pv 3) (pa_cons (pe_call h_pass_lots.G (hr.mono (by decide)) (by rfl) h_pass_lots.g h_pass_lots.kp h_pass_lots.b .nil pass0 (pa_cons (pv 2) (pa_cons (pv 1) (pa_cons (pv 0) (pa_cons (pv 4) pa_nil))))) pa_nil)))))
      (pss_one (ps_ret (pe_tup (pa_cons (pv 2) (pa_cons (pv 1) (pa_cons (pv 3) pa_nil)))))))))), ?_⟩
    have hn := ft.1
    refine q_asgL (el_mapH (K := K) (fun l => .int l.1) (ev_var rfl) hv (by omega) (fun x y z => rfl) (fun l H1 e1 hl => ev_var rfl)) fun sa H1 hsa e1 g1 => ?_
    refine q_asgL (el_lst ea_nil (by show 0 ≤ 100000; decide)) fun l H2 hl2 e2 g2 => ?_
    refine q_asgL (el_lst ea_nil (by show 0 ≤ 100000; decide)) fun ta H3 hta3 e3 g3 => ?_
    refine s_at [some v, some (.ref sa), some (.ref l), some (.ref ta), none, none, none, none] rfl ?_
    have nsl : l ≠ sa := fun z => by
      rw [z, g1] at hl2
      cases hl2
    have nst : ta ≠ sa := fun z => by
      rw [z, e2 _ _ g1] at hta3
      cases hta3
    have nlt : ta ≠ l := fun z => by
      rw [z, g2] at hta3
      cases hta3
    have hl := fresh_back e1 hl2
    have hta := fresh_back (e1.trans e2) hta3
    have e123 := e1.trans (e2.trans e3)
    refine q_forR1 (n := (ls.length : Int)) (ea_cons (ev_lenH (ev_var rfl) (hv.ex e123)) ea_nil) ⟨by omega, by omega⟩ (fun k σ' H' => ∃ (us : List V) (y4 : Option V), σ' = [some v, some (.ref sa), some (.ref l), some (.ref ta), y4, none, none, none] ∧ Ex H H' ∧ H' l = some (.lst us) ∧ BeastsT H' us (endG ls k).1 ∧ H' sa = some (.lst ((endG ls k).2.1.map V.int)) ∧ H' ta = some (.lst ((endG ls k).2.2.map V.int))) (fun H4 e4 => ⟨[], none, rfl, e123.trans e4, e4 _ _ (e3 _ _ g2), .nil, ?_, e4 _ _ g3⟩) (fun k σ' H4 hk hW => ?_) (fun σ' H4 hW => ?_)
    · have := (e2.trans (e3.trans e4)) _ _ g1
      show H4 sa = some (.lst ((ls.map (·.1)).map V.int))
      rw [List.map_map]
      exact this
    · obtain ⟨us, y4, rfl, e04, gl, bs, gs, gt⟩ := hW
      obtain ⟨f1, f2, f3, f4⟩ := endG_facts ls k
      have hk : k < ls.length := by omega
      refine ⟨.ref ta, rfl, .inl ⟨rfl, _, sq_of gt⟩, .ref l, rfl, .ref sa, rfl, v, rfl, .int (k : Int), rfl, l, sa, v, us, _, _, ls, k, rfl, gl, bs, gs, nsl, hv.ex e04, ft, f3, hk, f1, by omega, fun us' H5 x5 gl5 b5 gs5 => ?_⟩
      have gt5 := x5 _ _ nlt nst gt
      refine ⟨ta, _, _, rfl, rfl, gt5, sz_lt (by rw [List.length_map, f4]; omega), us', _, rfl, ?_, ?_, ?_, ?_, ?_⟩
      · exact Ex.mut (ex_ex2 e04 x5 hl hsa) hta
      · rw [upd_ne (Ne.symm nlt)]
        exact gl5
      · exact BeastsT.exB' b5 (ExB.refl _ _).upd gt5
      · rw [upd_ne (Ne.symm nst)]
        exact gs5
      · rw [upd_same]
        show _ = some (HO.lst (((endG ls k).2.2 ++ [_]).map V.int))
        rw [List.map_append]
        rfl
    · obtain ⟨us, y4, rfl, e04, gl, bs, gs, gt⟩ := hW
      rw [Int.toNat_natCast] at bs gs gt
      refine s_retU (eu_tup (ea_cons (ev_var rfl) (ea_cons (ev_var rfl) (ea_cons (ev_var rfl) ea_nil))) (by show 3 ≤ 100000; decide)) fun p H5 hp e5 g5 => ?_
      exact q p l sa ta us H5 (e04.trans e5) hl hsa hta (st_of g5) (e5 _ _ gl) (BeastsT.ex' bs e5) (e5 _ _ gs) (e5 _ _ gt)
theorem ok_herd_last {f f1 f2 : Addr} {fd fd1 fd2 : FuncData} (F : FnP K "herd_last" s_herd_last f fd) (g : mg "herd_last" = some (.ref f)) (b : Binds K fd ["herd"] []) (h_herd_end : Has P w K mg base 3 "herd_end" ["herd"] (spHerdEnd K) f1 fd1) (h_together : Has P w K mg base 1 "together" ["lots"] (spTogether K) f2 fd2) : Has P w K mg base 4 "herd_last" ["herd"] (spHerd1 K lastLots) f fd := by
  refine ⟨F.ok sc_herd_last (fun vs H Q E h => ?_) (fun cdv A outer s H vs Q E hr h => ?_), g, F.kp, b⟩
  · obtain ⟨v, ls, rfl, _⟩ := h
    rfl
  · obtain ⟨v, ls, rfl, hv, ft, q⟩ := h
    refine ⟨_, PSs.nox (pss_cons (ps_asg (pe_call h_herd_end.G (hr.mono (by decide)) (by rfl) h_herd_end.g h_herd_end.kp h_herd_end.b .nil pass0 (pa_cons (pv 0) pa_nil)) (pg_tup rfl (pgs_cons (pg_name (i := 1) sc_herd_last.nd rfl (Or.inl rfl)) (pgs_cons (pg_name (i := 2) sc_herd_last.nd rfl (Or.inr rfl)) (pgs_cons (pg_name (i := 3) sc_herd_last.nd rfl (Or.inl rfl)) pgs_nil)))))
      (pss_one (ps_ret (pe_call h_together.G (hr.mono (by decide)) (by rfl) h_together.g h_together.kp h_together.b .nil pass0 (pa_cons (pe_lc (own := [("lot", 4), ("many", 5)]) (g := gTup K 2 (gCons (gName 4) (gCons (gName 5) gNil))) (by rfl) sc_herd_last.nd (pi_list (pv 1)) (blkOk_by (own := [("lot", 4), ("many", 5)]) (N := ["herd", "line", "strengths", "told", "lot", "many"]) (sc := defScope s_herd_last) (by decide +kernel)) (fun _ _ _ _ _ => (pg_tup rfl (pgs_cons (pg_name (i := 4) sc_herd_last.nd rfl (Or.inl rfl)) (pgs_cons (pg_name (i := 5) sc_herd_last.nd rfl (Or.inl rfl)) pgs_nil)))) (fun _ _ _ _ _ => pts_nil) (fun _ _ _ _ _ => (pe_tup (pa_cons (pe_ix (ix_listK (K := K)) (pv 2) (pv 4) (fun _ _ => rfl)) (pa_cons (pe_ix (ix_tupK (K := K)) (pe_ix (ix_tupK (K := K)) (pv 0) (pv 4) (fun _ _ => rfl)) pe_int (fun _ _ => rfl)) (pa_cons (pv 5) pa_nil)))))) pa_nil))))), ?_⟩
    obtain ⟨f1, f2, f3, f4⟩ := endG_facts ls ls.length
    have hn := ft.1
    refine ⟨v, rfl, v, ls, rfl, hv, ft, fun p l sa ta us H1 e1 hl hsa hta sp gl bs gs gt => ?_⟩
    refine ⟨p, _, rfl, sp, rfl, _, _, rfl, _, _, rfl, _, _, rfl, rfl, ?_⟩
    dsimp only
    refine s_at [some v, some (.ref l), some (.ref sa), some (.ref ta), none, none] rfl ?_
    have hv1 := hv.ex e1
    refine ret_run (call1_run ?_)
    refine (lt_map (K := K) (σ := [some v, some (.ref l), some (.ref sa), some (.ref ta), none, none]) (i := 4) (j := 5) (vs := [4, 5]) (fun x => ((endG ls ls.length).2.1.getD x.1.toNat 0, lT ls x.1.toNat, x.2)) (ev_var rfl) gl bs (by omega) (fun x y => rfl) (fun x H2 e2 hx => ?_) (fun x H2 e2 hx => ?_) (fun x H2 e2 hx => ev_var rfl)) H1 (Ex.refl H1) _ fun c ws H2 hc e2 g2 la => ⟨c, ws, lastLots ls, rfl, sq_of g2, la, by unfold lastLots; rw [List.length_map]; omega, fun z H3 e3 hz => q z H3 (e1.trans (e2.trans e3)) hz⟩
    · obtain ⟨j, hj, hjn⟩ := f1 x hx
      rw [hj]
      exact ev_op (ev_var rfl) (ev_var rfl) (rv_ixL (K := K) (sq_of (e2 _ _ gs)) (getD_at (by omega)))
    · obtain ⟨j, hj, hjn⟩ := f1 x hx
      rw [hj]
      exact ev_lotT (K := K) (ev_var rfl) (ev_var rfl) (hv1.ex e2) hjn
theorem ok_fall_lots {f : Addr} {fd : FuncData} (F : FnP K "fall_lots" s_fall_lots f fd) (g : mg "fall_lots" = some (.ref f)) (b : Binds K fd ["line", "strengths", "herd", "who"] []) (m_len : mg "len" = none) : Has P w K mg base 1 "fall_lots" ["line", "strengths", "herd", "who"] (spFallLots K) f fd := by
  refine ⟨F.ok sc_fall_lots (fun vs H Q E h => ?_) (fun cdv A outer s H vs Q E hr h => ?_), g, F.kp, b⟩
  · obtain ⟨l, sa, v, line, st, ls, w, rfl, _⟩ := h
    rfl
  · obtain ⟨l, sa, v, line, st, ls, w, rfl, hl, hs, ne, hv, ft, hst, hw, bel, len, q⟩ := h
    refine ⟨_, PSs.nox (pss_cons (ps_set (i := 4) sc_fall_lots.nd rfl (.inl rfl) pe_int)
      (pss_cons (ps_while PassesOwn.never (PW.pt (pw_and (pt_cmpR op_lt (pv 4) (pe_callB call_len_seq (by rfl) m_len PySem.boot_len (pa_cons (pv 0) pa_nil)) (nomark _)) (pw_and1 (pt_cmpR op_gt (pe_ix ix_list (pv 1) (pv 3) (fun _ _ => rfl)) (pe_ix ix_list (pv 1) (pe_ix ix_list (pv 0) (pv 4) (fun _ _ => rfl)) (fun _ _ => rfl)) (nomark _))))) (pss_cons (ps_asg (pe_ix ix_tup (pv 2) (pe_ix ix_list (pv 0) (pv 4) (fun _ _ => rfl)) (fun _ _ => rfl)) (pg_tup rfl (pgs_cons (pg_name (i := 5) sc_fall_lots.nd rfl (Or.inl rfl)) (pgs_cons (pg_name (i := 6) sc_fall_lots.nd rfl (Or.inl rfl)) (pgs_cons (pg_name (i := 7) sc_fall_lots.nd rfl (Or.inl rfl)) pgs_nil)))))
      (pss_cons (ps_augS (pv 1) (pv 3) get_listN (pe_op op_mul (pv 7) (pv 6)) ip_add set_list)
      (pss_one (ps_aug (i := 4) sc_fall_lots.nd rfl (.inl rfl) pe_int ip_add)))))
      (pss_one (ps_expr (pe_bm PySem.F.plainAttrs_list PySem.F.slot_list_insert PySem.F.type_list_insert mt_insert (pv 0) (pa_cons (pv 4) (pa_cons (pv 3) pa_nil))))))), ?_⟩
    have lw : w < st.length := by omega
    refine q_asg ev_c fun H1 e1 => ?_
    refine s_at [some (.ref l), some (.ref sa), some v, some (.int (w : Int)), some (.int 0), none, none, none] rfl ?_
    refine q_while (fun m σ' H' => ∃ (A R : List Nat) (s : Int) (y5 y6 y7 : Option V), m = R.length ∧ σ' = [some (.ref l), some (.ref sa), some v, some (.int (w : Int)), some (.int (A.length : Int)), y5, y6, y7] ∧ line = A ++ R ∧ goF st ls w A R s = goF st ls w [] line (st.getD w 0) ∧ H' sa = some (.lst ((st.set w s).map V.int)) ∧ ExB sa H H') line.length ?_ (fun m σ' H' hW => ?_)
    · refine ⟨[], line, st.getD w 0, none, none, none, rfl, rfl, rfl, rfl, ?_, .of e1⟩
      have : st.set w (st.getD w 0) = st := set_self (by rw [List.getElem?_eq_getElem lw, List.getD_eq_getElem?_getD, List.getElem?_eq_getElem lw]; rfl)
      rw [this]
      exact e1 _ _ hs
    · obtain ⟨A, R, s, y5, y6, y7, rfl, rfl, hline, hgo, hsa, x1⟩ := hW
      have hl' := x1 _ _ ne hl
      have hv' := hv.exL x1 hs
      have llen : A.length + R.length ≤ 1000 := by
        rw [hline, List.length_append] at len
        exact len
      have sw : atI ((st.set w s).map V.int) (w : Int) = some (.int s) := by
        have := getD_at (st := st.set w s) (i := w) (by rw [List.length_set]; exact lw)
        rw [getD_set lw, if_pos rfl] at this
        exact this
      have fin : (goF st ls w A R s = (A ++ w :: R, s)) → ∀ H2, Ex H' H2 → tDrop (tBM K "list" rIns (tVar 0) (tCons (tVar 4) (tCons (tVar 3) tNil))) { nx := fun _ H' => Q .non H', rt := Q } [some (.ref l), some (.ref sa), some v, some (.int (w : Int)), some (.int (A.length : Int)), y5, y6, y7] H2 := fun e H2 e2 => by
        refine ⟨.ref l, rfl, .inl ⟨rfl, _, sq_of (e2 _ _ hl')⟩, .int (A.length : Int), rfl, .int (w : Int), rfl, l, _, (A.length : Int), .int (w : Int), rfl, rfl, e2 _ _ hl', sz_lt (by rw [natsV_len]; omega), by omega, by omega, ?_⟩
        rw [e] at hgo
        have q' := q
        rw [← hgo] at q'
        have ex : (natsV line).take ((A.length : Nat) : Int).toNat ++ [V.int (w : Int)] ++ (natsV line).drop ((A.length : Nat) : Int).toNat = natsV (A ++ w :: R) := by
          rw [Int.toNat_natCast, hline]
          unfold natsV
          rw [List.map_append, List.map_append, show A.length = (A.map fun (x : Nat) => V.int (x : Int)).length by rw [List.length_map], List.take_left, List.drop_left]
          simp
        rw [ex]
        refine q' _ (ExB2.fst fun c o n1 n2 h => e2 _ _ (x1 c o n2 h)) upd_same ?_
        rw [upd_ne (Ne.symm ne)]
        exact e2 _ _ hsa
      cases R with
      | nil =>
        refine ⟨false, et_and (a := false) (b := false) (et_is (et_test (ev_op (ev_var rfl) (ev_len (K := K) (ev_var rfl) (sq_of hl')) rv_I0)) ?_) (fun z => by cases z), (fun z => by cases z), fun _ H2 e2 => fin (by rw [goF]) H2 e2⟩
        rw [natsV_len, hline, List.append_nil]
        exact decide_eq_false (by omega)
      | cons x R =>
        have hxl : line[A.length]? = some x := by
          rw [hline, List.getElem?_append_right (Nat.le_refl _), Nat.sub_self]
          rfl
        obtain ⟨hx1, hx2⟩ := bel x (List.mem_of_getElem? hxl)
        have gx : atI (natsV line) (A.length : Int) = some (.int (x : Int)) := atI_nat (natsV_at hxl)
        have sx : atI ((st.set w s).map V.int) (x : Int) = some (.int (st.getD x 0)) := by
          have := getD_at (st := st.set w s) (i := x) (by rw [List.length_set]; omega)
          rw [getD_set lw, if_neg (by omega)] at this
          exact this
        have eA : Ev (tOp (rIxL K) (tVar 0) (tVar 4)) [some (.ref l), some (.ref sa), some v, some (.int (w : Int)), some (.int (A.length : Int)), y5, y6, y7] H' (.int (x : Int)) := ev_op (ev_var rfl) (ev_var rfl) (rv_ixL (K := K) (sq_of hl') gx)
        refine ⟨decide (s > st.getD x 0), et_is (et_and (a := true) (b := decide (s > st.getD x 0)) (et_is (et_test (ev_op (ev_var rfl) (ev_len (K := K) (ev_var rfl) (sq_of hl')) rv_I0)) ?_) (fun _ => et_test (ev_op (ev_op (ev_var rfl) (ev_var rfl) (rv_ixL (K := K) (sq_of hsa) sw)) (ev_op (ev_var rfl) eA (rv_ixL (K := K) (sq_of hsa) sx)) rv_I0))) (Bool.true_and _), fun hd H2 e2 => ?_, fun hd H2 e2 => fin (by rw [goF, if_neg (of_decide_eq_false hd)]) H2 e2⟩
        · rw [natsV_len, hline, List.length_append, List.length_cons]
          exact decide_eq_true (by omega)
        have hd := of_decide_eq_true hd
        refine ⟨fun σ2 H2 => ∃ m', m' < (x :: R).length ∧ ∃ (A R : List Nat) (s : Int) (y5 y6 y7 : Option V), m' = R.length ∧ σ2 = [some (.ref l), some (.ref sa), some v, some (.int (w : Int)), some (.int (A.length : Int)), y5, y6, y7] ∧ line = A ++ R ∧ goF st ls w A R s = goF st ls w [] line (st.getD w 0) ∧ H2 sa = some (.lst ((st.set w s).map V.int)) ∧ ExB sa H H2, fun σ2 H2 h => h, ?_⟩
        obtain ⟨a, us, p, rfl, h1, h2, h3⟩ := herd_at (hv'.ex e2) hx2
        refine (ev_op (ev_var (i := 2) rfl) (Ev.mono e2 eA) (rv_ixT (K := K) h1 (atI_nat h2))) H2 (Ex.refl H2) _ fun H3 e3 => ⟨p, _, rfl, ex_t e3 h3, rfl, _, _, rfl, _, _, rfl, _, _, rfl, rfl, ?_⟩
        dsimp only
        refine s_at [some (.ref l), some (.ref sa), some (.ref a), some (.int (w : Int)), some (.int (A.length : Int)), some (.int (lS ls x)), some (.int (lT ls x)), some (.int (lM ls x))] rfl ?_
        have e23 := e2.trans e3
        have ft' := ft.at' hx2
        refine ⟨.ref sa, rfl, .int (w : Int), rfl, sa, _, w, .int s, rfl, rfl, e23 _ _ hsa, getI (set_at (List.getElem?_eq_getElem lw)), ?_⟩
        have ev : Ev (tOp (rI CMul fun i j => .int (i * j)) (tVar 7) (tVar 6)) [some (.ref l), some (.ref sa), some (.ref a), some (.int (w : Int)), some (.int (A.length : Int)), some (.int (lS ls x)), some (.int (lT ls x)), some (.int (lM ls x))] H3 (.int (lM ls x * lT ls x)) := ev_op (ev_var rfl) (ev_var rfl) (rv_I (.inr ⟨by omega, by omega⟩))
        refine ev H3 (Ex.refl H3) _ fun H4 e4 => ⟨s, lM ls x * lT ls x, rfl, rfl, sa, _, (w : Int), w, rfl, rfl, (e23.trans e4) _ _ hsa, ixN_nat (by rw [List.length_map, List.length_set]; exact lw), ?_⟩
        have x5 : ExB sa H (upd H4 sa (.lst (((st.set w s).map V.int).set w (.int (s + lM ls x * lT ls x))))) := (x1.trans (.of (e23.trans e4))).upd
        have g5 : (upd H4 sa (.lst (((st.set w s).map V.int).set w (.int (s + lM ls x * lT ls x))))) sa = some (.lst ((st.set w (s + lM ls x * lT ls x)).map V.int)) := by
          rw [upd_same, ← List.map_set, List.set_set]
        generalize upd H4 sa (.lst (((st.set w s).map V.int).set w (.int (s + lM ls x * lT ls x)))) = H5 at x5 g5
        dsimp only
        refine s_aug (f := fun i j => i + j) (b := 1) rfl ev_c fun H6 e6 => ?_
        refine ⟨R.length, by rw [List.length_cons]; omega, A ++ [x], R, s + lM ls x * lT ls x, some (.int (lS ls x)), some (.int (lT ls x)), some (.int (lM ls x)), rfl, ?_, by rw [hline, List.append_assoc]; rfl, ?_, e6 _ _ g5, x5.trans (.of e6)⟩
        · rw [List.length_append]
          rfl
        · rw [← hgo, goF, if_pos hd]
theorem ok_herd_first {f f1 f2 : Addr} {fd fd1 fd2 : FuncData} (F : FnP K "herd_first" s_herd_first f fd) (g : mg "herd_first" = some (.ref f)) (b : Binds K fd ["herd"] []) (h_fall_lots : Has P w K mg base 1 "fall_lots" ["line", "strengths", "herd", "who"] (spFallLots K) f1 fd1) (h_together : Has P w K mg base 1 "together" ["lots"] (spTogether K) f2 fd2) (m_len : mg "len" = none) (m_range : mg "range" = none) (m_reversed : mg "reversed" = none) : Has P w K mg base 2 "herd_first" ["herd"] (spHerd1 K firstLots) f fd := by
  refine ⟨F.ok sc_herd_first (fun vs H Q E h => ?_) (fun cdv A outer s H vs Q E hr h => ?_), g, F.kp, b⟩
  · obtain ⟨v, ls, rfl, _⟩ := h
    rfl
  · obtain ⟨v, ls, rfl, hv, ft, q⟩ := h
    refine ⟨_, PSs.nox (pss_cons (ps_set (i := 1) sc_herd_first.nd rfl (.inr rfl) (pe_lc (own := [("strength", 4), ("toll", 5), ("many", 6)]) (g := gTup K 3 (gCons (gName 4) (gCons (gName 5) (gCons (gName 6) gNil)))) (by rfl) sc_herd_first.nd (pi_tup (pv 0)) (blkOk_by (own := [("strength", 4), ("toll", 5), ("many", 6)]) (N := ["herd", "strengths", "line", "who", "strength", "toll", "many", "lot"]) (sc := defScope s_herd_first) (by decide +kernel)) (fun _ _ _ _ _ => (pg_tup rfl (pgs_cons (pg_name (i := 4) sc_herd_first.nd rfl (Or.inl rfl)) (pgs_cons (pg_name (i := 5) sc_herd_first.nd rfl (Or.inl rfl)) (pgs_cons (pg_name (i := 6) sc_herd_first.nd rfl (Or.inl rfl)) pgs_nil))))) (fun _ _ _ _ _ => pts_nil) (fun _ _ _ _ _ => (pv 4))))
      (pss_cons (ps_set (i := 2) sc_herd_first.nd rfl (.inl rfl) (pe_lst pa_nil))
      (pss_cons (ps_for PassesOwn.never rfl (pi_revR (by rfl) m_reversed (prg_1 (by rfl) m_range (pe_callB call_len_seq (by rfl) m_len PySem.boot_len (pa_cons (pv 0) pa_nil)))) (pg_name (i := 3) sc_herd_first.nd rfl (Or.inl rfl))
        (pss_one (ps_expr (pe_call h_fall_lots.G (hr.mono (by decide)) (by rfl) h_fall_lots.g h_fall_lots.kp h_fall_lots.b .nil pass0 (pa_cons (pv 2) (pa_cons (pv 1) (pa_cons (pv 0) (pa_cons (pv 3) pa_nil))))))))
      (pss_one (ps_ret (pe_call h_together.G (hr.mono (by decide)) (by rfl) h_together.g h_together.kp h_together.b .nil pass0 (pa_cons (pe_lc (own := [("lot", 7)]) (g := gName 7) (by rfl) sc_herd_first.nd (pi_list (pv 2)) (blkOk_by (own := [("lot", 7)]) (N := ["herd", "strengths", "line", "who", "strength", "toll", "many", "lot"]) (sc := defScope s_herd_first) (by decide +kernel)) (fun _ _ _ _ _ => (pg_name (i := 7) sc_herd_first.nd rfl (Or.inl rfl))) (fun _ _ _ _ _ => pts_nil) (fun _ _ _ _ _ => (pe_tup (pa_cons (pe_ix (ix_listK (K := K)) (pv 1) (pv 7) (fun _ _ => rfl)) (pa_cons (pe_ix (ix_tupK (K := K)) (pe_ix (ix_tupK (K := K)) (pv 0) (pv 7) (fun _ _ => rfl)) pe_int (fun _ _ => rfl)) (pa_cons (pe_ix (ix_tupK (K := K)) (pe_ix (ix_tupK (K := K)) (pv 0) (pv 7) (fun _ _ => rfl)) pe_int (fun _ _ => rfl)) pa_nil)))))) pa_nil))))))), ?_⟩
    have hn := ft.1
    refine q_asgL (el_mapH (K := K) (fun l => .int l.1) (ev_var rfl) hv (by omega) (fun x y z => rfl) (fun l H1 e1 hl => ev_var rfl)) fun sa H1 hsa e1 g1 => ?_
    refine q_asgL (el_lst ea_nil (by show 0 ≤ 100000; decide)) fun l H2 hl2 e2 g2 => ?_
    refine s_at [some v, some (.ref sa), some (.ref l), none, none, none, none, none] rfl ?_
    have nsl : l ≠ sa := fun z => by
      rw [z, g1] at hl2
      cases hl2
    have hl := fresh_back e1 hl2
    have e12 := e1.trans e2
    refine q_forRev (n := ls.length) (ev_lenH (K := K) (ev_var rfl) (hv.ex e12)) (by omega) (fun k σ' H' => ∃ (y3 : Option V), σ' = [some v, some (.ref sa), some (.ref l), y3, none, none, none, none] ∧ Ex H H' ∧ H' l = some (.lst (natsV (begG ls ls.length k).1)) ∧ H' sa = some (.lst ((begG ls ls.length k).2.map V.int))) (fun H3 e3 => ⟨none, rfl, e12.trans e3, e3 _ _ g2, ?_⟩) (fun k σ' H3 hk hW => ?_) (fun σ' H3 hW => ?_)
    · have := (e2.trans e3) _ _ g1
      show H3 sa = some (.lst ((ls.map (·.1)).map V.int))
      rw [List.map_map]
      exact this
    · obtain ⟨y3, rfl, e03, gl, gs⟩ := hW
      obtain ⟨f1, f2, f3⟩ := begG_facts ls k (by omega)
      have ek : ls.length - 1 - k = ls.length - (k + 1) := by omega
      rw [ek]
      refine ⟨.ref l, rfl, .ref sa, rfl, v, rfl, .int ((ls.length - (k + 1) : Nat) : Int), rfl, l, sa, v, _, _, ls, ls.length - (k + 1), rfl, gl, gs, nsl, hv.ex e03, ft, f3, by omega, fun x hx => ?_, by omega, fun H4 x4 gl4 gs4 => ?_⟩
      · have := f1 x hx
        omega
      · exact ⟨_, rfl, ex_ex2 e03 x4 hl hsa, gl4, gs4⟩
    · obtain ⟨y3, rfl, e03, gl, gs⟩ := hW
      obtain ⟨f1, f2, f3⟩ := begG_facts ls ls.length (Nat.le_refl _)
      refine ret_run (call1_run ?_)
      refine (lt_mapN (K := K) (σ := [some v, some (.ref sa), some (.ref l), y3, none, none, none, none]) (j := 7) (vs := [7]) (fun x => ((begG ls ls.length ls.length).2.getD x 0, lT ls x, lM ls x)) (ev_var rfl) gl (by omega) (fun x => rfl) (fun x H4 e4 hx => ?_) (fun x H4 e4 hx => ?_) (fun x H4 e4 hx => ?_)) H3 (Ex.refl H3) _ fun c ws H4 hc e4 g4 la => ⟨c, ws, firstLots ls, rfl, sq_of g4, la, by unfold firstLots; rw [List.length_map]; omega, fun z H5 e5 hz => q z H5 (e03.trans (e4.trans e5)) hz⟩
      · have := f1 x hx
        exact ev_op (ev_var rfl) (ev_var rfl) (rv_ixL (K := K) (sq_of (e4 _ _ gs)) (getD_at (by omega)))
      · have := f1 x hx
        exact ev_lotT (K := K) (ev_var rfl) (ev_var rfl) (hv.ex (e03.trans e4)) this.2
      · have := f1 x hx
        exact ev_lotM (K := K) (ev_var rfl) (ev_var rfl) (hv.ex (e03.trans e4)) this.2
theorem ok_herd_passed {f f1 : Addr} {fd fd1 : FuncData} (F : FnP K "herd_passed" s_herd_passed f fd) (g : mg "herd_passed" = some (.ref f)) (b : Binds K fd ["herd"] []) (h_herd_end : Has P w K mg base 3 "herd_end" ["herd"] (spHerdEnd K) f1 fd1) : Has P w K mg base 4 "herd_passed" ["herd"] (spHerdPassed K) f fd := by
  refine ⟨F.ok sc_herd_passed (fun vs H Q E h => ?_) (fun cdv A outer s H vs Q E hr h => ?_), g, F.kp, b⟩
  · obtain ⟨v, ls, rfl, _⟩ := h
    rfl
  · obtain ⟨v, ls, rfl, hv, ft, q⟩ := h
    refine ⟨_, PSs.nox (pss_one (ps_ret (pe_ix ix_tup (pe_call h_herd_end.G (hr.mono (by decide)) (by rfl) h_herd_end.g h_herd_end.kp h_herd_end.b .nil pass0 (pa_cons (pv 0) pa_nil)) pe_int (fun _ _ => rfl)))), ?_⟩
    exact ⟨v, rfl, v, ls, rfl, hv, ft, fun p l sa ta us H1 e1 hl hsa hta sp gl bs gs gt => ⟨p, _, 2, .ref ta, rfl, rfl, sp, rfl, q ta H1 hta e1 gt⟩⟩
theorem ok_herd_passings {f f1 : Addr} {fd fd1 : FuncData} (F : FnP K "herd_passings" s_herd_passings f fd) (g : mg "herd_passings" = some (.ref f)) (b : Binds K fd ["herd"] []) (h_herd_passed : Has P w K mg base 4 "herd_passed" ["herd"] (spHerdPassed K) f1 fd1) (m_zip : mg "zip" = none) (m_sum : mg "sum" = none) : Has P w K mg base 5 "herd_passings" ["herd"] (spHerdPassings K) f fd := by
  refine ⟨F.ok sc_herd_passings (fun vs H Q E h => ?_) (fun cdv A outer s H vs Q E hr h => ?_), g, F.kp, b⟩
  · obtain ⟨v, ls, rfl, _⟩ := h
    rfl
  · obtain ⟨v, ls, rfl, hv, ft, q⟩ := h
    refine ⟨_, PSs.nox (pss_one (ps_ret (pe_callB (cr_sum rfl) (by rfl) m_sum (by decide +kernel) (pa_cons (pe_lc (own := [("passed", 1), ("strength", 2), ("toll", 3), ("many", 4)]) (g := gTup K 2 (gCons (gName 1) (gCons (gTup K 3 (gCons (gName 2) (gCons (gName 3) (gCons (gName 4) gNil)))) gNil))) (by rfl) sc_herd_passings.nd (pi_zipM (by rfl) m_zip (pa_cons (pe_call h_herd_passed.G (hr.mono (by decide)) (by rfl) h_herd_passed.g h_herd_passed.kp h_herd_passed.b .nil pass0 (pa_cons (pv 0) pa_nil)) (pa_cons (pv 0) pa_nil))) (blkOk_by (own := [("passed", 1), ("strength", 2), ("toll", 3), ("many", 4)]) (N := ["herd", "passed", "strength", "toll", "many"]) (sc := defScope s_herd_passings) (by decide +kernel)) (fun _ _ _ _ _ => (pg_tup rfl (pgs_cons (pg_name (i := 1) sc_herd_passings.nd rfl (Or.inl rfl)) (pgs_cons (pg_tup rfl (pgs_cons (pg_name (i := 2) sc_herd_passings.nd rfl (Or.inl rfl)) (pgs_cons (pg_name (i := 3) sc_herd_passings.nd rfl (Or.inl rfl)) (pgs_cons (pg_name (i := 4) sc_herd_passings.nd rfl (Or.inl rfl)) pgs_nil)))) pgs_nil)))) (fun _ _ _ _ _ => pts_nil) (fun _ _ _ _ _ => (pe_op op_mul (pv 1) (pv 4)))) pa_nil)))), ?_⟩
    have hn := ft.1
    obtain ⟨f1, f2, f3, f4⟩ := endG_facts ls ls.length
    refine s_ret (ev_sumI (K := K) (ns := (List.range ls.length).map fun n => (endG ls ls.length).2.2.getD n 0 * lM ls n) (el_zipH (K := K) (el_call (ea_cons (ev_var rfl) ea_nil) fun H1 e1 Q k E => ⟨v, ls, rfl, hv.ex e1, ft, fun p H2 hp e2 g2 => k p H2 hp e2 g2⟩) (fun H1 e1 => ev_var rfl) hv f4 (by omega) (fun l hl => (ft.2 l hl).2.2) (fun a b c d => rfl) (fun a b c d => rfl) (fun a b c d => rfl))) fun H1 e1 => q H1 e1
theorem ok_herd_places {f f1 : Addr} {fd fd1 : FuncData} (F : FnP K "herd_places" s_herd_places f fd) (g : mg "herd_places" = some (.ref f)) (b : Binds K fd ["herd"] []) (h_herd_end : Has P w K mg base 3 "herd_end" ["herd"] (spHerdEnd K) f1 fd1) (m_len : mg "len" = none) (m_range : mg "range" = none) : Has P w K mg base 4 "herd_places" ["herd"] (spHerdPlaces K) f fd := by
  refine ⟨F.ok sc_herd_places (fun vs H Q E h => ?_) (fun cdv A outer s H vs Q E hr h => ?_), g, F.kp, b⟩
  · obtain ⟨v, ls, rfl, _⟩ := h
    rfl
  · obtain ⟨v, ls, rfl, hv, ft, all, q⟩ := h
    have hu : (A.deeper (envOfC "herd_places" (defScope s_herd_places) s.heap.objs.size f cdv)).units + 1 < cLine := by
      have := hr.un
      omega
    refine ⟨_, PSs.nox (pss_cons (ps_set (i := 1) sc_herd_places.nd rfl (.inr rfl) pe_dnewK)
      (pss_cons (ps_set (i := 2) sc_herd_places.nd rfl (.inr rfl) pe_dnewK)
      (pss_cons (ps_set (i := 3) sc_herd_places.nd rfl (.inl rfl) pe_int)
      (pss_cons (ps_for PassesOwn.never rfl (pi_list (pe_ix ix_tup (pe_call h_herd_end.G (hr.mono (by decide)) (by rfl) h_herd_end.g h_herd_end.kp h_herd_end.b .nil pass0 (pa_cons (pv 0) pa_nil)) pe_int (fun _ _ => rfl))) (pg_tup rfl (pgs_cons (pg_name (i := 4) sc_herd_places.nd rfl (Or.inl rfl)) (pgs_cons (pg_name (i := 5) sc_herd_places.nd rfl (Or.inl rfl)) pgs_nil)))
        (pss_cons (ps_if (pt_cmp (pc_dnotin hu (pv 4) (pv 1))) (pss_one (ps_asg (pv 3) (pg_sub (pv 1) (pv 4) (set_dict hu)))) pss_nil)
      (pss_cons (ps_aug (i := 3) sc_herd_places.nd rfl (.inl rfl) (pv 5) ip_add)
      (pss_one (ps_asg (pe_op op_sub (pv 3) pe_int) (pg_sub (pv 2) (pv 4) (set_dict hu)))))))
      (pss_one (ps_ret (pe_lc (own := [("lot", 4)]) (g := gName 4) (by rfl) sc_herd_places.nd (pi_range1 (by rfl) m_range (pa_cons (pe_callB call_len_seq (by rfl) m_len PySem.boot_len (pa_cons (pv 0) pa_nil)) pa_nil)) (blkOk_by (own := [("lot", 4)]) (N := ["herd", "foremost", "hindmost", "place", "lot", "many"]) (sc := defScope s_herd_places) (by decide +kernel)) (fun _ _ _ _ _ => (pg_name (i := 4) sc_herd_places.nd rfl (Or.inl rfl))) (fun _ _ _ _ _ => pts_nil) (fun _ _ _ _ _ => (pe_tup (pa_cons (pe_dget hu (pv 1) (pv 4) (fun _ _ => rfl)) (pa_cons (pe_dget hu (pv 2) (pv 4) (fun _ _ => rfl)) pa_nil))))))))))), ?_⟩
    have hn := ft.1
    obtain ⟨f1, f2, f3, f4⟩ := endG_facts ls ls.length
    refine q_run ?_
    refine fun d1 hd1 => ?_
    have e1 := Ex.new (o := .dK []) hd1
    have g1 : (upd H d1 (.dK [])) d1 = some (.dK []) := upd_same
    generalize upd H d1 (.dK []) = H1 at e1 g1
    refine q_run ?_
    refine fun d2 hd2 => ?_
    have e2 := Ex.new (o := .dK []) hd2
    have g2 : (upd H1 d2 (.dK [])) d2 = some (.dK []) := upd_same
    generalize upd H1 d2 (.dK []) = H2 at e2 g2
    have n12 : d1 ≠ d2 := fun z => by
      rw [← z, g1] at hd2
      cases hd2
    have fd2 := fresh_back e1 hd2
    refine q_asg ev_c fun H3 e3 => ?_
    refine s_at [some v, some (.ref d1), some (.ref d2), some (.int 0), none, none] rfl ?_
    have e03 := e1.trans (e2.trans e3)
    refine q_forL0 (K := K) ?_
    refine ⟨v, rfl, v, ls, rfl, hv.ex e03, ft, fun p l sa ta us H5 e5 hl hsa hta sp gl bs gs gt => ⟨p, _, 0, .ref l, rfl, rfl, sp, rfl, ?_⟩⟩
    have e05 := e03.trans e5
    have g15 := (e2.trans (e3.trans e5)) _ _ g1
    have g25 := (e3.trans e5) _ _ g2
    have nl1 : l ≠ d1 := fun z => by
      rw [z, g15] at gl
      cases gl
    have nl2 : l ≠ d2 := fun z => by
      rw [z, g25] at gl
      cases gl
    have ul : us.length = (endG ls ls.length).1.length := bs.len
    have eline : placesG ls = (List.range ls.length).map fun l => ((plcF l (endG ls ls.length).1 0 none).getD 0, (plcB l (endG ls ls.length).1 0 none).getD 0) := rfl
    rw [eline] at q
    generalize (endG ls ls.length).1 = line at bs ul all f1 f2 q
    have lus : us.length ≤ 1000 := by omega
    refine q_forL (K := K) (a := l) (xs := us) ev_c (sq_of gl) (fun k σ' H' => ∃ (pl : Int) (y4 y5 : Option V) (kF kB : List (Key × V)) (fF fB : Nat → Option Int), σ' = [some v, some (.ref d1), some (.ref d2), some (.int pl), y4, y5] ∧ ExB2 d1 d2 H5 H' ∧ H' d1 = some (.dK kF) ∧ H' d2 = some (.dK kB) ∧ kF.length ≤ k ∧ kB.length ≤ k ∧ (∀ j : Nat, valV kF (.inl (j : Int)) = (fF j).map V.int) ∧ (∀ j : Nat, valV kB (.inl (j : Int)) = (fB j).map V.int) ∧ (∀ j, plcF j (line.drop k) pl (fF j) = plcF j line 0 none) ∧ (∀ j, plcB j (line.drop k) pl (fB j) = plcB j line 0 none)) (fun H6 e6 => ⟨0, none, none, [], [], fun _ => none, fun _ => none, rfl, .of e6, e6 _ _ g15, e6 _ _ g25, Nat.le_refl _, Nat.le_refl _, fun j => rfl, fun j => rfl, fun j => rfl, fun j => rfl⟩) (fun k σ' H6 _ hW => ?_) (fun k x σ' H6 hx hW => ?_) (fun σ' H6 hW => ?_)
    · obtain ⟨pl, y4, y5, kF, kB, fF, fB, rfl, x6, _⟩ := hW
      exact sq_of (x6 _ _ nl1 nl2 gl)
    · obtain ⟨pl, y4, y5, kF, kB, fF, fB, rfl, x6, w1, w2, w3, w4, w5, w6, w7, w8⟩ := hW
      obtain ⟨b, hb, p2, rfl, hp2⟩ := bs.at' hx
      have hk : k < us.length := (List.getElem?_eq_some_iff.mp hx).1
      obtain ⟨j0, hj0, hjn⟩ := f1 b (List.mem_of_getElem? hb)
      have hdrop : line.drop k = b :: line.drop (k + 1) := by
        obtain ⟨h1, h2⟩ := List.getElem?_eq_some_iff.mp hb
        rw [List.drop_eq_getElem_cons h1, h2]
      have b6 := beasts_exD bs x6 g15 g25
      obtain ⟨b', hb', p2', e', hp6⟩ := b6.at' hx
      cases e'
      rw [hb] at hb'
      cases hb'
      refine ⟨p2, _, rfl, st_of hp6, rfl, _, _, rfl, _, _, rfl, rfl, ?_⟩
      dsimp only
      refine s_at [some v, some (.ref d1), some (.ref d2), some (.int pl), some (.int b.1), some (.int b.2)] rfl ?_
      have rest : ∀ (kF' : List (Key × V)) (H7 : Hp), ExB2 d1 d2 H5 H7 → H7 d1 = some (.dK kF') → H7 d2 = some (.dK kB) → kF'.length ≤ k + 1 → (∀ j : Nat, valV kF' (.inl (j : Int)) = (if b.1 = (j : Int) ∧ fF j = none then some pl else fF j).map V.int) → ∀ (N : L2.St → Hp → Prop), (∀ σ2 H2, (∃ (pl : Int) (y4 y5 : Option V) (kF kB : List (Key × V)) (fF fB : Nat → Option Int), σ2 = [some v, some (.ref d1), some (.ref d2), some (.int pl), y4, y5] ∧ ExB2 d1 d2 H5 H2 ∧ H2 d1 = some (.dK kF) ∧ H2 d2 = some (.dK kB) ∧ kF.length ≤ k + 1 ∧ kB.length ≤ k + 1 ∧ (∀ j : Nat, valV kF (.inl (j : Int)) = (fF j).map V.int) ∧ (∀ j : Nat, valV kB (.inl (j : Int)) = (fB j).map V.int) ∧ (∀ j, plcF j (line.drop (k + 1)) pl (fF j) = plcF j line 0 none) ∧ (∀ j, plcB j (line.drop (k + 1)) pl (fB j) = plcB j line 0 none)) → N σ2 H2) → ∀ (ct bk : L2.St → Hp → Prop) (rt : VK), tSeq (tAug 3 (tVar 5) (ipI fun i j => i + j)) (tAsg (tOp (rI0 fun i j => .int (i - j)) (tVar 3) (tC (.int 1))) (gSub (tVar 2) (tVar 4) rSetD)) { nx := N, ct := ct, bk := bk, rt := rt } [some v, some (.ref d1), some (.ref d2), some (.int pl), some (.int b.1), some (.int b.2)] H7 := fun kF' H7 x7 h1 h2 hl7 hF N hN ct bk rt => by
        refine q_aug (f := fun i j => i + j) (b := b.2) rfl (ev_var rfl) fun H8 e8 => ?_
        refine s_at [some v, some (.ref d1), some (.ref d2), some (.int (pl + b.2)), some (.int b.1), some (.int b.2)] rfl ?_
        refine s_setK (k := .inl b.1) (v := .int (pl + b.2 - 1)) (ev_op (ev_var rfl) ev_c rv_I0) (ev_var rfl) (ev_var rfl) (e8 _ _ h2) (by omega) fun H9 e9 => ?_
        have lk := putK_len (kvs := kB) (k := .inl b.1) (v := .int (pl + b.2 - 1))
        refine hN _ _ ⟨pl + b.2, _, _, kF', _, fun j => if b.1 = (j : Int) ∧ fF j = none then some pl else fF j, fun j => if b.1 = (j : Int) then some (pl + b.2 - 1) else fB j, rfl, ExB2.snd (x7.trans (.of (e8.trans e9))), ?_, upd_same, hl7, by omega, hF, fun j => ?_, fun j => ?_, fun j => ?_⟩
        · rw [upd_ne n12]
          exact (e8.trans e9) _ _ h1
        · rw [valV_put, w6]
          dsimp only
          by_cases hc : b.1 = (j : Int)
          · rw [if_pos (show (Sum.inl (j : Int) : Key) = .inl b.1 by rw [hc]), if_pos hc]
            rfl
          · rw [if_neg (show ¬ (Sum.inl (j : Int) : Key) = .inl b.1 from fun z => hc (Sum.inl.inj z).symm), if_neg hc]
        · have := w7 j
          rw [hdrop, plcF] at this
          exact this
        · have := w8 j
          rw [hdrop, plcB] at this
          exact this
      refine q_if (b := !(valV kF (.inl b.1)).isSome) (et_notinK (k := .inl b.1) (ev_var rfl) (ev_var rfl) w1) (fun hc H7 e7 => ?_) (fun hc H7 e7 => ?_)
      · have hnone : fF j0 = none := by
          rw [hj0, w5 j0] at hc
          cases hf : fF j0 with
          | none => rfl
          | some i =>
            rw [hf] at hc
            cases hc
        refine s_setK (k := .inl b.1) (v := .int pl) (ev_var rfl) (ev_var rfl) (ev_var rfl) (e7 _ _ w1) (by omega) fun H8 e8 => ?_
        have lk := putK_len (kvs := kF) (k := .inl b.1) (v := .int pl)
        refine rest _ _ (ExB2.fst (x6.trans (.of (e7.trans e8)))) upd_same ?_ (by omega) (fun j => ?_) _ (fun σ2 H2 h => h) _ _ _
        · rw [upd_ne (Ne.symm n12)]
          exact (e7.trans e8) _ _ w2
        · rw [valV_put, w5]
          by_cases hc : b.1 = (j : Int)
          · have ej : j = j0 := by omega
            rw [if_pos (show (Sum.inl (j : Int) : Key) = .inl b.1 by rw [hc]), if_pos ⟨hc, by rw [ej]; exact hnone⟩]
            rfl
          · rw [if_neg (show ¬ (Sum.inl (j : Int) : Key) = .inl b.1 from fun z => hc (Sum.inl.inj z).symm), if_neg (fun z => hc z.1)]
      · refine rest kF H7 (x6.trans (.of e7)) (e7 _ _ w1) (e7 _ _ w2) (by omega) (fun j => ?_) _ (fun σ2 H2 h => h) _ _ _
        rw [w5]
        by_cases hh : b.1 = (j : Int) ∧ fF j = none
        · have ej : j = j0 := by omega
          rw [hj0, w5 j0, ← ej, hh.2] at hc
          cases hc
        · rw [if_neg hh]
    · obtain ⟨pl, y4, y5, kF, kB, fF, fB, rfl, x6, w1, w2, w3, w4, w5, w6, w7, w8⟩ := hW
      have hd0 : line.drop us.length = [] := by
        rw [ul]
        exact List.drop_eq_nil_of_le (Nat.le_refl _)
      have e06 : Ex H H6 := ex_ex2 e05 x6 hd1 fd2
      have hv6 := hv.ex e06
      have valF : ∀ i, i < ls.length → valV kF (.inl (i : Int)) = some (.int ((plcF i line 0 none).getD 0)) := fun i hi => by
        have := w7 i
        rw [hd0, plcF] at this
        obtain ⟨z, hz⟩ := plcF_some (p := 0) (o := none) (.inr (all i hi))
        rw [w5, this, hz]
        rfl
      have valB : ∀ i, i < ls.length → valV kB (.inl (i : Int)) = some (.int ((plcB i line 0 none).getD 0)) := fun i hi => by
        have := w8 i
        rw [hd0, plcB] at this
        obtain ⟨z, hz⟩ := plcB_some (p := 0) (o := none) (.inr (all i hi))
        rw [w6, this, hz]
        rfl
      refine (ept_rng (σ := [some v, some (.ref d1), some (.ref d2), some (.int pl), y4, y5]) (j := 4) (vs := [4]) (n := ls.length) (fun i => (plcF i line 0 none).getD 0) (fun i => (plcB i line 0 none).getD 0) (ea_cons (ev_lenH (K := K) (ev_var rfl) hv6) ea_nil) (by omega) (fun x => rfl) (fun i H7 e7 hi => ev_dget (ev_var rfl) (ev_var rfl) (e7 _ _ w1) (valF i hi)) (fun i H7 e7 hi => ev_dget (ev_var rfl) (ev_var rfl) (e7 _ _ w2) (valB i hi))) H6 (Ex.refl H6) _ fun c ws H7 hc e7 g7 b7 => ?_
      exact q c ws H7 (fresh_back e06 hc) (e06.trans e7) g7 b7
end
end K79
set_option maxHeartbeats 4000000
namespace K79
open PySem PySem.Spec PyProof.Rows L2 Evl HH RZ
section
variable {P : Program} {w : World} {K : PySem.W.Frag} {mg : Str → Option Value} {base : Heap}
theorem ok_together {f : Addr} {fd : FuncData} (F : FnP K "together" s_together f fd) (g : mg "together" = some (.ref f)) (b : Binds K fd ["lots"] []) (m_len : mg "len" = none) (m_tuple : mg "tuple" = none) : Has P w K mg base 1 "together" ["lots"] (spTogether K) f fd := by
  refine ⟨F.ok sc_together (fun vs H Q E h => ?_) (fun cdv A outer s H vs Q E hr h => ?_), g, F.kp, b⟩
  · obtain ⟨a, us, ls, rfl, _⟩ := h
    rfl
  · obtain ⟨a, us, ls, rfl, sq, la, hl, q⟩ := h
    have hu : (A.deeper (envOfC "together" (defScope s_together) s.heap.objs.size f cdv)).units + 64 < cLine := by
      have := hr.un
      omega
    refine ⟨_, PSs.nox (pss_cons (ps_set (i := 1) sc_together.nd rfl (.inl rfl) (pe_lst pa_nil))
      (pss_cons (ps_for PassesOwn.never rfl (pi_list (pv 0)) (pg_tup rfl (pgs_cons (pg_name (i := 2) sc_together.nd rfl (Or.inl rfl)) (pgs_cons (pg_name (i := 3) sc_together.nd rfl (Or.inl rfl)) (pgs_cons (pg_name (i := 4) sc_together.nd rfl (Or.inl rfl)) pgs_nil))))
        (pss_cons (ps_set (i := 5) sc_together.nd rfl (.inl rfl) (pe_and (pe_cmpR op_gt (pe_callB call_len_seq (by rfl) m_len PySem.boot_len (pa_cons (pv 1) pa_nil)) pe_int (nomark _)) (pe_one (pe_cmpR (op_eqD hu) (pe_slice sl_tupA (pe_ix ix_list (pv 1) (pe_un un_neg pe_int) (fun _ _ => rfl)) po_none (po_some pe_int)) (pe_tup (pa_cons (pv 2) (pa_cons (pv 3) pa_nil))) (nomark _)))))
      (Evl.pss_cut (ps_set (i := 6) sc_together.nd rfl (.inl rfl) (pe_ifExp (pt_val (pv 5)) (pe_ix ix_tup (pe_bm0 PySem.F.plainAttrs_list PySem.F.slot_list_pop PySem.F.type_list_pop mt_pop (pv 1)) pe_int (fun _ _ => rfl)) pe_int))
      (pss_one (ps_expr (pe_bm PySem.F.plainAttrs_list PySem.F.slot_list_append PySem.F.type_list_append mt_append (pv 1) (pa_cons (pe_tup (pa_cons (pv 2) (pa_cons (pv 3) (pa_cons (pe_op op_add (pv 6) (pv 4)) pa_nil)))) pa_nil)))))))
      (pss_one (ps_ret (pe_tupleOf (by rfl) m_tuple (pv 1)))))), ?_⟩
    refine q_asgL (el_lst ea_nil (by decide)) fun hd H1 hhd e1 g1 => ?_
    refine ⟨.ref a, rfl, a, rfl, ⟨_, ex_l e1 sq⟩, ?_⟩
    refine for_list (K := K) (xs := us) (fun k σ' H' => ∃ (y2 y3 y4 y5 y6 : Option V) (ws : List V), σ' = [some (.ref a), some (.ref hd), y2, y3, y4, y5, y6] ∧ Ex H H' ∧ H' hd = some (.lst ws) ∧ LotsA K H' ws (packL (ls.take k))) ⟨_, _, _, _, _, [], rfl, e1, g1, .nil⟩ (fun k σ' H' _ hW => ?_) (fun k x σ' H2 hx hW => ?_) (fun σ' H2 hW => ?_)
    · obtain ⟨y2, y3, y4, y5, y6, ws, rfl, c1, c2, c3⟩ := hW
      exact ex_l c1 sq
    · obtain ⟨y2, y3, y4, y5, y6, ws, rfl, e2, g2, l2⟩ := hW
      obtain ⟨⟨st, tl, mn⟩, hlk, p, rfl, sqp⟩ := All2.get la hx
      refine ⟨p, _, rfl, ex_t e2 sqp, rfl, _, _, rfl, _, _, rfl, _, _, rfl, rfl, ?_⟩
      have lenp := packL_len (ls.take k)
      rw [List.length_take] at lenp
      rw [packL_take hlk] at *
      generalize packL (ls.take k) = acc at l2 lenp
      have wl : ws.length ≤ 1000 := by rw [All2.len l2]; omega
      dsimp only
      refine q_asg (v := .bl (alikeB acc st tl)) (fun H3 e3 Q3 k3 => ?_) fun H3 e3 => ?_
      · rcases List.eq_nil_or_concat acc with z | ⟨pre, l, z⟩
        · subst z
          cases l2
          have ev := ev_andV (ta := tOp (rI0 fun i j => .bl (decide (i > j))) (tCB (rLenS K) (tCons (tVar 1) tNil)) (tC (.int 0))) (a := false) (b := false) (σ := [some (.ref a), some (.ref hd), some (.int st), some (.int tl), some (.int mn), y5, y6]) (ev_is (ev_op (ev_len (K := K) (ev_var rfl) (sq_of g2)) ev_c rv_I0) rfl) (tb := tOp (rEqD K) (tSl (rSlA K) (tOp (rIxL K) (tVar 1) (tUn (rU fun i => .int (-i)) (tC (.int 1)))) tNoPart (tPart (tC (.int 2)))) (tTup (tCons (tVar 2) (tCons (tVar 3) tNil)))) (fun z => by cases z)
          exact ev H3 e3 Q3 k3
        · rw [List.concat_eq_append] at z
          subst z
          have ev := ev_andV (ta := tOp (rI0 fun i j => .bl (decide (i > j))) (tCB (rLenS K) (tCons (tVar 1) tNil)) (tC (.int 0))) (a := true) (b := decide (l.1 = st ∧ l.2.1 = tl)) (σ := [some (.ref a), some (.ref hd), some (.int st), some (.int tl), some (.int mn), y5, y6]) (ev_is (ev_op (ev_len (K := K) (ev_var rfl) (sq_of g2)) ev_c rv_I0) (by
            have : (ws.length : Int) > 0 := by rw [All2.len l2, List.length_append]; show (0 : Int) < ((pre.length + 1 : Nat) : Int); omega
            rw [decide_eq_true this])) (fun _ => ev_last2 (K := K) (ih := 1) (is := 2) (it := 3) rfl rfl rfl g2 l2)
          rw [alike_snoc] at k3
          exact ev H3 e3 Q3 k3
      have g3 := e3 _ _ g2
      have l3 := l2.ex' e3
      have e03 := e2.trans e3
      refine q_cut (M := fun σ' H' => ∃ (ws' : List V), σ' = [some (.ref a), some (.ref hd), some (.int st), some (.int tl), some (.int mn), some (.bl (alikeB acc st tl)), some (.int (befL acc st tl))] ∧ Ex H H' ∧ H' hd = some (.lst ws') ∧ LotsA K H' ws' (popL acc st tl)) ?_ (fun σ' H4 hM => ?_)
      · refine ⟨_, rfl, _, rfl, ite2 (fun hc => ?_) (fun hc => ?_)⟩
        · obtain ⟨pre, m, rfl⟩ := alike_ex hc
          obtain ⟨w1, w2, rfl, h1, h2⟩ := All2.split l3
          cases h2 with
          | cons ry nl =>
            cases nl
            obtain ⟨yp, rfl, sqy⟩ := ry
            refine ⟨.ref hd, rfl, .inl ⟨rfl, _, sq_of g3⟩, hd, _, .ref yp, rfl, rfl, g3, by rw [List.length_append]; show (w1 ++ _)[w1.length + 1 - 1]? = _; rw [Nat.add_sub_cancel, List.getElem?_append_right (Nat.le_refl _), Nat.sub_self]; rfl, ?_⟩
            rw [show (w1 ++ [V.ref yp]).dropLast = w1 from List.dropLast_concat ..]
            have x4 : ExB hd H3 (upd H3 hd (.lst w1)) := (ExB.refl _ _).upd
            refine ⟨yp, _, 2, .int m, rfl, rfl, x4.t g3 sqy, rfl, w1, ?_, Ex.mut e03 hhd, upd_same, ?_⟩
            · unfold befL
              rw [if_pos hc, List.getLast?_concat]
              rfl
            · unfold popL
              rw [if_pos hc, List.dropLast_concat]
              exact LotsA.exB' h1 x4 g3
        · refine ⟨ws, ?_, e03, g3, ?_⟩
          · unfold befL
            rw [if_neg hc]
            rfl
          · unfold popL
            rw [if_neg hc]
            exact l3
      obtain ⟨ws', rfl, e4, g4, l4⟩ := hM
      have pl : (popL acc st tl).length ≤ acc.length := by
        unfold popL
        split
        · rw [List.length_dropLast]; omega
        · exact Nat.le_refl _
      refine s_appU g4 (ev_var rfl) (eu_tup (ea_cons (ev_var rfl) (ea_cons (ev_var rfl) (ea_cons (ev_op (ev_var rfl) (ev_var rfl) rv_I0) ea_nil))) (by show 3 ≤ 100000; decide)) (by rw [All2.len l4]; omega) fun T H5 hT e5 h5 => ?_
      have g5 := e5 _ _ g4
      have x6 : ExB hd H5 (upd H5 hd (.lst (ws' ++ [.ref T]))) := (ExB.refl _ _).upd
      refine ⟨_, _, _, _, _, ws' ++ [.ref T], rfl, Ex.mut (e4.trans e5) hhd, upd_same, ?_⟩
      exact LotsA.exB' (All2.app (l4.ex' e5) (.cons ⟨T, rfl, st_of h5⟩ .nil)) x6 g5
    · obtain ⟨y2, y3, y4, y5, y6, ws, rfl, e2, g2, l2⟩ := hW
      rw [All2.len la, List.take_length] at l2
      refine ⟨.ref hd, rfl, .inl ⟨hd, _, rfl, sq_of g2, fun rt hrt => q (.ref rt) _ (e2.trans (Ex.new hrt)) ⟨rt, ws, rfl, st_of upd_same, l2.ex' (Ex.new hrt)⟩⟩⟩
theorem ok_is_number {f : Addr} {fd : FuncData} (F : FnP K "is_number" s_is_number f fd) (g : mg "is_number" = some (.ref f)) (b : Binds K fd ["thing"] []) (m_isinstance : mg "isinstance" = none) (m_int : mg "int" = none) (m_bool : mg "bool" = none) : Has P w K mg base 1 "is_number" ["thing"] spIsNum f fd := by
  refine ⟨F.ok sc_is_number (fun vs H Q E h => ?_) (fun cdv A outer s H vs Q E hr h => ?_), g, F.kp, b⟩
  · obtain ⟨i, rfl, _⟩ := h
    rfl
  · obtain ⟨i, rfl, q⟩ := h
    refine ⟨_, PSs.nox (pss_one (ps_ret (pe_and (pe_callB call_isi (by rfl) m_isinstance (by decide +kernel) (pa_cons (pv 0) (pa_cons (pe_bltn (v := .ty "int") (by rfl) m_int (by decide +kernel) rfl) pa_nil))) (pe_one (pe_not (pe_callB call_isi (by rfl) m_isinstance (by decide +kernel) (pa_cons (pv 0) (pa_cons (pe_bltn (v := .ty "bool") (by rfl) m_bool (by decide +kernel) rfl) pa_nil)))))))), ?_⟩
    exact s_ret (ev_andV (a := true) (b := true) (ev_isi (K := K) (ev_var rfl) (.int i) (by decide +kernel)) fun _ => ev_notV (a := false) (ev_isi (K := K) (ev_var rfl) (.int i) (by decide +kernel))) fun H1 e1 => q H1 e1
theorem ok_is_lot {f f1 : Addr} {fd fd1 : FuncData} (F : FnP K "is_lot" s_is_lot f fd) (g : mg "is_lot" = some (.ref f)) (b : Binds K fd ["thing"] []) (h_is_number : Has P w K mg base 1 "is_number" ["thing"] spIsNum f1 fd1) (m_isinstance : mg "isinstance" = none) (m_tuple : mg "tuple" = none) (m_len : mg "len" = none) (m_all : mg "all" = none) : Has P w K mg base 2 "is_lot" ["thing"] (spIsLot K) f fd := by
  refine ⟨F.ok sc_is_lot (fun vs H Q E h => ?_) (fun cdv A outer s H vs Q E hr h => ?_), g, F.kp, b⟩
  · obtain ⟨v, l, rfl, _⟩ := h
    rfl
  · obtain ⟨v, ⟨st, tl, mn⟩, rfl, ⟨p, rfl, sq⟩, h1, h2, q⟩ := h
    refine ⟨_, PSs.nox (pss_cons (ps_if (PW.pt (pw_or (pt_not (pt_val (pe_callB call_isi (by rfl) m_isinstance (by decide +kernel) (pa_cons (pv 0) (pa_cons (pe_bltn (v := .ty "tuple") (by rfl) m_tuple (by decide +kernel) rfl) pa_nil))))) (pw_or (pt_cmpR op_ne (pe_callB call_len_seq (by rfl) m_len PySem.boot_len (pa_cons (pv 0) pa_nil)) pe_int (nomark _)) (pw_or1 (pt_not (pt_val (pe_callB (cr_all rfl) (by rfl) m_all (by decide +kernel) (pa_cons (pe_lc (own := [("part", 1)]) (g := gName 1) (by rfl) sc_is_lot.nd (pi_tup (pv 0)) (blkOk_by (own := [("part", 1)]) (N := ["thing", "part"]) (sc := defScope s_is_lot) (by decide +kernel)) (fun _ _ _ _ _ => (pg_name (i := 1) sc_is_lot.nd rfl (Or.inl rfl))) (fun _ _ _ _ _ => pts_nil) (fun _ _ _ _ _ => (pe_call h_is_number.G (hr.mono (by decide)) (by rfl) h_is_number.g h_is_number.kp h_is_number.b .nil pass0 (pa_cons (pv 1) pa_nil)))) pa_nil)))))))) (pss_one (ps_ret pe_bl)) pss_nil)
      (pss_one (ps_ret (pe_and (pe_cmpR op_ge (pe_ix ix_tup (pv 0) pe_int (fun _ _ => rfl)) pe_int (nomark _)) (pe_one (pe_cmpR op_ge (pe_ix ix_tup (pv 0) pe_int (fun _ _ => rfl)) pe_int (nomark _))))))), ?_⟩
    have kA := el_allTup (K := K) (a := p) (xs := [V.int st, .int tl, .int mn]) (tl := tVar 0) (j := 1) (vs := [1]) (te := tCall spIsNum [] E0 (tCons (tVar 1) tNil)) (σ := [some (.ref p), none]) (H := H) (ev_var rfl) sq (by show 3 ≤ 40000; decide) (fun _ => rfl) (fun i x H1 e1 hx H2 e2 Q2 k2 => by
      have : ∃ n : Int, x = .int n := by
        have := List.mem_of_getElem? hx
        simp only [List.mem_cons, List.not_mem_nil, or_false] at this
        rcases this with z | z | z <;> exact ⟨_, z⟩
      obtain ⟨n, rfl⟩ := this
      exact ⟨.int n, rfl, n, rfl, k2⟩)
    refine q_when (b := false) (et_or (a := false) (b := false) (et_is (et_not (et_B (ev_isi (K := K) (b := true) (ev_var rfl) (.tup sq) (by decide +kernel)))) rfl) fun _ => et_or (a := false) (b := false) (et_is (et_test (ev_op (ev_lenTup (K := K) (ev_var rfl) sq) ev_c (rv_ne rfl))) (by rw [decide_eq_true (show V.int (([V.int st, .int tl, .int mn].length : Nat) : Int) = V.int 3 from rfl)]; rfl)) fun _ => et_is (et_not (et_B (ev_allT (n := 3) kA))) rfl) (fun z => by cases z) fun _ H1 e1 => ?_
    have ev : Ev (tAndV (tOp (rI0 fun i j => .bl (decide (i ≥ j))) (tOp (rIxT K) (tVar 0) (tC (.int 1))) (tC (.int 0))) (tOp (rI0 fun i j => .bl (decide (i ≥ j))) (tOp (rIxT K) (tVar 0) (tC (.int 2))) (tC (.int 1)))) [some (V.ref p), none] H1 (.bl (true && true)) := ev_andV (a := true) (b := true) (ev_is (ev_op (ev_op (ev_var rfl) ev_c (rv_ixT (K := K) (ex_t e1 sq) rfl)) ev_c rv_I0) (by rw [decide_eq_true (show tl ≥ 0 from h1)])) (fun _ => ev_is (ev_op (ev_op (ev_var rfl) ev_c (rv_ixT (K := K) (ex_t e1 sq) rfl)) ev_c rv_I0) (by rw [decide_eq_true (show mn ≥ 1 from h2)]))
    exact ret_run (ev H1 (Ex.refl H1) _ fun H2 e2 => q H2 (e1.trans e2))
theorem ok_is_herd {f f1 : Addr} {fd fd1 : FuncData} (F : FnP K "is_herd" s_is_herd f fd) (g : mg "is_herd" = some (.ref f)) (b : Binds K fd ["thing"] []) (h_is_lot : Has P w K mg base 2 "is_lot" ["thing"] (spIsLot K) f1 fd1) (m_isinstance : mg "isinstance" = none) (m_tuple : mg "tuple" = none) (m_len : mg "len" = none) (m_all : mg "all" = none) (m_range : mg "range" = none) : Has P w K mg base 3 "is_herd" ["thing"] (spIsHerd K) f fd := by
  refine ⟨F.ok sc_is_herd (fun vs H Q E h => ?_) (fun cdv A outer s H vs Q E hr h => ?_), g, F.kp, b⟩
  · obtain ⟨v, ls, rfl, _⟩ := h
    rfl
  · obtain ⟨v, ls, rfl, ⟨p, us, rfl, sq, la⟩, l0, hl, good, ad, q⟩ := h
    have hu : (A.deeper (envOfC "is_herd" (defScope s_is_herd) s.heap.objs.size f cdv)).units + 64 < cLine := by
      have := hr.un
      omega
    refine ⟨_, PSs.nox (pss_cons (ps_if (PW.pt (pw_or (pt_not (pt_val (pe_callB call_isi (by rfl) m_isinstance (by decide +kernel) (pa_cons (pv 0) (pa_cons (pe_bltn (v := .ty "tuple") (by rfl) m_tuple (by decide +kernel) rfl) pa_nil))))) (pw_or (pt_cmpR op_eq (pe_callB call_len_seq (by rfl) m_len PySem.boot_len (pa_cons (pv 0) pa_nil)) pe_int (nomark _)) (pw_or1 (pt_not (pt_val (pe_callB (cr_all rfl) (by rfl) m_all (by decide +kernel) (pa_cons (pe_lc (own := [("part", 2)]) (g := gName 2) (by rfl) sc_is_herd.nd (pi_tup (pv 0)) (blkOk_by (own := [("part", 2)]) (N := ["thing", "at", "part"]) (sc := defScope s_is_herd) (by decide +kernel)) (fun _ _ _ _ _ => (pg_name (i := 2) sc_is_herd.nd rfl (Or.inl rfl))) (fun _ _ _ _ _ => pts_nil) (fun _ _ _ _ _ => (pe_call h_is_lot.G (hr.mono (by decide)) (by rfl) h_is_lot.g h_is_lot.kp h_is_lot.b .nil pass0 (pa_cons (pv 2) pa_nil)))) pa_nil)))))))) (pss_one (ps_ret pe_bl)) pss_nil)
      (pss_one (ps_ret (pe_callB (cr_all rfl) (by rfl) m_all (by decide +kernel) (pa_cons (pe_lc (own := [("at", 1)]) (g := gName 1) (by rfl) sc_is_herd.nd (pi_range2 (by rfl) m_range (pa_cons pe_int (pa_cons (pe_callB call_len_seq (by rfl) m_len PySem.boot_len (pa_cons (pv 0) pa_nil)) pa_nil))) (blkOk_by (own := [("at", 1)]) (N := ["thing", "at", "part"]) (sc := defScope s_is_herd) (by decide +kernel)) (fun _ _ _ _ _ => (pg_name (i := 1) sc_is_herd.nd rfl (Or.inl rfl))) (fun _ _ _ _ _ => pts_nil) (fun _ _ _ _ _ => (pe_cmpR (op_neDK (K := K) hu) (pe_slice (sl_tupAK (K := K)) (pe_ix (ix_tupK (K := K)) (pv 0) (pe_op op_sub (pv 1) pe_int) (fun _ _ => rfl)) po_none (po_some pe_int)) (pe_slice (sl_tupAK (K := K)) (pe_ix (ix_tupK (K := K)) (pv 0) (pv 1) (fun _ _ => rfl)) po_none (po_some pe_int)) (nomark _)))) pa_nil))))), ?_⟩
    have ul : us.length = ls.length := All2.len la
    have kA := el_allTup (K := K) (a := p) (xs := us) (tl := tVar 0) (j := 2) (vs := [2]) (te := tCall (spIsLot K) [] E0 (tCons (tVar 2) tNil)) (σ := [some (.ref p), none, none]) (H := H) (ev_var rfl) sq (by omega) (fun _ => rfl) (fun i x H1 e1 hx H2 e2 Q2 k2 => by
      obtain ⟨l, hlk, hx2⟩ := All2.get la hx
      have := good l (List.mem_of_getElem? hlk)
      exact ⟨x, rfl, x, l, rfl, (hx2.ex (e1.trans e2)), this.1, this.2, k2⟩)
    refine q_when (b := false) (et_or (a := false) (b := false) (et_is (et_not (et_B (ev_isi (K := K) (b := true) (ev_var rfl) (.tup sq) (by decide +kernel)))) rfl) fun _ => et_or (a := false) (b := false) (et_is (et_test (ev_op (ev_lenTup (K := K) (ev_var rfl) sq) ev_c (rv_eq rfl))) (decide_eq_false (fun z => by injection z with z; omega))) fun _ => et_is (et_not (et_B (ev_allT kA))) rfl) (fun z => by cases z) fun _ H1 e1 => ?_
    have sq1 := ex_t e1 sq
    have la1 := LotsA.ex' la e1
    have kB := el_lcR2 (ta := tCons (tC (.int 1)) (tCons (tCB (rLenS K) (tCons (tVar 0) tNil)) tNil)) (σ := [some (.ref p), none, none]) (H := H1) (j := 1) (vs := [1]) (lo := 1) (n := (us.length : Int)) (m := us.length - 1) (t := tYes) (te := tOp (rNeD K) (tSl (rSlA K) (tOp (rIxT K) (tVar 0) (tOp (rI0 fun i j => .int (i - j)) (tVar 1) (tC (.int 1)))) tNoPart (tPart (tC (.int 2)))) (tSl (rSlA K) (tOp (rIxT K) (tVar 0) (tVar 1)) tNoPart (tPart (tC (.int 2))))) (fun _ => true) (fun _ => .bl true) (ea_cons ev_c (ea_cons (ev_lenTup (K := K) (ev_var rfl) sq1) ea_nil)) ⟨by omega, by omega, by omega, by omega⟩ (by omega) (fun _ => rfl) (fun i H2 e2 hi => et_yes) (fun i H2 e2 hi _ H3 e3 Q3 k3 => by
      have h1 : i < us.length := by omega
      have h2 : i + 1 < us.length := by omega
      have e13 := e2.trans e3
      obtain ⟨la', hla, ra⟩ := All2.get la1 (List.getElem?_eq_getElem h1)
      obtain ⟨lb', hlb, rb⟩ := All2.get la1 (List.getElem?_eq_getElem h2)
      refine (ev_op (ev_var rfl) (ev_op (ev_var rfl) ev_c rv_I0) (rv_ixT (K := K) (ex_t e13 sq1) (by rw [show (1 : Int) + (i : Int) - 1 = (i : Int) by omega]; exact atI_nat (List.getElem?_eq_getElem h1))) : Ev (tOp (rIxT K) (tVar 0) (tOp (rI0 fun i j => .int (i - j)) (tVar 1) (tC (.int 1)))) [some (.ref p), some (.int (1 + (i : Int))), none] H3 us[i]) H3 (Ex.refl H3) _ fun H4 e4 => ⟨2, rfl, ?_⟩
      refine sl_lot (K := K) (ra.ex (e13.trans e4)) fun p1 H5 e5 gp1 => ?_
      have e15 := (e13.trans e4).trans e5
      refine (ev_op (ev_var rfl) (ev_var rfl) (rv_ixT (K := K) (ex_t e15 sq1) (by rw [show (1 : Int) + (i : Int) = ((i + 1 : Nat) : Int) by omega]; exact atI_nat (List.getElem?_eq_getElem h2))) : Ev (tOp (rIxT K) (tVar 0) (tVar 1)) [some (.ref p), some (.int (1 + (i : Int))), none] H5 us[i + 1]) H5 (Ex.refl H5) _ fun H6 e6 => ⟨2, rfl, ?_⟩
      refine sl_lot (K := K) (rb.ex (e15.trans e6)) fun p2 H7 e7 gp2 => ?_
      refine ⟨beastD (la'.1, la'.2.1), beastD (lb'.1, lb'.2.1), dp_pair ((e6.trans e7) _ _ gp1), dp_pair gp2, (nice_beast _).shaped (by decide), (nice_beast _).shaped (by decide), ?_⟩
      rw [beast_eqv, decide_eq_false (show ¬ ((la'.1, la'.2.1) : Int × Int) = (lb'.1, lb'.2.1) from fun z => adj_get ad hla hlb (Prod.mk.inj z))]
      exact k3 H7 (((e4.trans e5).trans e6).trans e7))
    have eB : given (us.length - 1) (fun _ => true) (fun _ => V.bl true) = (List.replicate (us.length - 1) true).map V.bl := by
      rw [given_all _ (fun _ => true)]
      congr 1
      rw [List.eq_replicate_iff]
      refine ⟨by rw [List.length_map, List.length_range], fun b hb => ?_⟩
      obtain ⟨_, _, rfl⟩ := List.mem_map.mp hb
      rfl
    rw [eB] at kB
    exact s_ret (D := { nx := fun _ H' => Q .non H', rt := Q }) (ev_allT kB) fun H2 e2 => q H2 (e1.trans e2)
theorem ok_law_dip {f : Addr} {fd : FuncData} (F : FnP K "_law_dip" s_law_dip f fd) (g : mg "_law_dip" = some (.ref f)) (b : Binds K fd ["_law_script", "_law_k"] []) (m_len : mg "len" = none) (m_abs : mg "abs" = none) (m_int : mg "int" = none) :
    Has P w K mg base 1 "_law_dip" ["_law_script", "_law_k"] (spDip K) f fd := by
  refine ⟨F.ok sc_law_dip (fun vs H Q E h => ?_) (fun cdv A outer s H vs Q E hr h => ?_), g, F.kp, b⟩
  · obtain ⟨a, k, ns, rfl, _⟩ := h
    rfl
  · obtain ⟨a, k, ns, rfl, hS, hk, q⟩ := h
    refine ⟨_, PSs.nox (pss_cons (ps_set (i := 2) sc_law_dip.nd rfl (.inl rfl) (pe_ifExp (pt_cmpR op_lt (pv 1) (pe_callB call_len_seq (by rfl) m_len PySem.boot_len (pa_cons (pv 0) pa_nil)) (nomark _)) (pe_ix ix_list (pv 0) (pv 1) (fun _ _ => rfl)) pe_int))
      (pss_one (ps_ret (pe_lst (pa_cons (pe_op op_mul (pe_callB call_abs (by rfl) m_abs (by decide +kernel) (pa_cons (pv 2) pa_nil)) (pe_callTy call_int1 (by rfl) m_int (by decide +kernel) (pa_cons (pe_cmpR op_ge (pe_callB call_abs (by rfl) m_abs (by decide +kernel) (pa_cons (pv 2) pa_nil)) (pe_op op_pow pe_int pe_int) (nomark _)) pa_nil))) (pa_cons (pe_op op_add (pe_op op_add (pe_op op_modN (pv 2) pe_int) (pe_op op_mul pe_int (pv 1))) pe_int) (pa_cons pe_int pa_nil))))))), ?_⟩
    refine q_asg (v := .int (ns.getD k 0)) (ev_if (b := decide ((k : Int) < ((ns.map V.int).length : Int))) (et_test (ev_op (ev_var rfl) (ev_len (ev_var rfl) hS) rv_I0)) (fun hd => ?_) (fun hd => ?_)) fun H1 e1 => ?_
    · have hk2 : k < ns.length := by
        have := of_decide_eq_true hd
        rw [List.length_map] at this
        omega
      have e : (ns.map V.int)[k]? = some (.int (ns.getD k 0)) := by
        rw [List.getElem?_map, List.getElem?_eq_getElem hk2, List.getD_eq_getElem?_getD, List.getElem?_eq_getElem hk2] <;> rfl
      exact ev_op (ev_var rfl) (ev_var rfl) (rv_ixL hS (atI_nat e))
    · have hk2 : ns.length ≤ k := by
        have := of_decide_eq_false hd
        rw [List.length_map] at this
        omega
      refine ev_is ev_c ?_
      rw [List.getD_eq_getElem?_getD, List.getElem?_eq_none hk2] <;> rfl
    · generalize ns.getD k 0 = c
      have r1 := fmod_lo (a := c) (show (0 : Int) < 2305843009213693951 by decide)
      have r2 := fmod_hi (a := c) (show (0 : Int) < 2305843009213693951 by decide)
      refine s_retL (el_lst (ea_cons (ev_op (ev_cb (ea_cons (ev_var rfl) ea_nil) rc_abs) (ev_cb (ea_cons (ev_op (ev_cb (ea_cons (ev_var rfl) ea_nil) rc_abs) (ev_op ev_c ev_c (rv_I ⟨by decide, by decide, by decide⟩)) rv_I0) ea_nil) rc_intB) (rv_I (.inr ?_))) (ea_cons (ev_op (ev_op (ev_op (ev_var rfl) ev_c (rv_I (by decide))) (ev_op ev_c (ev_var rfl) (rv_I (.inl ⟨by decide, by decide⟩))) rv_I0) ev_c rv_I0) (ea_cons ev_c ea_nil))) (by show 3 ≤ 100000; decide)) fun p H2 hp e2 h2 => ?_
      · exact b01 _
      · refine q p H2 (fresh_back e1 hp) (e1.trans e2) ⟨_, _, _, h2, ?_, by omega, by omega, by decide, by decide⟩
        refine Int.mul_nonneg ?_ ?_
        · split <;> omega
        · exact b01n _
theorem ok_law_take {f : Addr} {fd : FuncData} (F : FnP K "_law_take" s_law_take f fd) (g : mg "_law_take" = some (.ref f)) (b : Binds K fd ["_law_box", "_law_many"] []) : Has P w K mg base 1 "_law_take" ["_law_box", "_law_many"] spTake f fd := by
  refine ⟨F.ok sc_law_take (fun vs H Q E h => ?_) (fun cdv A outer s H vs Q E hr h => ?_), g, F.kp, b⟩
  · obtain ⟨p, m, n, rfl, _⟩ := h
    rfl
  · obtain ⟨p, m, n, rfl, hm, hm2, ⟨a, b, c, hb, ha, hb0, hb1, hc0, hc1⟩, hn, q⟩ := h
    refine ⟨_, PSs.nox (pss_cons (ps_if (pt_cmpR op_gt (pe_ix ix_list (pv 0) pe_int (fun _ _ => rfl)) pe_int (nomark _)) (pss_cons (ps_set (i := 2) sc_law_take.nd rfl (.inl rfl) (pe_op op_modN (pe_ix ix_list (pv 0) pe_int (fun _ _ => rfl)) (pv 1)))
      (pss_cons (ps_asg (pe_op op_fdivW (pe_ix ix_list (pv 0) pe_int (fun _ _ => rfl)) (pv 1)) (pg_sub (pv 0) pe_int set_list))
      (pss_one (ps_ret (pv 2))))) pss_nil)
      (pss_cons (ps_asg (pe_op op_add (pe_ix ix_list (pv 0) pe_int (fun _ _ => rfl)) pe_int) (pg_sub (pv 0) pe_int set_list))
      (pss_cons (ps_set (i := 3) sc_law_take.nd rfl (.inl rfl) (pe_op op_modN (pe_op op_powW (pe_op op_add (pe_ix ix_list (pv 0) pe_int (fun _ _ => rfl)) (pe_op op_mul pe_int (pe_ix ix_list (pv 0) pe_int (fun _ _ => rfl)))) pe_int) pe_int))
      (pss_cons (ps_set (i := 4) sc_law_take.nd rfl (.inl rfl) (pe_op op_modN (pe_op op_mulW (pe_op op_add (pe_op op_add (pv 3) (pe_ix ix_list (pv 0) pe_int (fun _ _ => rfl))) (pe_op op_fdivW (pe_ix ix_list (pv 0) pe_int (fun _ _ => rfl)) pe_int)) (pe_op op_add (pe_op op_add (pe_op op_modN (pv 3) pe_int) pe_int) (pe_ix ix_list (pv 0) pe_int (fun _ _ => rfl)))) pe_int))
      (pss_one (ps_ret (pe_op op_modN (pe_op op_fdivW (pe_op op_modN (pe_op op_add (pe_op op_mul (pv 4) pe_int) (pv 3)) pe_int) pe_int) (pv 1)))))))), ?_⟩
    refine q_when (b := decide (a > 0)) (et_B (ev_op (ev_op (ev_var rfl) ev_c (rv_ixL (sq_of hb) rfl)) ev_c rv_I0)) (fun hd H1 e1 => ?_) (fun hd H1 e1 => ?_)
    · have hb1' := e1 _ _ hb
      refine q_asg (ev_op (ev_op (ev_var rfl) ev_c (rv_ixL (sq_of hb1') rfl)) (ev_var rfl) (rv_I (show m ≠ 0 by omega))) fun H2 e2 => ?_
      have hb2' := e2 _ _ hb1'
      refine q_setL (j := 0) hb2' (ev_op (ev_op (ev_var rfl) ev_c (rv_ixL (sq_of hb2') rfl)) (ev_var rfl) (rv_I (divW_ok hm hm2))) (ev_var rfl) ev_c (by show 0 < 3; decide) fun H3 e3 => ?_
      refine s_ret (ev_var rfl) fun H4 e4 => ?_
      refine q _ H4 (fmod_lo hm) (fmod_hi hm) (((ExB.of ((e1.trans e2).trans e3)).upd).trans (.of e4)) ⟨a / m, b, c, e4 _ _ upd_same, Int.ediv_nonneg ha (by omega), hb0, hb1, hc0, by omega⟩
    · have hb1' := e1 _ _ hb
      refine q_setL (j := 2) hb1' (ev_op (ev_op (ev_var rfl) ev_c (rv_ixL (sq_of hb1') rfl)) ev_c rv_I0) (ev_var rfl) ev_c (by show 2 < 3; decide) fun H2 e2 => ?_
      have hx : upd H2 p (.lst ([V.int a, .int b, .int c].set 2 (.int (c + 1)))) p = some (.lst [V.int a, .int b, .int (c + 1)]) := upd_same
      have eb : ExB p H (upd H2 p (.lst ([V.int a, .int b, .int c].set 2 (.int (c + 1))))) := (ExB.of (e1.trans e2)).upd
      generalize upd H2 p (.lst ([V.int a, .int b, .int c].set 2 (.int (c + 1)))) = H3 at hx eb ⊢
      have hlim : c + 1 ≤ (Lim : Int) + 1 := by omega
      have g1 : CPowW (b + 39373 * (c + 1)) 5 := pow_ok (big_of (by omega) hlim 39373 b (by decide) (by decide) hb0 (by omega))
      have r1 := fmod_lo (a := (b + 39373 * (c + 1)) ^ (5 : Int).toNat) (show (0 : Int) < 2147483647 by decide)
      have r2 := fmod_hi (a := (b + 39373 * (c + 1)) ^ (5 : Int).toNat) (show (0 : Int) < 2147483647 by decide)
      refine q_asg (v := .int (((b + 39373 * (c + 1)) ^ (5 : Int).toNat).fmod 2147483647)) (ev_op (ev_op (ev_op (ev_op (ev_var rfl) ev_c (rv_ixL (sq_of hx) rfl)) (ev_op ev_c (ev_op (ev_var rfl) ev_c (rv_ixL (sq_of hx) rfl)) (rv_I (.inl ⟨by decide, by decide⟩))) rv_I0) ev_c (rv_I g1)) ev_c (rv_I (by decide))) fun H4 e4 => ?_
      generalize ((b + 39373 * (c + 1)) ^ (5 : Int).toNat).fmod 2147483647 = o at r1 r2 ⊢
      have hx4 := e4 _ _ hx
      have d0 : 0 ≤ b / 1000003 := by omega
      have d1 : b / 1000003 ≤ b := by omega
      have g2 : CMulW (o + (c + 1) + b / 1000003) (o.fmod 40009 + 7 + (c + 1)) := by
        have s1 := fmod_lo (a := o) (show (0 : Int) < 40009 by decide)
        have s2 := fmod_hi (a := o) (show (0 : Int) < 40009 by decide)
        have e1 : o + (c + 1) + b / 1000003 = (o + b / 1000003) + 1 * (c + 1) := by omega
        have e2 : o.fmod 40009 + 7 + (c + 1) = (o.fmod 40009 + 7) + 1 * (c + 1) := by omega
        rw [e1, e2]
        exact mulW_ok (big_of (by omega) hlim 1 _ (by decide) (by decide) (by omega) (by omega)) (big_of (by omega) hlim 1 _ (by decide) (by decide) (by omega) (by omega))
      refine q_asg (ev_op (ev_op (ev_op (ev_op (ev_var rfl) (ev_op (ev_var rfl) ev_c (rv_ixL (sq_of hx4) rfl)) rv_I0) (ev_op (ev_op (ev_var rfl) ev_c (rv_ixL (sq_of hx4) rfl)) ev_c (rv_I (divW_ok (by decide) (by decide)))) rv_I0) (ev_op (ev_op (ev_op (ev_var rfl) ev_c (rv_I (by decide))) ev_c rv_I0) (ev_op (ev_var rfl) ev_c (rv_ixL (sq_of hx4) rfl)) rv_I0) (rv_I g2)) ev_c (rv_I (by decide))) fun H5 e5 => ?_
      refine s_ret (ev_op (ev_op (ev_op (ev_op (ev_op (ev_var rfl) ev_c (rv_I (.inr ⟨by decide, by decide⟩))) (ev_var rfl) rv_I0) ev_c (rv_I (by decide))) ev_c (rv_I (divW_ok (by decide) (by decide)))) (ev_var rfl) (rv_I (show m ≠ 0 by omega))) fun H6 e6 => ?_
      refine q _ H6 (fmod_lo hm) (fmod_hi hm) (eb.trans (.of ((e4.trans e5).trans e6))) ⟨a, b, c + 1, e6 _ _ (e5 _ _ hx4), ha, hb0, hb1, by omega, by omega⟩
theorem ok_law_folded {f : Addr} {fd : FuncData} (F : FnP K "_law_folded" s_law_folded f fd) (g : mg "_law_folded" = some (.ref f)) (b : Binds K fd ["_law_script", "_law_many"] []) (m_list : mg "list" = none) (m_enumerate : mg "enumerate" = none) :
    Has P w K mg base 1 "_law_folded" ["_law_script", "_law_many"] (spFolded K) f fd := by
  refine ⟨F.ok sc_law_folded (fun vs H Q E h => ?_) (fun cdv A outer s H vs Q E hr h => ?_), g, F.kp, b⟩
  · obtain ⟨a, k, ns, rfl, _⟩ := h
    rfl
  · obtain ⟨a, m, ns, rfl, hm, hm2, hS, hlen, q⟩ := h
    refine ⟨_, PSs.nox (pss_cons (ps_set (i := 2) sc_law_folded.nd rfl (.inl rfl) (pe_callTy call_list_of (by rfl) m_list (by decide +kernel) (pa_cons (pe_slice sl_list (pv 0) po_none (po_some (pv 1))) pa_nil)))
      (pss_cons (ps_for PassesOwn.never rfl (pi_enum (by rfl) m_enumerate (pa_cons (pe_slice sl_list (pv 0) (po_some (pv 1)) (po_some pe_int)) pa_nil)) (pg_tup rfl (pgs_cons (pg_name (i := 3) sc_law_folded.nd rfl (Or.inl rfl)) (pgs_cons (pg_name (i := 4) sc_law_folded.nd rfl (Or.inl rfl)) pgs_nil)))
        (pss_one (ps_asg (pe_op op_add (pe_ix ix_list (pv 2) (pe_op op_modN (pv 3) (pv 1)) (fun _ _ => rfl)) (pe_op op_mul (pv 4) (pe_op op_add (pv 3) pe_int))) (pg_sub (pv 2) (pe_op op_modN (pv 3) (pv 1)) set_list))))
      (pss_one (ps_ret (pv 2))))), ?_⟩
    refine q_asgL (el_listN (el_sl (ev_var rfl) eo_none (eo_some (ev_var rfl)) hS)) fun l H1 hl e1 h1 => ?_
    rw [cut_to, ← List.map_take] at h1
    obtain ⟨zs, hzs, hzl⟩ := cut_ints ns (some (m : Int)) (some 63)
    rw [HT.sIx_nat] at hzl
    refine q_forE (el_sl (ev_var rfl) (eo_some (ev_var rfl)) (eo_some ev_c) (ex_l e1 hS)) (fun c i σ' H' => ∃ (y3 y4 : Option V) (ms : List Int), σ' = [some (.ref a), some (.int (m : Int)), some (.ref l), y3, y4] ∧ ms.length = min m ns.length ∧ H' l = some (.lst (ms.map V.int)) ∧ H' c = some (.lst (cutV (ns.map V.int) (some (m : Int)) (some 63))) ∧ Ex H H' ∧ l ≠ c) (fun c H2 hc e2 h2 => ?_) (fun c i σ' H' hi p => ?_) (fun c i x σ' H' T hx p hT => ?_) (fun c σ' H' p => ?_)
    · exact ⟨none, none, ns.take m, rfl, by rw [List.length_take], e2 _ _ h1, h2, e1.trans e2, ne_of_none h1 hc⟩
    · obtain ⟨y3, y4, ms, rfl, p1, p2, p3, p4, p5⟩ := p
      exact sq_of p3
    · obtain ⟨y3, y4, ms, rfl, p1, p2, p3, p4, p5⟩ := p
      rw [hzs, List.getElem?_map] at hx
      obtain ⟨z, hz, rfl⟩ := Option.map_eq_some_iff.mp hx
      have hi := (List.getElem?_eq_some_iff.mp hz).1
      have hms : ms.length = m := by omega
      refine ⟨T, _, rfl, st_of upd_same, rfl, _, _, rfl, _, _, rfl, rfl, ?_⟩
      have hlT : l ≠ T := ne_of_none p2 hT
      have h2 : (upd H' T (.tup [.int (i : Nat), .int z])) l = some (.lst (ms.map V.int)) := by
        rw [upd_ne hlT]
        exact p2
      have hj : i % m < ms.length := by
        rw [hms]
        exact Nat.mod_lt _ hm
      have hg : (ms.map V.int)[i % m]? = some (.int (ms[i % m])) := by
        rw [List.getElem?_map, List.getElem?_eq_getElem hj] <;> rfl
      have eI : Ev (tOp (rI (fun _ j => j ≠ 0) fun i j => .int (i.fmod j)) (tVar 3) (tVar 1)) [some (.ref a), some (.int (m : Int)), some (.ref l), some (.int (i : Nat)), some (.int z)] (upd H' T (.tup [.int (i : Nat), .int z])) (.int ((i % m : Nat) : Int)) := ev_is (ev_op (ev_var rfl) (ev_var rfl) (rv_I (show (m : Int) ≠ 0 by omega))) (by rw [fmod_nat])
      refine s_setL (j := i % m) h2 (ev_op (ev_op (ev_var rfl) eI (rv_ixL (sq_of h2) (atI_nat hg))) (ev_op (ev_var rfl) (ev_op (ev_var rfl) ev_c rv_I0) (rv_I (.inr ?_))) rv_I0) (ev_var rfl) eI (by rw [List.length_map]; exact hj) fun H3 e3 => ?_
      · have : zs.length ≤ 63 := by omega
        exact ⟨by omega, by omega⟩
      · refine ⟨some (.int (i : Nat)), some (.int z), ms.set (i % m) (ms[i % m] + z * ((i : Int) + 2)), rfl, by rw [List.length_set]; exact p1, ?_, ?_, ?_, p5⟩
        · rw [upd_same, List.map_set]
        · rw [upd_ne (Ne.symm p5)]
          exact e3 _ _ (Ex.new hT _ _ p3)
        · exact Ex.mut ((p4.trans (Ex.new hT)).trans e3) hl
    · obtain ⟨y3, y4, ms, rfl, p1, p2, p3, p4, p5⟩ := p
      exact s_ret (ev_var rfl) fun H2 e2 => q l H2 ms hl (p4.trans e2) (by omega) (e2 _ _ p2)
theorem ok_law_same {f : Addr} {fd : FuncData} (F : FnP K "_law_same" s_law_same f fd) (g : mg "_law_same" = some (.ref f)) (b : Binds K fd ["_law_found", "_law_due"] []) (m_isinstance : mg "isinstance" = none) (m_list : mg "list" = none) (m_tuple : mg "tuple" = none) (m_bool : mg "bool" = none) (m_str : mg "str" = none) (m_int : mg "int" = none) (m_len : mg "len" = none) (m_all : mg "all" = none) (m_zip : mg "zip" = none) :
    ∀ d, Has P w K mg base d "_law_same" ["_law_found", "_law_due"] (spSame K d) f fd
  | 0 => ⟨has_none, g, F.kp, b⟩
  | d + 1 => by
    have h_law_same := ok_law_same F g b m_isinstance m_list m_tuple m_bool m_str m_int m_len m_all m_zip d
    refine ⟨F.ok sc_law_same (fun vs H Q E h => ?_) (fun cdv A outer s H vs Q E hr h => ?_), g, F.kp, b⟩
    · obtain ⟨x, y, rfl, _⟩ := h
      rfl
    · obtain ⟨x, y, rfl, hA, q⟩ := h
      refine ⟨_, PSs.nox (pss_cons (ps_if (pt_val (pe_callB call_isiT (by rfl) m_isinstance (by decide +kernel) (pa_cons (pv 1) (pa_cons (pe_tup (pa_cons (pe_bltn (v := .ty "list") (by rfl) m_list (by decide +kernel) rfl) (pa_cons (pe_bltn (v := .ty "tuple") (by rfl) m_tuple (by decide +kernel) rfl) pa_nil))) pa_nil)))) (pss_cons (ps_if (PW.pt (pw_or (pt_cmpR op_ne (pe_callB call_isi (by rfl) m_isinstance (by decide +kernel) (pa_cons (pv 0) (pa_cons (pe_bltn (v := .ty "list") (by rfl) m_list (by decide +kernel) rfl) pa_nil))) (pe_callB call_isi (by rfl) m_isinstance (by decide +kernel) (pa_cons (pv 1) (pa_cons (pe_bltn (v := .ty "list") (by rfl) m_list (by decide +kernel) rfl) pa_nil))) (nomark _)) (pw_or1 (pt_cmpR op_ne (pe_callB call_isi (by rfl) m_isinstance (by decide +kernel) (pa_cons (pv 0) (pa_cons (pe_bltn (v := .ty "tuple") (by rfl) m_tuple (by decide +kernel) rfl) pa_nil))) (pe_callB call_isi (by rfl) m_isinstance (by decide +kernel) (pa_cons (pv 1) (pa_cons (pe_bltn (v := .ty "tuple") (by rfl) m_tuple (by decide +kernel) rfl) pa_nil))) (nomark _))))) (pss_one (ps_ret pe_bl)) pss_nil)
      (pss_one (ps_ret (pe_and (pe_cmpR op_eq (pe_callB call_len_seq (by rfl) m_len PySem.boot_len (pa_cons (pv 0) pa_nil)) (pe_callB call_len_seq (by rfl) m_len PySem.boot_len (pa_cons (pv 1) pa_nil)) (nomark _)) (pe_one (pe_callB (cr_all rfl) (by rfl) m_all (by decide +kernel) (pa_cons (pe_lc (own := [("_law_one", 2), ("_law_two", 3)]) (g := gTup K 2 (gCons (gName 2) (gCons (gName 3) gNil))) (by rfl) sc_law_same.nd (pi_zipA (by rfl) m_zip (pa_cons (pv 0) (pa_cons (pv 1) pa_nil))) (blkOk_by (own := [("_law_one", 2), ("_law_two", 3)]) (N := ["_law_found", "_law_due", "_law_one", "_law_two"]) (sc := defScope s_law_same) (by decide +kernel)) (fun _ _ _ _ _ => (pg_tup rfl (pgs_cons (pg_name (i := 2) sc_law_same.nd rfl (Or.inl rfl)) (pgs_cons (pg_name (i := 3) sc_law_same.nd rfl (Or.inl rfl)) pgs_nil)))) (fun _ _ _ _ _ => pts_nil) (fun _ _ _ _ _ => (pe_call h_law_same.G hr (by rfl) h_law_same.g h_law_same.kp h_law_same.b .nil pass0 (pa_cons (pv 2) (pa_cons (pv 3) pa_nil))))) pa_nil))))))) pss_nil)
      (pss_cons (ps_if (PW.pt (pw_or (pt_cmpR op_isN (pv 1) pe_non (nomark _)) (pw_or1 (pt_cmpR op_isN (pv 0) pe_non (nomark _))))) (pss_one (ps_ret (pe_and (pe_cmpR op_isN (pv 1) pe_non (nomark _)) (pe_one (pe_cmpR op_isN (pv 0) pe_non (nomark _)))))) pss_nil)
      (pss_cons (ps_if (PW.pt (pw_or (pt_val (pe_callB call_isi (by rfl) m_isinstance (by decide +kernel) (pa_cons (pv 1) (pa_cons (pe_bltn (v := .ty "bool") (by rfl) m_bool (by decide +kernel) rfl) pa_nil)))) (pw_or1 (pt_val (pe_callB call_isi (by rfl) m_isinstance (by decide +kernel) (pa_cons (pv 1) (pa_cons (pe_bltn (v := .ty "str") (by rfl) m_str (by decide +kernel) rfl) pa_nil))))))) (pss_one (ps_ret (pe_and (pe_cmpR op_eq (pe_callB call_isi (by rfl) m_isinstance (by decide +kernel) (pa_cons (pv 0) (pa_cons (pe_bltn (v := .ty "bool") (by rfl) m_bool (by decide +kernel) rfl) pa_nil))) (pe_callB call_isi (by rfl) m_isinstance (by decide +kernel) (pa_cons (pv 1) (pa_cons (pe_bltn (v := .ty "bool") (by rfl) m_bool (by decide +kernel) rfl) pa_nil))) (nomark _)) (pe_one (pe_cmpR op_eq (pv 0) (pv 1) (nomark _)))))) pss_nil)
      (pss_one (ps_ret (pe_and (pe_callB call_isi (by rfl) m_isinstance (by decide +kernel) (pa_cons (pv 0) (pa_cons (pe_bltn (v := .ty "int") (by rfl) m_int (by decide +kernel) rfl) pa_nil))) (pe_and (pe_not (pe_callB call_isi (by rfl) m_isinstance (by decide +kernel) (pa_cons (pv 0) (pa_cons (pe_bltn (v := .ty "bool") (by rfl) m_bool (by decide +kernel) rfl) pa_nil)))) (pe_one (pe_cmpR op_eq (pv 0) (pv 1) (nomark _)))))))))), ?_⟩
      rcases hA with ⟨rfl, hf⟩ | ⟨a, c, xs, ys, rfl, rfl, h3, h4, h5, h6⟩
      · cases x with
        | int i =>
          refine q_when (et_B (ev_isiT (ev_var rfl) (.int i) kit_int)) (fun hd => by cases hd) fun _ H1 e1 => ?_
          refine q_when (b := false) (et_or (a := false) (b := false) (et_test (ev_op (ev_var rfl) ev_c (rv_isN2 rfl))) fun _ => et_test (ev_op (ev_var rfl) ev_c (rv_isN2 rfl))) (fun hd => by cases hd) fun _ H2 e2 => ?_
          refine q_when (b := false) (et_or (a := false) (b := false) (et_B (ev_isi (T := "int") (C := "bool") (ev_var rfl) (.int i) (by decide +kernel))) fun _ => et_B (ev_isi (T := "int") (C := "str") (ev_var rfl) (.int i) (by decide +kernel))) (fun hd => by cases hd) fun _ H3 e3 => ?_
          refine s_ret (v := .bl true) (ev_andV (a := true) (b := true) (ev_isi (T := "int") (C := "int") (b := true) (ev_var rfl) (.int i) (by decide +kernel)) fun _ => ev_andV (a := true) (b := true) (ev_notV (ev_isi (T := "int") (C := "bool") (b := false) (ev_var rfl) (.int i) (by decide +kernel))) fun _ => ev_is (ev_op (ev_var rfl) (ev_var rfl) (rv_eq rfl)) (by rw [decide_eq_true rfl])) fun H4 e4 => q H4 (((e1.trans e2).trans e3).trans e4)
        | bl i =>
          refine q_when (et_B (ev_isiT (ev_var rfl) (.bl i) kit_bool)) (fun hd => by cases hd) fun _ H1 e1 => ?_
          refine q_when (b := false) (et_or (a := false) (b := false) (et_test (ev_op (ev_var rfl) ev_c (rv_isN2 rfl))) fun _ => et_test (ev_op (ev_var rfl) ev_c (rv_isN2 rfl))) (fun hd => by cases hd) fun _ H2 e2 => ?_
          refine q_when (b := true) (et_or (a := true) (b := true) (et_B (ev_isi (T := "bool") (C := "bool") (ev_var rfl) (.bl i) (by decide +kernel))) fun hd => by cases hd) (fun _ H3 e3 => ?_) (fun hd => by cases hd)
          refine s_ret (v := .bl true) (ev_andV (a := true) (b := true) (ev_op (ev_isi (T := "bool") (C := "bool") (b := true) (ev_var rfl) (.bl i) (by decide +kernel)) (ev_isi (T := "bool") (C := "bool") (b := true) (ev_var rfl) (.bl i) (by decide +kernel)) (rv_eq rfl)) fun _ => ev_is (ev_op (ev_var rfl) (ev_var rfl) (rv_eq rfl)) (by rw [decide_eq_true rfl])) fun H4 e4 => q H4 (((e1.trans e2).trans e3).trans e4)
        | str i =>
          refine q_when (et_B (ev_isiT (ev_var rfl) (.str i) kit_str)) (fun hd => by cases hd) fun _ H1 e1 => ?_
          refine q_when (b := false) (et_or (a := false) (b := false) (et_test (ev_op (ev_var rfl) ev_c (rv_isN2 rfl))) fun _ => et_test (ev_op (ev_var rfl) ev_c (rv_isN2 rfl))) (fun hd => by cases hd) fun _ H2 e2 => ?_
          refine q_when (b := true) (et_or (a := false) (b := true) (et_B (ev_isi (T := "str") (C := "bool") (b := false) (ev_var rfl) (.str i) (by decide +kernel))) fun _ => et_B (ev_isi (T := "str") (C := "str") (b := true) (ev_var rfl) (.str i) (by decide +kernel))) (fun _ H3 e3 => ?_) (fun hd => by cases hd)
          refine s_ret (v := .bl true) (ev_andV (a := true) (b := true) (ev_op (ev_isi (T := "str") (C := "bool") (b := false) (ev_var rfl) (.str i) (by decide +kernel)) (ev_isi (T := "str") (C := "bool") (b := false) (ev_var rfl) (.str i) (by decide +kernel)) (rv_eq rfl)) fun _ => ev_is (ev_op (ev_var rfl) (ev_var rfl) (rv_eq rfl)) (by rw [decide_eq_true rfl])) fun H4 e4 => q H4 (((e1.trans e2).trans e3).trans e4)
        | non =>
          refine q_when (et_B (ev_isiT (ev_var rfl) .non kit_non)) (fun hd => by cases hd) fun _ H1 e1 => ?_
          refine q_when (b := true) (et_or (a := true) (b := true) (et_test (ev_op (ev_var rfl) ev_c (rv_isN2 rfl))) fun _ => et_test (ev_op (ev_var rfl) ev_c (rv_isN2 rfl))) (fun _ H2 e2 => ?_) (fun hd => by cases hd)
          refine s_ret (v := .bl true) (ev_andV (a := true) (b := true) (ev_op (ev_var rfl) ev_c (rv_isN2 rfl)) fun _ => ev_op (ev_var rfl) ev_c (rv_isN2 rfl)) fun H4 e4 => q H4 ((e1.trans e2).trans e4)
        | byt _ => exact hf.elim
        | flt _ => exact hf.elim
        | ref _ => exact hf.elim
        | ty _ => exact hf.elim
      · rcases h3 with ⟨ha, hc⟩ | ⟨ha, hc⟩
        · refine q_when (et_B (ev_isiT (ev_var rfl) (.lst hc) kit_list)) (fun _ H1 e1 => ?_) (fun hd => by cases hd)
          refine q_when (b := false) (et_or (et_test (ev_op (ev_isi (T := "list") (b := true) (ev_var rfl) (.lst (ex_l e1 ha)) (by decide +kernel)) (ev_isi (T := "list") (b := true) (ev_var rfl) (.lst (ex_l e1 hc)) (by decide +kernel)) (rv_ne rfl))) fun _ => et_test (ev_op (ev_isi (T := "list") (b := false) (ev_var rfl) (.lst (ex_l e1 ha)) (by decide +kernel)) (ev_isi (T := "list") (b := false) (ev_var rfl) (.lst (ex_l e1 hc)) (by decide +kernel)) (rv_ne rfl))) (fun hd => by cases hd) fun _ H2 e2 => ?_
          have e12 := e1.trans e2
          refine s_ret (v := .bl true) (ev_andV (a := true) (b := true) (ev_is (ev_op (ev_lenA (ev_var rfl) (.inl (ex_l e12 ha))) (ev_lenA (ev_var rfl) (.inl (ex_l e12 hc))) (rv_eq rfl)) (by rw [h4, decide_eq_true rfl])) fun _ => ev_allT (el_same h4 h5 (.inl ⟨ex_l e12 ha, ex_l e12 hc⟩) fun i u v hu hv => (h6 i u v hu hv).ex e12)) fun H4 e4 => q H4 (e12.trans e4)
        · refine q_when (et_B (ev_isiT (ev_var rfl) (.tup hc) kit_tuple)) (fun _ H1 e1 => ?_) (fun hd => by cases hd)
          refine q_when (b := false) (et_or (et_test (ev_op (ev_isi (T := "tuple") (b := false) (ev_var rfl) (.tup (ex_t e1 ha)) (by decide +kernel)) (ev_isi (T := "tuple") (b := false) (ev_var rfl) (.tup (ex_t e1 hc)) (by decide +kernel)) (rv_ne rfl))) fun _ => et_test (ev_op (ev_isi (T := "tuple") (b := true) (ev_var rfl) (.tup (ex_t e1 ha)) (by decide +kernel)) (ev_isi (T := "tuple") (b := true) (ev_var rfl) (.tup (ex_t e1 hc)) (by decide +kernel)) (rv_ne rfl))) (fun hd => by cases hd) fun _ H2 e2 => ?_
          have e12 := e1.trans e2
          refine s_ret (v := .bl true) (ev_andV (a := true) (b := true) (ev_is (ev_op (ev_lenA (ev_var rfl) (.inr (ex_t e12 ha))) (ev_lenA (ev_var rfl) (.inr (ex_t e12 hc))) (rv_eq rfl)) (by rw [h4, decide_eq_true rfl])) fun _ => ev_allT (el_same h4 h5 (.inr ⟨ex_t e12 ha, ex_t e12 hc⟩) fun i u v hu hv => (h6 i u v hu hv).ex e12)) fun H4 e4 => q H4 (e12.trans e4)
theorem ok_law_packed {f : Addr} {fd : FuncData} (F : FnP K "_law_packed" s_law_packed f fd) (g : mg "_law_packed" = some (.ref f)) (b : Binds K fd ["_law_lots"] []) (m_tuple : mg "tuple" = none) : Has P w K mg base 1 "_law_packed" ["_law_lots"] (spPackA K) f fd := by
  refine ⟨F.ok sc_law_packed (fun vs H Q E h => ?_) (fun cdv A outer s H vs Q E hr h => ?_), g, F.kp, b⟩
  · obtain ⟨a, us, ls, rfl, _⟩ := h
    rfl
  · obtain ⟨a, us, ls, rfl, sq, la, hl, q⟩ := h
    have hu : (A.deeper (envOfC "_law_packed" (defScope s_law_packed) s.heap.objs.size f cdv)).units + 64 < cLine := by
      have := hr.un
      omega
    refine ⟨_, PSs.nox (pss_cons (ps_set (i := 1) sc_law_packed.nd rfl (.inl rfl) (pe_lst pa_nil))
      (pss_cons (ps_for PassesOwn.never rfl (pi_seqA (pv 0)) (pg_tup rfl (pgs_cons (pg_name (i := 2) sc_law_packed.nd rfl (Or.inl rfl)) (pgs_cons (pg_name (i := 3) sc_law_packed.nd rfl (Or.inl rfl)) (pgs_cons (pg_name (i := 4) sc_law_packed.nd rfl (Or.inl rfl)) pgs_nil))))
        (Evl.pss_cut (ps_if (PW.pt (pw_and (pt_cmpR (op_neD hr.units) (pv 1) (pe_lst pa_nil) (nomark _)) (pw_and1 (pt_cmpR (op_eqD hu) (pe_slice sl_tupA (pe_ix ix_list (pv 1) (pe_un un_neg pe_int) (fun _ _ => rfl)) po_none (po_some pe_int)) (pe_tup (pa_cons (pv 2) (pa_cons (pv 3) pa_nil))) (nomark _))))) (pss_one (ps_set (i := 4) sc_law_packed.nd rfl (.inl rfl) (pe_op op_add (pv 4) (pe_ix ix_tup (pe_bm0 PySem.F.plainAttrs_list PySem.F.slot_list_pop PySem.F.type_list_pop mt_pop (pv 1)) pe_int (fun _ _ => rfl))))) pss_nil)
      (pss_one (ps_expr (pe_bm PySem.F.plainAttrs_list PySem.F.slot_list_append PySem.F.type_list_append mt_append (pv 1) (pa_cons (pe_tup (pa_cons (pv 2) (pa_cons (pv 3) (pa_cons (pv 4) pa_nil)))) pa_nil))))))
      (pss_one (ps_ret (pe_tupleOf (by rfl) m_tuple (pv 1)))))), ?_⟩
    refine q_asgL (el_lst ea_nil (by decide)) fun hd H1 hhd e1 g1 => ?_
    refine q_forSA (K := K) (xs := us) (ev_var (i := 0) rfl) e1 sq (fun k σ' H' => ∃ (y2 y3 y4 : Option V) (ws : List V), σ' = [some (.ref a), some (.ref hd), y2, y3, y4] ∧ Ex H H' ∧ H' hd = some (.lst ws) ∧ LotsA K H' ws (packL (ls.take k))) (fun H2 e2 => ⟨_, _, _, [], rfl, e1.trans e2, e2 _ _ g1, .nil⟩) (fun k σ' H' _ hW => ?_) (fun k x σ' H2 hx hW => ?_) (fun σ' H2 hW => ?_)
    · obtain ⟨y2, y3, y4, ws, rfl, c1, c2, c3⟩ := hW
      exact c1
    · obtain ⟨y2, y3, y4, ws, rfl, e2, g2, l2⟩ := hW
      obtain ⟨⟨st, tl, mn⟩, hlk, p, rfl, sqp⟩ := All2.get la hx
      refine ⟨p, _, rfl, ex_t e2 sqp, rfl, _, _, rfl, _, _, rfl, _, _, rfl, rfl, ?_⟩
      have lenp := packL_len (ls.take k)
      rw [List.length_take] at lenp
      rw [packL_take hlk] at *
      generalize packL (ls.take k) = acc at l2 lenp
      have wl : ws.length ≤ 1000 := by rw [All2.len l2]; omega
      dsimp only
      have tst : EvT (tAnd (tTest (tOp (rNeD K) (tVar 1) (tLst tNil))) (tTest (tOp (rEqD K) (tSl (rSlA K) (tOp (rIxL K) (tVar 1) (tUn (rU fun i => .int (-i)) (tC (.int 1)))) tNoPart (tPart (tC (.int 2)))) (tTup (tCons (tVar 2) (tCons (tVar 3) tNil)))))) [some (V.ref a), some (.ref hd), some (.int st), some (.int tl), some (.int mn)] H2 (alikeB acc st tl) := by
        have nl : ∀ d ∈ acc.map (fun l => PyData.tuple [.int l.1, .int l.2.1, .int l.2.2]), Nice 1 d := fun d hd => by
          obtain ⟨l, _, rfl⟩ := List.mem_map.mp hd
          exact nice_tuple (nice_ints [l.1, l.2.1, l.2.2])
        have t1 := et_neNil (K := K) (te := tVar 1) (σ := [some (V.ref a), some (.ref hd), some (.int st), some (.int tl), some (.int mn)]) (ev_var rfl) (sq_of g2) (dp_lots l2) nl (by decide)
        rcases List.eq_nil_or_concat acc with z | ⟨pre, l, z⟩
        · subst z
          cases l2
          exact et_and (a := false) (b := false) t1 fun z => by cases z
        · rw [List.concat_eq_append] at z
          subst z
          have ne : (!ws.isEmpty) = true := by
            have : ws.length = pre.length + 1 := by rw [All2.len l2, List.length_append]; rfl
            cases ws with
            | nil => cases this
            | cons _ _ => rfl
          rw [ne] at t1
          rw [alike_snoc]
          exact et_and (a := true) (b := decide (l.1 = st ∧ l.2.1 = tl)) t1 fun _ => et_test (ev_last2 (K := K) (ih := 1) (is := 2) (it := 3) rfl rfl rfl g2 l2)
      refine q_cut (M := fun σ' H' => ∃ (ws' : List V), σ' = [some (.ref a), some (.ref hd), some (.int st), some (.int tl), some (.int (befL acc st tl + mn))] ∧ Ex H H' ∧ H' hd = some (.lst ws') ∧ LotsA K H' ws' (popL acc st tl)) ?_ (fun σ' H4 hM => ?_)
      · refine tst H2 (Ex.refl H2) _ fun H3 e3 => ?_
        have g3 := e3 _ _ g2
        have l3 := l2.ex' e3
        have e03 := e2.trans e3
        refine ite2 (fun hc => ?_) (fun hc => ?_)
        · obtain ⟨pre, m, rfl⟩ := alike_ex hc
          obtain ⟨w1, w2, rfl, h1, h2⟩ := All2.split l3
          cases h2 with
          | cons ry nl =>
            cases nl
            obtain ⟨yp, rfl, sqy⟩ := ry
            refine ⟨.int mn, rfl, .ref hd, rfl, .inl ⟨rfl, _, sq_of g3⟩, hd, _, .ref yp, rfl, rfl, g3, by rw [List.length_append]; show (w1 ++ _)[w1.length + 1 - 1]? = _; rw [Nat.add_sub_cancel, List.getElem?_append_right (Nat.le_refl _), Nat.sub_self]; rfl, ?_⟩
            rw [show (w1 ++ [V.ref yp]).dropLast = w1 from List.dropLast_concat ..]
            have x4 : ExB hd H3 (upd H3 hd (.lst w1)) := (ExB.refl _ _).upd
            refine ⟨yp, _, 2, .int m, rfl, rfl, x4.t g3 sqy, rfl, _, _, rfl, rfl, w1, ?_, Ex.mut e03 hhd, upd_same, ?_⟩
            · unfold befL
              rw [if_pos hc, List.getLast?_concat]
              show _ = [_, _, _, _, some (V.int (m + mn))]
              rw [Int.add_comm m mn]
              rfl
            · unfold popL
              rw [if_pos hc, List.dropLast_concat]
              exact LotsA.exB' h1 x4 g3
        · refine ⟨ws, ?_, e03, g3, ?_⟩
          · unfold befL
            rw [if_neg hc, Int.zero_add]
            rfl
          · unfold popL
            rw [if_neg hc]
            exact l3
      obtain ⟨ws', rfl, e4, g4, l4⟩ := hM
      have pl : (popL acc st tl).length ≤ acc.length := by
        unfold popL
        split
        · rw [List.length_dropLast]; omega
        · exact Nat.le_refl _
      refine s_appU g4 (ev_var rfl) (eu_tup (ea_cons (ev_var rfl) (ea_cons (ev_var rfl) (ea_cons (ev_var rfl) ea_nil))) (by show 3 ≤ 100000; decide)) (by rw [All2.len l4]; omega) fun T H5 hT e5 h5 => ?_
      have g5 := e5 _ _ g4
      have x6 : ExB hd H5 (upd H5 hd (.lst (ws' ++ [.ref T]))) := (ExB.refl _ _).upd
      refine ⟨_, _, _, ws' ++ [.ref T], rfl, Ex.mut (e4.trans e5) hhd, upd_same, ?_⟩
      exact LotsA.exB' (All2.app (l4.ex' e5) (.cons ⟨T, rfl, st_of h5⟩ .nil)) x6 g5
    · obtain ⟨y2, y3, y4, ws, rfl, e2, g2, l2⟩ := hW
      rw [All2.len la, List.take_length] at l2
      refine ⟨.ref hd, rfl, .inl ⟨hd, _, rfl, sq_of g2, fun rt hrt => q (.ref rt) _ (e2.trans (Ex.new hrt)) ⟨rt, ws, rfl, st_of upd_same, l2.ex' (Ex.new hrt)⟩⟩⟩
end
end K79
set_option maxHeartbeats 4000000
namespace HH
open PySem PySem.Spec PyProof.Rows L2 Evl RZ
def ItzW (K : PySem.W.Frag) (a b : Addr) : It :=
  ⟨fun i H => ∃ (xs ys : List V) (x y : V), SqT K H a xs ∧ SqL K H b ys ∧ xs[i]? = some x ∧ ys[i]? = some y,
   fun i H v H' => ∃ T x y, v = .ref T ∧ H T = none ∧ H' = upd H T (.tup [x, y]) ∧ (∀ xs, SqT K H a xs → xs[i]? = some x) ∧ (∀ ys, SqL K H b ys → ys[i]? = some y),
   fun i H => ∃ xs ys : List V, SqT K H a xs ∧ SqL K H b ys ∧ xs.length = ys.length ∧ xs.length = i⟩
def MixSw (z TI TO i1 i2 a b : Addr) (i : Nat) (h : Heap) : Prop := IsZip h z TI TO .none ∧ IsTupOf2 h TI (.ref i1) (.ref i2) ∧ (∃ x y, IsTupOf2 h TO x y) ∧ h.IsTupleIter i1 a i ∧ h.IsListIter i2 b i
theorem MixSw.objs {z TI TO i1 i2 a b : Addr} {i : Nat} {h : Heap} (m : MixSw z TI TO i1 i2 a b i h) : ∀ c ∈ [z, TI, TO, i1, i2], ∃ ob, h.get? c = some ob ∧ ∀ v, ob.data ≠ .cell v := fun c hc => by
  obtain ⟨m1, m2, ⟨_, _, m3⟩, ⟨p1, g1, _, d1⟩, ⟨p2, g2, _, d2⟩⟩ := m
  rcases five hc with rfl | rfl | rfl | rfl | rfl
  · exact ⟨_, m1, fun v q => by cases q⟩
  · exact ⟨_, m2, fun v q => by cases q⟩
  · exact ⟨_, m3, fun v q => by cases q⟩
  · exact ⟨p1, g1, fun v q => by rw [d1] at q; cases q⟩
  · exact ⟨p2, g2, fun v q => by rw [d2] at q; cases q⟩
theorem turn_zipW {P : Program} {w : World} {K : PySem.W.Frag} {elts : List Expr} {kk : Nat} {tpos : Pos} {a b z TI TO i1 i2 : Addr} (S : ZipSep2 z TI TO i1 i2 [i1, a] [i2, b]) (na : a ≠ i1) (nb : b ≠ i2) :
    Turn P w K (.Tuple elts kk tpos) (ItzW K a b) [z, TI, TO, i1, i2] z (MixSw z TI TO i1 i2 a b) where
  mem := List.mem_cons_self ..
  obj := fun i h st c hc => st.objs c hc
  keep := fun i h h' st k => by
    obtain ⟨m1, m2, ⟨x, y, m3⟩, m4, m5⟩ := st
    exact ⟨k z (by simp) _ m1, k TI (by simp) _ m2, ⟨x, y, k TO (by simp) _ m3⟩, m4.at fun o q => k i1 (by simp) o q, m5.at fun o q => k i2 (by simp) o q⟩
  item := by
    intro X eP eW eK hc i pins st σ H E inv free mix goes
    subst eP eW eK
    obtain ⟨m1, m2, ⟨x0, y0, m3⟩, m4, m5⟩ := id mix
    obtain ⟨xs, ys, x, y, hxs, hys, hx, hy⟩ := goes
    obtain ⟨vx, rx, px, _⟩ := inv.tuple hxs
    obtain ⟨vy, ry, py, _⟩ := inv.list hys
    obtain ⟨u, hu, ru⟩ := rx.get hx
    obtain ⟨t, htt, rt⟩ := ry.get hy
    have old : ∀ c ∈ [z, TI, TO, i1, i2], c < st.heap.objs.size := fun c hcm => by
      obtain ⟨ob, got, _⟩ := mix.objs c hcm
      exact Heap.lt_size got
    have px' : st.heap.IsTuple a vx.toArray := px
    refine wpAny_pyNext_zipD2_item S (Draws.tuple (A := X.A.in1) (inv.ok.hd hc) i1 a na vx.toArray) (Draws.list (A := X.A.in1) (inv.ok.hd hc) i2 b nb vy.toArray) m1 m2 m3 ⟨m4, px'⟩ ⟨m5, py.isList⟩ (by have := (List.getElem?_eq_some_iff.mp hu).1; simpa using this) (by have := (List.getElem?_eq_some_iff.mp htt).1; simpa using this) fun y1 y2 h' tk hy1 hy2 z' TO' s1' s2' hT hsz hk => ?_
    have e1 : y1 = u := by
      have hh : vx.toArray[i]? = some u := by simpa using hu
      exact Option.some.inj (hy1.symm.trans hh)
    have e2 : y2 = t := by
      have hh : vy.toArray[i]? = some t := by simpa using htt
      exact Option.some.inj (hy2.symm.trans hh)
    subst e1 e2
    refine ⟨_, rfl, wpAny_letOwnedTupleGo_zip (s := { st with heap := h', toks := tk }) z' fun g z2 but => ?_⟩
    have zlt : z < st.heap.objs.size := old z (by simp)
    have made : g.get? st.heap.objs.size = some { cls := .type "tuple", data := .seq #[y1, y2] } := (but.2 _ (Nat.ne_of_gt zlt)).trans hT
    have okT : ObjOk X.prog X.w (upd H st.heap.objs.size (.tup [x, y])) g st.heap.objs.size (.tup [x, y]) := ⟨by show 2 ≤ sizeLine; decide, [y1, y2], .cons ru (.cons rt .nil), ⟨_, made, rfl, _, rfl⟩⟩
    have inv2 : Inv X pins σ (upd H st.heap.objs.size (.tup [x, y])) { st with heap := g, toks := tk } :=
      inv.turnedNew (ch := [z, TI, TO, i1, i2]) (fun c o out q => (but.2 c (fun q' => out (by simp [q']))).trans (hk c o (fun q' => out (by simp [q'])) (fun q' => out (by simp [q'])) (fun q' => out (by simp [q'])) (fun q' => out (by simp [q'])) q)) free (Nat.le_refl _) okT
    have zi1 : i1 ≠ z := fun e => S.zf1 (by rw [← e]; exact S.mem1)
    have zi2 : i2 ≠ z := fun e => S.zf2 (by rw [← e]; exact S.mem2)
    refine ⟨.ref st.heap.objs.size, _, inv2, rfl, ⟨_, x, y, rfl, inv.hok.fresh (Nat.le_refl _), rfl, fun l hl => by rw [inv.tuple_inj hl hxs]; exact hx, fun l hl => by rw [inv.list_inj hl hys]; exact hy⟩, ⟨z2, (but.2 _ S.TIz).trans (hk _ _ S.TIz S.TITO S.TIi1 S.TIi2 m2), ⟨y1, y2, (but.2 _ S.TOz).trans TO'⟩, s1'.1.at fun o q => (but.2 _ zi1).trans q, s2'.1.at fun o q => (but.2 _ zi2).trans q⟩, fun c hcm => ?_⟩
    rw [upd_ne (Nat.ne_of_lt (old c hcm))]
    exact (free c hcm).1
  done := by
    intro X eP eW eK hc i pins st σ H E inv free mix ends
    subst eP eW eK
    obtain ⟨m1, m2, ⟨x0, y0, m3⟩, m4, m5⟩ := mix
    obtain ⟨xs, ys, hxs, hys, hl, hi⟩ := ends
    obtain ⟨vx, rx, px, _⟩ := inv.tuple hxs
    obtain ⟨vy, ry, py, _⟩ := inv.list hys
    have px' : st.heap.IsTuple a vx.toArray := px
    have n1 : vx.toArray.size = i := by
      have := rx.length
      rw [List.size_toArray]
      omega
    have n2 : vy.toArray.size = i := by
      have := ry.length
      rw [List.size_toArray]
      omega
    exact wpAny_pyNext_zipD2_end S (Draws.tuple (A := X.A.in1) (inv.ok.hd hc) i1 a na vx.toArray) (Draws.list (A := X.A.in1) (inv.ok.hd hc) i2 b nb vy.toArray) m1 m2 m3 ⟨m4, px'⟩ ⟨m5, py.isList⟩ (Nat.le_of_eq n1.symm) (Nat.le_of_eq n2.symm) (.inl n1.symm) fun h' tk hk => ⟨rfl, inv.turnedL (ch := [z, TI, TO, i1, i2]) (fun c o out q =>
      hk c o (fun q' => out (by simp [q'])) (fun q' => out (by simp [q'])) (fun q' => out (by simp [q'])) (fun q' => out (by simp [q'])) q) free⟩
  self := fun A i s Q E st h => wpAny_pyIter_zip st.1 h
def iZipW (K : PySem.W.Frag) (ta : TA) : TI := fun σ H R => ta σ H fun vs H1 => ∃ a b xs ys, vs = [.ref a, .ref b] ∧ SqT K H1 a xs ∧ SqL K H1 b ys ∧ R (ItzW K a b) H1
theorem pi_zipW {X : Cx} {e e2 : Expr} {ta : TA} {p pos tpos : Pos} {elts : List Expr} {kk : Nat} (hg : Gl X "zip") (hm : X.mg "zip" = none) (ha : PA X [e, e2] ta)
    (hs : starEach [e, e2] X.env = (false, eval e X.env) :: starEach [e2] X.env := by rfl) (hpl : (backTo pos (starEach [e2] X.env)).any (·.1) = false := by rfl) : PI X (.Tuple elts kk tpos) (.Call (.Name "zip" p) [e, e2] [] pos) (iZipW X.K ta) := by
  refine ⟨fun pins st σ H R inv h => ?_⟩
  refine Call_ (ld_blt inv hg hm PyProof.Rows.boot_zip (PyProof.Rows.callWith_type1 (thn (ha.run pos pins st σ H _ inv h) fun us s1 ⟨vs, H1, I1, rel, q1⟩ => ?_) hs hpl))
  obtain ⟨a, b, xs, ys, rfl, hxs, hys, q⟩ := q1
  cases rel with
  | cons r1 rest =>
    cases rest with
    | cons r2 rest =>
      cases rest
      cases r1
      cases r2
      obtain ⟨vx, rx, px, _⟩ := I1.tuple hxs
      obtain ⟨vy, ry, py, _⟩ := I1.list hys
      have px' : s1.heap.IsTuple a vx.toArray := px
      have lb : b < s1.heap.objs.size := py.lt
      have la : a < s1.heap.objs.size := by
        obtain ⟨o2, ho2, _⟩ := px'
        exact Heap.lt_size ho2
      refine zip_begins2 (begins_tuple a vx.toArray) (begins_list b vy.toArray) px' py.isList fun h' z1 t1 t2 g1 g2 hsz hk => wpAny_pyIter_zip z1 ?_
      have I2 : Inv X pins σ H1 { s1 with heap := h' } := I1.kept (t' := s1.toks) hk
      refine ⟨s1.heap.objs.size + 4, [s1.heap.objs.size + 4, s1.heap.objs.size + 2, s1.heap.objs.size + 3, s1.heap.objs.size, s1.heap.objs.size + 1], _, _, H1, rfl, I2, turn_zipW (zip_sep2 (fp1 := [a]) (fp2 := [b]) (fun c hc => ?_) (fun c hc => ?_)) (Nat.ne_of_lt la) (Nat.ne_of_lt (Nat.lt_succ_of_lt lb)), ⟨z1, t1, ⟨_, _, t2⟩, ⟨_, g1, rfl, rfl⟩, ⟨_, g2, rfl, rfl⟩⟩, fun c hc => ?_, q⟩
      · rw [List.mem_singleton.mp hc]
        exact la
      · rw [List.mem_singleton.mp hc]
        exact lb
      · have up : s1.heap.objs.size ≤ c := by
          rcases five hc with rfl | rfl | rfl | rfl | rfl
          · omega
          · omega
          · omega
          · exact Nat.le_refl _
          · omega
        exact I1.fpOk up (I1.hok.fresh up)
theorem walk_zipW {K : PySem.W.Frag} {a b : Addr} {xs ys : List V} (hl : xs.length = ys.length) : Walk (ItzW K a b) xs.length (fun H => SqT K H a xs ∧ SqL K H b ys) (YPair (fun i => xs[i]?) (fun i => ys[i]?)) := by
  refine ⟨fun i _ hi g => ⟨xs, ys, xs[i], ys[i], g.1, g.2, List.getElem?_eq_getElem hi, List.getElem?_eq_getElem (by omega)⟩, fun _ g => ⟨xs, ys, g.1, g.2, hl, rfl⟩, fun i H v H' _ g y => ?_⟩
  obtain ⟨T, x, z, h1, h2, h3, h4, h5⟩ := y
  exact ⟨T, x, z, h1, h2, h3, h4 xs g.1, h5 ys g.2⟩
end HH
set_option maxHeartbeats 4000000
namespace HH
open PySem PySem.Spec PyProof.Rows L2 Evl RZ
def EvHd (K : PySem.W.Frag) (te : TE) (σ : L2.St) (H : Hp) (ls : List Lot) : Prop := ∀ H1, Ex H H1 → ∀ Q : VK, (∀ v H2, Ex H1 H2 → HerdAt K H2 v ls → Q v H2) → te σ H1 Q
def EvHds (K : PySem.W.Frag) (ta : TA) (σ : L2.St) (H : Hp) (lss : List (List Lot)) : Prop := ∀ H1, Ex H H1 → ∀ Q : List V → Hp → Prop, (∀ us H2, Ex H1 H2 → All2 (HerdAt K H2) us lss → Q us H2) → ta σ H1 Q
def EvLs (K : PySem.W.Frag) (te : TE) (σ : L2.St) (H : Hp) (ls : List Lot) : Prop := ∀ H1, Ex H H1 → ∀ Q : VK, (∀ q ws H2, H1 q = none → Ex H1 H2 → H2 q = some (.lst ws) → LotsA K H2 ws ls → Q (.ref q) H2) → te σ H1 Q
def dLot (l : Lot) : PyData := .tuple [.int l.1, .int l.2.1, .int l.2.2]
def dHerd (ls : List Lot) : PyData := .tuple (ls.map dLot)
section
variable {K : PySem.W.Frag} {H H' H0 H1 H2 : Hp} {σ : L2.St} {te ta tb tc ti : TE} {tr : TA} {D : Ends} {v : V} {ls ms : List Lot} {tz : TS}
theorem hd_val (h : Ev te σ H v) (hv : HerdAt K H v ls) : EvHd K te σ H ls := fun H1 e1 Q q => h H1 e1 _ fun H2 e2 => q v H2 e2 (hv.ex (e1.trans e2))
theorem hd_call1 {f : List Lot → List Lot} {E : XK} (h : Ev te σ H v) (hv : HerdAt K H v ls) (ft : Fit ls) : EvHd K (tCall (spHerd1 K f) [] E (tCons te tNil)) σ H (packL (f ls)) := fun H1 e1 Q q => h H1 e1 _ fun H2 e2 => ⟨v, ls, rfl, hv.ex (e1.trans e2), ft, fun z H3 e3 hz => q z H3 (e2.trans e3) hz⟩
theorem hd_callP {E : XK} (h : EvLs K te σ H ls) (hl : ls.length ≤ 1000) : EvHd K (tCall (spPackA K) [] E (tCons te tNil)) σ H (packL ls) := fun H1 e1 Q q => h H1 e1 _ fun p ws H2 hp e2 g2 l2 => ⟨p, ws, ls, rfl, .inl (sq_of g2), l2, hl, fun z H3 e3 hz => q z H3 (e2.trans e3) hz⟩
theorem hd_tup (h : EvLs K te σ H ls) : EvHd K (tThen te (kTup K)) σ H ls := fun H1 e1 Q q => h H1 e1 _ fun p ws H2 hp e2 g2 l2 => .inl ⟨p, ws, rfl, sq_of g2, fun c hc => q (.ref c) _ (e2.trans (Ex.new hc)) ⟨c, ws, rfl, st_of upd_same, LotsA.ex' l2 (Ex.new hc)⟩⟩
theorem hds_nil : EvHds K tNil σ H [] := fun H1 e1 Q q => q [] H1 (Ex.refl H1) .nil
theorem hds_cons {lss : List (List Lot)} (h : EvHd K te σ H ls) (hr : EvHds K tr σ H lss) : EvHds K (tCons te tr) σ H (ls :: lss) := fun H1 e1 Q q => h H1 e1 _ fun v H2 e2 hv => hr H2 (e1.trans e2) _ fun us H3 e3 b => q (v :: us) H3 (e2.trans e3) (.cons (hv.ex e3) b)
theorem herd_dp (h : HerdAt K H v ls) : Dp K H v (dHerd ls) := by
  obtain ⟨a, us, rfl, h2, h3⟩ := h
  exact .tup h2 (dp_lots h3)
theorem ex_hd (h : EvHd K te σ H ls) : EvX K te σ H (dHerd ls) := fun H1 e1 Q q => h H1 e1 _ fun v H2 e2 hv => q v H2 e2 (herd_dp hv)
theorem nice_herd (ls : List Lot) : Nice 2 (dHerd ls) := nice_tuple fun d hd => by
  obtain ⟨l, _, rfl⟩ := List.mem_map.mp hd
  exact nice_tuple (nice_ints [l.1, l.2.1, l.2.2])
theorem ok_herdD {ls : List Lot} (h : ls.length ≤ 40000) : okV 2 (dHerd ls) := .inr ⟨_, .inr rfl, by rw [List.length_map]; exact h, fun e he => by
  obtain ⟨l, _, rfl⟩ := List.mem_map.mp he
  refine .inr ⟨_, .inr rfl, by show 3 ≤ 40000; decide, fun e he => ?_⟩
  rcases List.mem_cons.mp he with rfl | he
  · trivial
  · rcases List.mem_cons.mp he with rfl | he
    · trivial
    · rw [List.mem_singleton.mp he]
      trivial⟩
theorem et_neX {k : Nat} {d : PyData} (h1 : EvX K ta σ H d) (h2 : ∀ H1, Ex H H1 → EvX K tb σ H1 d) (n : Nice k d) (hk : k < 64) : EvT (tTest (tOp (rNeD K) ta tb)) σ H false := fun H1 e1 Q q =>
  h1 H1 e1 _ fun u H2 e2 du => h2 H2 (e1.trans e2) H2 (Ex.refl _) _ fun v H3 e3 dv => rv_neD (dp_ex e3 du) dv n hk H3 (Ex.refl _) _ fun H4 e4 => ⟨false, rfl, q H4 ((e2.trans e3).trans e4)⟩
theorem ev_eqX {k : Nat} {d : PyData} (h1 : EvX K ta σ H d) (h2 : ∀ H1, Ex H H1 → EvX K tb σ H1 d) (n : Nice k d) (hk : k < 64) : Ev (tOp (rEqD K) ta tb) σ H (.bl true) := fun H1 e1 Q q =>
  h1 H1 e1 _ fun u H2 e2 du => h2 H2 (e1.trans e2) H2 (Ex.refl _) _ fun v H3 e3 dv => by
    refine ⟨d, d, dp_ex e3 du, dv, n.shaped (by omega), n.shaped (by omega), ?_⟩
    rw [SeqAt.eqv_refl _ n.1]
    exact q H3 (e2.trans e3)
theorem hd_to {j : Nat} {i : Int} (h : EvHd K te σ H ls) (hi : Ev ti σ H (.int i)) (hj : i = (j : Int)) : EvHd K (tSl (rSlA K) te tNoPart (tPart ti)) σ H (ls.take j) := fun H1 e Q q =>
  h H1 e _ fun v H2 e2 hv => hi H2 (e.trans e2) _ fun H3 e3 => by
    obtain ⟨a, vs, rfl, h1, h2⟩ := hv.ex e3
    subst hj
    refine ⟨(j : Int), rfl, a, vs, rfl, h1, fun z => ?_, fun _ p hp => ?_⟩
    · have e0 := cut_all z
      rw [cut_to] at e0
      refine q _ H3 (e2.trans e3) ⟨a, vs, rfl, h1, ?_⟩
      have h3 := all2_take j h2
      rw [e0] at h3
      exact h3
    · refine q _ _ ((e2.trans e3).trans (Ex.new hp)) ⟨p, _, rfl, st_of upd_same, ?_⟩
      rw [cut_to]
      exact LotsA.ex' (all2_take j h2) (Ex.new hp)
theorem hd_from {j : Nat} {i : Int} (h : EvHd K te σ H ls) (hi : Ev ti σ H (.int i)) (hj : i = (j : Int)) : EvHd K (tSl (rSlA K) te (tPart ti) tNoPart) σ H (ls.drop j) := fun H1 e Q q =>
  h H1 e _ fun v H2 e2 hv => hi H2 (e.trans e2) _ fun H3 e3 => by
    obtain ⟨a, vs, rfl, h1, h2⟩ := hv.ex e3
    subst hj
    refine ⟨(j : Int), rfl, a, vs, rfl, h1, fun z => ?_, fun _ p hp => ?_⟩
    · have e0 := cut_all z
      rw [cut_from] at e0
      refine q _ H3 (e2.trans e3) ⟨a, vs, rfl, h1, ?_⟩
      have h3 := all2_drop j h2
      rw [e0] at h3
      exact h3
    · refine q _ _ ((e2.trans e3).trans (Ex.new hp)) ⟨p, _, rfl, st_of upd_same, ?_⟩
      rw [cut_from]
      exact LotsA.ex' (all2_drop j h2) (Ex.new hp)
theorem hd_cat (ha : EvHd K ta σ H ls) (hb : EvHd K tb σ H ms) (hl : ls.length + ms.length ≤ 100000) : EvHd K (tOp (rCatA K) ta tb) σ H (ls ++ ms) := fun H1 e Q q =>
  ha H1 e _ fun v H2 e2 hv => hb H2 (e.trans e2) _ fun u H3 e3 hu => by
    obtain ⟨a, vs, rfl, h1, h2⟩ := hv.ex e3
    obtain ⟨b, us, rfl, g1, g2⟩ := hu
    refine ⟨a, b, vs, us, rfl, rfl, h1, g1, by rw [All2.len h2, All2.len g2]; exact sz_of hl, fun z => ?_, fun _ z => ?_, fun _ _ p hp => ?_⟩
    · subst z
      cases h2
      exact q _ H3 (e2.trans e3) ⟨b, us, rfl, g1, g2⟩
    · subst z
      cases g2
      rw [List.append_nil] at q
      exact q _ H3 (e2.trans e3) ⟨a, vs, rfl, h1, h2⟩
    · exact q _ _ ((e2.trans e3).trans (Ex.new hp)) ⟨p, _, rfl, st_of upd_same, LotsA.ex' (All2.app h2 g2) (Ex.new hp)⟩
theorem hd_one {x y z : Int} (h1 : Ev ta σ H (.int x)) (h2 : Ev tb σ H (.int y)) (h3 : Ev tc σ H (.int z)) : EvHd K (tTup (tCons (tTup (tCons ta (tCons tb (tCons tc tNil)))) tNil)) σ H [(x, y, z)] := fun H1 e1 Q q =>
  h1 H1 e1 _ fun H2 e2 => h2 H2 (e1.trans e2) _ fun H3 e3 => h3 H3 ((e1.trans e2).trans e3) _ fun H4 e4 => ⟨by show 3 ≤ sizeLine; decide, fun T hT => ⟨by show 1 ≤ sizeLine; decide, fun U hU => by
    have e5 := Ex.new (o := .tup [V.int x, .int y, .int z]) hT
    have e6 := Ex.new (o := .tup [V.ref T]) hU
    exact q _ _ ((((e2.trans e3).trans e4).trans e5).trans e6) ⟨U, _, rfl, st_of upd_same, .cons ⟨T, rfl, st_of (e6 _ _ upd_same)⟩ .nil⟩⟩⟩
theorem s_retH (h : EvHd K te σ H ls) (k : ∀ v H1, Ex H H1 → HerdAt K H1 v ls → D.rt v H1) : tRet te D σ H := h H (Ex.refl H) _ k
theorem q_asgH {i : Nat} (h : EvHd K te σ H ls) (k : ∀ v H1, Ex H H1 → HerdAt K H1 v ls → tz D (σ.set i (some v)) H1) : tSeq (tAsg te (gName i)) tz D σ H := h H (Ex.refl H) _ k
theorem ls_map {t1 t2 t3 : TE} {i j k : Nat} {vs : List Nat} (f : Lot → Lot) (h : EvHd K te σ H ls) (hl : ls.length ≤ 1000) (hw : ∀ x y z, wipe ((((wipe σ vs).set i (some x)).set j (some y)).set k (some z)) vs = wipe σ vs)
    (h1 : ∀ (b : Lot) H1, Ex H H1 → b ∈ ls → Ev t1 ((((wipe σ vs).set i (some (.int b.1))).set j (some (.int b.2.1))).set k (some (.int b.2.2))) H1 (.int (f b).1))
    (h2 : ∀ (b : Lot) H1, Ex H H1 → b ∈ ls → Ev t2 ((((wipe σ vs).set i (some (.int b.1))).set j (some (.int b.2.1))).set k (some (.int b.2.2))) H1 (.int (f b).2.1))
    (h3 : ∀ (b : Lot) H1, Ex H H1 → b ∈ ls → Ev t3 ((((wipe σ vs).set i (some (.int b.1))).set j (some (.int b.2.1))).set k (some (.int b.2.2))) H1 (.int (f b).2.2)) :
    EvLs K (tLc (iTup K te) (gTup K 3 (gCons (gName i) (gCons (gName j) (gCons (gName k) gNil)))) tYes (tTup (tCons t1 (tCons t2 (tCons t3 tNil)))) vs) σ H (ls.map f) := fun H0 e0 Q q => by
  refine h H0 e0 _ fun v H1 e1 hv => ?_
  obtain ⟨a, us, rfl, hs, la⟩ := hv
  refine ⟨a, rfl, ⟨us, hs⟩, fun D hD => ?_⟩
  have e01 := e0.trans e1
  have ul := All2.len la
  refine in_it (walk_tup (xs := us)) (fun n H2 => Ex H1 H2 ∧ ∃ ws, H2 D = some (.lst ws) ∧ LotsA K H2 ws ((ls.take n).map f)) ⟨Ex.new hD, [], upd_same, .nil⟩ (fun n H2 _ z => ex_t z.1 hs) (fun n x H2 H3 hn z y => ?_) (fun H2 z => ?_)
  · obtain ⟨rfl, hx⟩ := y
    obtain ⟨z1, ws, z2, z3⟩ := z
    obtain ⟨b, hb, pp, rfl, hpp⟩ := All2.get la hx
    have hm := List.mem_of_getElem? hb
    refine ⟨pp, _, rfl, ex_t z1 hpp, rfl, _, _, rfl, _, _, rfl, _, _, rfl, rfl, hw _ _ _, ?_⟩
    refine t_yes ?_
    refine (h1 b _ (e01.trans z1) hm) _ (Ex.refl _) _ fun H4 e4 => ?_
    refine (h2 b H4 ((e01.trans z1).trans e4) hm) H4 (Ex.refl _) _ fun H5 e5 => ?_
    refine (h3 b H5 (((e01.trans z1).trans e4).trans e5) hm) H5 (Ex.refl _) _ fun H6 e6 => ⟨by show 3 ≤ sizeLine; decide, fun T hT => ?_⟩
    have nT := Ex.new (o := .tup [V.int (f b).1, .int (f b).2.1, .int (f b).2.2]) hT
    have e25 := (e4.trans e5).trans e6
    have g7 := nT _ _ (e25 _ _ z2)
    refine ⟨ws, g7, sz_lt (by rw [All2.len z3, List.length_map, List.length_take]; omega), Ex.mut ((z1.trans e25).trans nT) hD, ws ++ [.ref T], upd_same, ?_⟩
    rw [List.take_add_one, hb, List.map_append]
    exact All2.app (LotsA.exB' (LotsA.ex' z3 (e25.trans nT)) (ExB.refl _ _).upd g7) (.cons (LotAt.exB ⟨T, rfl, st_of upd_same⟩ (ExB.refl _ _).upd g7) .nil)
  · obtain ⟨z1, ws, z2, z3⟩ := z
    rw [ul, List.take_length] at z3
    exact q D ws H2 (fresh_back e1 hD) (e1.trans z1) z2 z3
theorem el_mapHd {t : TE} {i j k : Nat} {vs : List Nat} (g : Lot → V) (h : EvHd K te σ H ls) (hl : ls.length ≤ 1000) (hw : ∀ x y z, wipe ((((wipe σ vs).set i (some x)).set j (some y)).set k (some z)) vs = wipe σ vs)
    (h1 : ∀ (b : Lot) H1, Ex H H1 → b ∈ ls → Ev t ((((wipe σ vs).set i (some (.int b.1))).set j (some (.int b.2.1))).set k (some (.int b.2.2))) H1 (g b)) : EvL (tLc (iTup K te) (gTup K 3 (gCons (gName i) (gCons (gName j) (gCons (gName k) gNil)))) tYes t vs) σ H (ls.map g) := fun H0 e0 Q q => by
  refine h H0 e0 _ fun v H1 e1 hv => ?_
  have := el_mapH (K := K) (te := tC v) (σ := σ) (H := H1) (t := t) (i := i) (j := j) (k := k) (vs := vs) g (ev_c) hv hl hw (fun b H2 e2 hb => h1 b H2 ((e0.trans e1).trans e2) hb)
  exact this H1 (Ex.refl _) _ fun p H2 hp e2 g2 => q p H2 (fresh_back e1 hp) (e1.trans e2) g2
theorem el_manys {j : Nat} {vs : List Nat} (h : Ev te σ H v) (hv : HerdAt K H v ls) (hl : ls.length ≤ 1000) (hw : ∀ x, wipe ((wipe σ vs).set j (some x)) vs = wipe σ vs) (hj : ∀ x : V, ((wipe σ vs).set j (some x))[j]? = some (some x)) :
    EvL (tLc (iTup K te) (gName j) tYes (tOp (rIxT K) (tVar j) (tC (.int 2))) vs) σ H ((ls.map (·.2.2)).map V.int) := fun H0 e0 Q q => by
  obtain ⟨a, us, rfl, hs, la⟩ := hv
  refine h H0 e0 _ fun H1 e1 => ⟨a, rfl, ⟨us, ex_t (e0.trans e1) hs⟩, fun D hD => ?_⟩
  have e01 := e0.trans e1
  have hs := ex_t e01 hs
  have la := LotsA.ex' la e01
  have ul := All2.len la
  refine in_it (walk_tup (xs := us)) (fun n H2 => Ex H1 H2 ∧ H2 D = some (.lst (((ls.take n).map (·.2.2)).map V.int))) ⟨Ex.new hD, upd_same⟩ (fun n H2 _ z => ex_t z.1 hs) (fun n x H2 H3 hn z y => ?_) (fun H2 z => ?_)
  · obtain ⟨rfl, hx⟩ := y
    obtain ⟨z1, z2⟩ := z
    obtain ⟨b, hb, pp, rfl, hpp⟩ := All2.get la hx
    refine ⟨hw _, t_yes ?_⟩
    refine (ev_op (ev_var (hj _)) ev_c (rv_ixT (K := K) (ex_t z1 hpp) rfl) : Ev (tOp (rIxT K) (tVar j) (tC (.int 2))) _ _ (.int b.2.2)) _ (Ex.refl _) _ fun H4 e4 => ⟨_, e4 _ _ z2, sz_lt (by rw [List.length_map, List.length_map, List.length_take]; omega), Ex.mut (z1.trans e4) hD, ?_⟩
    rw [List.take_add_one, hb, List.map_append, List.map_append]
    exact upd_same
  · obtain ⟨z1, z2⟩ := z
    rw [ul, List.take_length] at z2
    exact q D H2 (fresh_back e1 hD) (e1.trans z1) z2
theorem el_herds {lss : List (List Lot)} {j : Nat} {vs : List Nat} (g : List Lot → Int) (h : EvHds K tr σ H lss) (hl : lss.length ≤ 1000) (hw : ∀ x, wipe ((wipe σ vs).set j (some x)) vs = wipe σ vs)
    (h1 : ∀ x ms H1, HerdAt K H1 x ms → ms ∈ lss → Ev tb ((wipe σ vs).set j (some x)) H1 (.int (g ms))) : EvL (tLc (iTup K (tTup tr)) (gName j) tYes tb vs) σ H ((lss.map g).map V.int) := fun H0 e0 Q q => by
  refine h H0 e0 _ fun us H1 e1 b => ⟨sz_of (by rw [All2.len b]; omega), fun a ha => ⟨a, rfl, ⟨us, st_of upd_same⟩, fun D hD => ?_⟩⟩
  have nA := Ex.new (o := .tup us) ha
  have b := All2.mono (fun _ _ (r : HerdAt K H1 _ _) => r.ex nA) b
  have hs : SqT K (upd H1 a (.tup us)) a us := st_of upd_same
  have hD1 : H1 D = none := fresh_back nA hD
  generalize upd H1 a (.tup us) = H2 at nA b hs hD ⊢
  have ul := All2.len b
  refine in_it (walk_tup (xs := us)) (fun n H3 => Ex H2 H3 ∧ H3 D = some (.lst (((lss.take n).map g).map V.int))) ⟨Ex.new hD, upd_same⟩ (fun n H3 _ z => ex_t z.1 hs) (fun n x H3 H4 hn z y => ?_) (fun H3 z => ?_)
  · obtain ⟨rfl, hx⟩ := y
    obtain ⟨z1, z2⟩ := z
    obtain ⟨ms, hms, hh⟩ := All2.get b hx
    refine ⟨hw _, t_yes ?_⟩
    refine (h1 x ms _ (hh.ex z1) (List.mem_of_getElem? hms)) _ (Ex.refl _) _ fun H5 e5 => ⟨_, e5 _ _ z2, sz_lt (by rw [List.length_map, List.length_map, List.length_take]; omega), Ex.mut (z1.trans e5) hD, ?_⟩
    rw [List.take_add_one, hms, List.map_append, List.map_append]
    exact upd_same
  · obtain ⟨z1, z2⟩ := z
    rw [ul, List.take_length] at z2
    exact q D H3 (fresh_back e1 hD1) (e1.trans (nA.trans z1)) z2
theorem el_zipO {i j : Nat} {vs : List Nat} {os : List Int} {l : Addr} (h : Ev ta σ H v) (hv : HerdAt K H v ls) (hb : Ev tb σ H (.ref l)) (gl : H l = some (.lst (os.map V.int))) (ho : os.length = ls.length) (hl : ls.length ≤ 1000) (hm : ∀ l ∈ ls, 0 ≤ l.2.2 ∧ l.2.2 < 1152921504606846976) (hw : ∀ a b, wipe (((wipe σ vs).set i (some a)).set j (some b)) vs = wipe σ vs)
    (hi : ∀ a b : V, (((wipe σ vs).set i (some a)).set j (some b))[i]? = some (some a)) (hj : ∀ a b : V, (((wipe σ vs).set i (some a)).set j (some b))[j]? = some (some b)) :
    EvL (tLc (iZipW K (tCons ta (tCons tb tNil))) (gTup K 2 (gCons (gName i) (gCons (gName j) gNil))) tYes (tOp (rI CMul fun i j => .int (i * j)) (tOp (rIxT K) (tVar i) (tC (.int 2))) (tVar j)) vs) σ H (((List.range ls.length).map fun n => os.getD n 0 * lM ls n).map V.int) := fun H0 e0 Q q => by
  obtain ⟨a, us, rfl, hs, la⟩ := hv
  refine h H0 e0 _ fun H1 e1 => hb H1 (e0.trans e1) _ fun H2 e2 => ⟨a, l, us, os.map V.int, rfl, ex_t (e0.trans (e1.trans e2)) hs, sq_of ((e0.trans (e1.trans e2)) _ _ gl), fun D hD => ?_⟩
  have e02 := e0.trans (e1.trans e2)
  have hs := ex_t e02 hs
  have la := LotsA.ex' la e02
  have ul := All2.len la
  have gp := e02 _ _ gl
  have hlen : us.length = (os.map V.int).length := by rw [List.length_map, ho, ul]
  refine in_it (walk_zipW hlen) (fun n H3 => Ex H2 H3 ∧ H3 D = some (.lst (((List.range n).map fun n => os.getD n 0 * lM ls n).map V.int))) ⟨Ex.new hD, upd_same⟩ (fun n H3 _ z => ⟨ex_t z.1 hs, sq_of (z.1 _ _ gp)⟩) (fun n x H3 H4 hn z y => ?_) (fun H3 z => ?_)
  · obtain ⟨z1, z2⟩ := z
    obtain ⟨T, x1, x2, rfl, hT, rfl, hx1, hx2⟩ := y
    have hx1 : us[n]? = some x1 := hx1
    have hx2 : (os.map V.int)[n]? = some x2 := hx2
    obtain ⟨b, hb', pp, rfl, hpp⟩ := All2.get la hx1
    have hn' : n < ls.length := (List.getElem?_eq_some_iff.mp hb').1
    rw [lot_get hn'] at hb'
    cases hb'
    have hno : n < os.length := by omega
    rw [List.getElem?_map, List.getElem?_eq_getElem hno] at hx2
    cases hx2
    have eo : os.getD n 0 = os[n] := by
      rw [List.getD_eq_getElem?_getD, List.getElem?_eq_getElem hno]
      rfl
    have e5 : Ex H3 (upd H3 T (.tup [.ref pp, V.int os[n]])) := Ex.new hT
    refine ⟨T, _, rfl, st_of upd_same, rfl, _, _, rfl, _, _, rfl, rfl, hw _ _, ?_⟩
    refine t_yes ?_
    have bd := hm _ (List.mem_of_getElem? (lot_get hn'))
    refine (ev_op (ev_op (ev_var (hi _ _)) ev_c (rv_ixT (K := K) (ex_t (z1.trans e5) hpp) rfl) : Ev _ _ _ (.int (lM ls n))) (ev_var (hj _ _)) (rv_I (.inl ⟨by have := bd.1; dsimp only at this; omega, by have := bd.2; dsimp only at this; omega⟩))) _ (Ex.refl _) _ fun H6 e6 => ?_
    refine ⟨_, e6 _ _ (e5 _ _ z2), sz_lt (by rw [List.length_map, List.length_map, List.length_range]; omega), Ex.mut ((z1.trans e5).trans e6) hD, ?_⟩
    rw [upd_same, List.range_succ, List.map_append, List.map_append]
    show some (HO.lst (_ ++ [V.int (lM ls n * os[n])])) = some (HO.lst (_ ++ [V.int (os.getD n 0 * lM ls n)]))
    rw [eo, Int.mul_comm]
  · obtain ⟨z1, z2⟩ := z
    rw [ul] at z2
    exact q D H3 (fresh_back (e1.trans e2) hD) ((e1.trans e2).trans z1) z2
end
end HH
set_option maxHeartbeats 4000000
namespace HH
open PySem PySem.Spec PyProof.Rows L2 Evl RZ
theorem adj_map {f : Lot → Lot} (hf : ∀ l, (f l).1 = l.1 ∧ (f l).2.1 = l.2.1) : ∀ {ls : List Lot}, adj ls → adj (ls.map f)
  | [], _ => True.intro
  | [_], _ => True.intro
  | a :: b :: r, h => by
    refine ⟨fun z => h.1 ?_, adj_map hf (ls := b :: r) h.2⟩
    rw [(hf a).1, (hf b).1, (hf a).2, (hf b).2] at z
    exact z
theorem atI_back {xs : List V} {r : Int} (h0 : 0 ≤ r) (h1 : r < (xs.length : Int)) : ∃ (k : Nat) (x : V), xs[k]? = some x ∧ atI xs (-1 - r) = some x := by
  have hl : xs.length - 1 - r.toNat < xs.length := by omega
  refine ⟨_, xs[xs.length - 1 - r.toNat], List.getElem?_eq_getElem hl, ?_⟩
  unfold atI L2.ixN
  rw [if_neg (by omega), if_pos (by omega)]
  show xs[(-1 - r + (xs.length : Int)).toNat]? = _
  rw [show (-1 - r + (xs.length : Int)).toNat = xs.length - 1 - r.toNat by omega]
  exact List.getElem?_eq_getElem hl
section
variable {K : PySem.W.Frag} {σ : L2.St} {p : Addr} {ta tb te ti : TE} {tr : TA} {D : Ends} {tz tu : TS} {g : TG} {H H' : Hp} {v : V} {ls ms : List Lot}
theorem dr_weak {c : Nat} {P S : Int → Prop} (h : Dr te σ p c P) (w : ∀ r, P r → S r) : Dr te σ p c S := fun H n hb hn Q q => h H n hb hn Q fun r H' pr => q r H' (w r pr)
theorem dr_of {i : Int} {S : Int → Prop} (h : ∀ H, Ev te σ H (.int i)) (w : S i) : Dr te σ p 0 S := dr_weak (dr_c h) fun r e => e ▸ w
def DrA (ta : TA) (σ : L2.St) (p : Addr) (c k : Nat) (S : Int → Prop) : Prop := ∀ (H : Hp) (n : Nat), Bx H p n → n + c < Lim → ∀ Q : List V → Hp → Prop, (∀ (ns : List Int) H', ns.length = k → (∀ x ∈ ns, S x) → ExB p H H' → Bx H' p (n + c) → Q (ns.map V.int) H') → ta σ H Q
theorem dra_nil {S : Int → Prop} : DrA tNil σ p 0 0 S := fun H n hb hn Q q => q [] H rfl (fun x hx => nomatch hx) (ExB.refl _ _) hb
theorem dra_cons {c d k : Nat} {S : Int → Prop} (h : Dr te σ p c S) (g : DrA tr σ p d k S) : DrA (tCons te tr) σ p (c + d) (k + 1) S := fun H n hb hn Q q =>
  h H n hb (by omega) _ fun r H1 pr x1 b1 => g H1 (n + c) b1 (by omega) _ fun ns H2 hl hs x2 b2 => q (r :: ns) H2 (by rw [List.length_cons, hl]) (fun x hx => by
    rcases List.mem_cons.mp hx with rfl | hx
    · exact pr
    · exact hs x hx) (x1.trans x2) (by rw [show n + (c + d) = n + c + d by omega]; exact b2)
theorem dr_ixL {c d k : Nat} {S : Int → Prop} (h : DrA tr σ p c k S) (hk : k ≤ 1000) (g : Dr ti σ p d fun i => 0 ≤ i ∧ i < (k : Int)) : Dr (tOp (rIxL K) (tLst tr) ti) σ p (c + d) S := fun H n hb hn Q q =>
  h H n hb (by omega) _ fun ns H1 hl hs x1 b1 => ⟨sz_of (by rw [List.length_map]; omega), fun l hlq => by
    have nl := Ex.new (o := .lst (ns.map V.int)) hlq
    have nlp : l ≠ p := (b1.ne hlq).symm
    have gl : (upd H1 l (.lst (ns.map V.int))) l = some (.lst (ns.map V.int)) := upd_same
    generalize upd H1 l (.lst (ns.map V.int)) = H2 at nl gl ⊢
    refine g H2 (n + c) (b1.ex nl) (by omega) _ fun i H3 hi x3 b3 => ?_
    obtain ⟨j, rfl⟩ := Int.eq_ofNat_of_zero_le hi.1
    have hj : j < ns.length := by omega
    refine ⟨l, ns.map V.int, (j : Int), .int ns[j], rfl, rfl, sq_of (x3 _ _ nlp gl), atI_nat (by rw [List.getElem?_map, List.getElem?_eq_getElem hj]; rfl), ?_⟩
    exact q _ H3 (hs _ (List.getElem_mem hj)) (x1.trans ((ExB.of nl).trans x3)) (by rw [show n + (c + d) = n + c + d by omega]; exact b3)⟩
def spWide : Sp := fun vs H Q _ => ∃ (p : Addr) (m : Int) (n : Nat), vs = [.ref p, .int m] ∧ 0 < m ∧ Bx H p n ∧ n + 2 < Lim ∧ ∀ (r : Int) H', 1 ≤ r → r ≤ m → ExB p H H' → Bx H' p (n + 2) → Q (.int r) H'
theorem dr_wide {ib c : Nat} {M : Int} {tm : TE} {E : XK} (hb : σ[ib]? = some (some (.ref p))) (hm : Dr tm σ p c fun m => 0 < m ∧ m ≤ M) : Dr (tCall spWide [] E (tCons (tVar ib) (tCons tm tNil))) σ p (c + 2) fun r => 1 ≤ r ∧ r ≤ M := fun H n bx hn Q q =>
  ⟨.ref p, hb, hm H n bx (by omega) _ fun m H1 pm x1 b1 => ⟨p, m, n + c, rfl, pm.1, b1, by omega, fun r H2 r0 r1 x2 b2 => q r H2 ⟨r0, Int.le_trans r1 pm.2⟩ (x1.trans x2) (by rw [show n + (c + 2) = n + c + 2 by omega]; exact b2)⟩⟩
theorem q_forR0 (h : te σ H fun x H1 => tSeq (tFor (iRng1 (tCons (tC x) tNil)) g tu) tz D σ H1) : tSeq (tFor (iRng1 (tCons te tNil)) g tu) tz D σ H := h
theorem ev_min2 {i j : Int} (ha : Ev ta σ H (.int i)) (hb : Ev tb σ H (.int j)) : Ev (tCB (fun xs H Q => ∃ i j, xs = [.int i, .int j] ∧ Q (.int (if j < i then j else i)) H) (tCons ta (tCons tb tNil))) σ H (.int (if j < i then j else i)) := fun H1 e Q q =>
  ha H1 e _ fun H2 e2 => hb H2 (e.trans e2) _ fun H3 e3 => ⟨i, j, rfl, q H3 (e2.trans e3)⟩
def spGreat (K : PySem.W.Frag) : Sp := fun vs H Q _ => ∃ (p : Addr) (n : Nat), vs = [.ref p] ∧ Bx H p n ∧ n + 1000 < Lim ∧ ∀ z H' (ls : List Lot), ExB p H H' → Bx H' p (n + 1000) → HerdAt K H' z ls → 0 < ls.length → ls.length ≤ 24 → adj ls → (∀ l ∈ ls, 0 ≤ l.2.1 ∧ l.2.1 ≤ 100000000 ∧ 1 ≤ l.2.2 ∧ l.2.2 ≤ 1000000000000) → Q z H'
def spTotal (K : PySem.W.Frag) : Sp := fun vs H Q _ => ∃ (v : V) (ls : List Lot), vs = [v] ∧ HerdAt K H v ls ∧ Fit ls ∧ RetV (.int (totL ls)) H Q
def spLikes (K : PySem.W.Frag) : Sp := fun vs H Q _ => ∃ (v e : V) (o : Addr) (by' : Int) (ls : List Lot), vs = [v, .int by', e, .ref o] ∧ HerdAt K H v ls ∧ 2 ≤ by' ∧ by' ≤ 9 ∧ HerdAt K H e (packL (lastLots ls)) ∧ H o = some (.lst ((endG ls ls.length).2.2.map V.int)) ∧ 0 < ls.length ∧ ls.length ≤ 24 ∧ (∀ l ∈ ls, 0 ≤ l.2.1 ∧ l.2.1 ≤ 100000000 ∧ 1 ≤ l.2.2 ∧ l.2.2 ≤ 1000000000000) ∧ RetV (.bl true) H Q
theorem hd_callV {a : Addr} {us : List V} {E : XK} (h : Ev te σ H (.ref a)) (ha : H a = some (.lst us)) (la : LotsA K H us ls) (hl : ls.length ≤ 1000) : EvHd K (tCall (spPackA K) [] E (tCons te tNil)) σ H (packL ls) := fun H1 e1 Q q => h H1 e1 _ fun H2 e2 => ⟨a, us, ls, rfl, .inl (sq_of ((e1.trans e2) _ _ ha)), LotsA.ex' la (e1.trans e2), hl, fun z H3 e3 hz => q z H3 (e2.trans e3) hz⟩
theorem ev_passingsH {E : XK} (h : EvHd K te σ H ls) (ft : Fit ls) : Ev (tCall (spHerdPassings K) [] E (tCons te tNil)) σ H (.int (passingsG ls)) := fun H1 e1 Q q => h H1 e1 _ fun v H2 e2 hv => ⟨v, ls, rfl, hv, ft, fun H3 e3 => q H3 (e2.trans e3)⟩
theorem el_passedH {E : XK} (h : EvHd K te σ H ls) (ft : Fit ls) : EvL (tCall (spHerdPassed K) [] E (tCons te tNil)) σ H ((endG ls ls.length).2.2.map V.int) := fun H1 e1 Q q => h H1 e1 _ fun v H2 e2 hv => ⟨v, ls, rfl, hv, ft, fun p H3 hp e3 g3 => q p H3 (fresh_back e2 hp) (e2.trans e3) g3⟩
theorem ev_totalH {E : XK} (h : EvHd K te σ H ls) (ft : Fit ls) : Ev (tCall (spTotal K) [] E (tCons te tNil)) σ H (.int (totL ls)) := fun H1 e1 Q q => h H1 e1 _ fun v H2 e2 hv => ⟨v, ls, rfl, hv, ft, fun H3 e3 => q H3 (e2.trans e3)⟩
theorem ex_placesH {E : XK} (h : EvHd K te σ H ls) (ft : Fit ls) (pos : PosL ls) : EvX K (tCall (spHerdPlaces K) [] E (tCons te tNil)) σ H (pairsD (placesG ls)) := fun H1 e1 Q q => h H1 e1 _ fun v H2 e2 hv => ⟨v, ls, rfl, hv, ft, fun k hk => all_stand ft pos hk, fun p us H3 hp e3 g3 b3 => q _ H3 (e2.trans e3) (dp_pairs (sq_of g3) b3.be)⟩
theorem ex_Ls {ns : List Int} (h : EvL te σ H (ns.map V.int)) : EvX K te σ H (.list (ns.map PyData.int)) := ex_L h
theorem ex_Lv {ns : List Int} {a : Addr} (h : Ev te σ H (.ref a)) (ha : H a = some (.lst (ns.map V.int))) : EvX K te σ H (.list (ns.map PyData.int)) := ex_of h (.lst (sq_of ha) (dp_ints ns))
theorem nice_L (ns : List Int) : Nice 1 (.list (ns.map PyData.int)) := nice_list (nice_ints ns)
theorem ev_lenHd (h : Ev te σ H v) (hv : HerdAt K H v ls) : Ev (tCB (rLenS K) (tCons te tNil)) σ H (.int (ls.length : Int)) := by
  obtain ⟨a, us, rfl, h2, h3⟩ := hv
  rw [← All2.len h3]
  exact ev_lenTup h h2
theorem q_forZipH (h1 : EvHd K ta σ H ls) (h2 : ∀ H1, Ex H H1 → EvHd K tb σ H1 ms) (Pv : Hp → Nat → L2.St → Hp → Prop) (h0 : ∀ B, Ex H B → Pv B 0 σ B) (hx : ∀ B i σ' H', Pv B i σ' H' → Ex B H')
    (hs : ∀ (B : Hp) (i : Nat) (la lb : Lot) (σ' : L2.St) (H' H'' : Hp) (T : Addr) (x y : V), Ex H B → ls[i]? = some la → ms[i]? = some lb → Pv B i σ' H' → Ex H' H'' → H'' T = some (.tup [x, y]) → LotAt K H'' x la → LotAt K H'' y lb → g (.ref T) σ' H'' fun σ2 H2 => tu { D with nx := Pv B (i + 1), ct := Pv B (i + 1), bk := tz D } σ2 H2)
    (hd : ∀ B σ' H', Ex H B → Pv B (min ls.length ms.length) σ' H' → tz D σ' H') : tSeq (tFor (iZipA K (tCons ta (tCons tb tNil))) g tu) tz D σ H :=
  h1 H (Ex.refl H) _ fun u H1 e1 hu => h2 H1 e1 H1 (Ex.refl _) _ fun v H2 e2 hv => by
    obtain ⟨a, us, rfl, sa, la⟩ := hu.ex e2
    obtain ⟨b, vs, rfl, sb, lb⟩ := hv
    have el : min us.length vs.length = min ls.length ms.length := by rw [All2.len la, All2.len lb]
    refine ⟨a, b, us, vs, rfl, .inr ⟨sa, sb, for_it (walk_zipT (n := min ls.length ms.length) el.symm) (D := { D with nx := tz D }) (Pv H2) (h0 H2 (e1.trans e2)) (fun i σ' H' _ p => ⟨ex_t (hx _ _ _ _ p) sa, ex_t (hx _ _ _ _ p) sb⟩) (fun i x σ' H' H'' hi p y => ?_) (fun σ' H' p => hd H2 σ' H' (e1.trans e2) p)⟩⟩
    obtain ⟨T, x, y, rfl, hT, rfl, hx1, hy1⟩ := y
    have hx1 : us[i]? = some x := hx1
    have hy1 : vs[i]? = some y := hy1
    obtain ⟨l1, g1, r1⟩ := All2.get la hx1
    obtain ⟨l2, g2, r2⟩ := All2.get lb hy1
    have nT := Ex.new (o := .tup [x, y]) hT
    have eB := (hx _ _ _ _ p).trans nT
    exact hs H2 i l1 l2 σ' H' _ T x y (e1.trans e2) g1 g2 p nT upd_same (r1.ex eB) (r2.ex eB)
theorem el_zipH2 {i j : Nat} {vs : List Nat} {tt : TE} (h1 : EvHd K ta σ H ls) (h2 : ∀ H1, Ex H H1 → EvHd K tb σ H1 ms) (hl : ls.length ≤ 1000) (hw : ∀ a b, wipe (((wipe σ vs).set i (some a)).set j (some b)) vs = wipe σ vs)
    (h3 : ∀ (k : Nat) (la lb : Lot) (H1 : Hp) (x y : V), ls[k]? = some la → ms[k]? = some lb → LotAt K H1 x la → LotAt K H1 y lb → Ev tt (((wipe σ vs).set i (some x)).set j (some y)) H1 (.bl false)) :
    EvL (tLc (iZipA K (tCons ta (tCons tb tNil))) (gTup K 2 (gCons (gName i) (gCons (gName j) gNil))) tYes tt vs) σ H ((List.replicate (min ls.length ms.length) false).map V.bl) := fun H0 e0 Q q =>
  h1 H0 e0 _ fun u H1 e1 hu => h2 H1 (e0.trans e1) H1 (Ex.refl _) _ fun v H2 e2 hv => by
    obtain ⟨a, us, rfl, sa, la⟩ := hu.ex e2
    obtain ⟨b, ws, rfl, sb, lb⟩ := hv
    have el : min us.length ws.length = min ls.length ms.length := by rw [All2.len la, All2.len lb]
    refine ⟨a, b, us, ws, rfl, .inr ⟨sa, sb, fun D hD => ?_⟩⟩
    refine in_it (walk_zipT (n := min ls.length ms.length) el.symm) (fun n H3 => Ex H2 H3 ∧ H3 D = some (.lst ((List.replicate n false).map V.bl))) ⟨Ex.new hD, upd_same⟩ (fun n H3 _ z => ⟨ex_t z.1 sa, ex_t z.1 sb⟩) (fun n x H3 H4 hn z y => ?_) (fun H3 z => ?_)
    · obtain ⟨z1, z2⟩ := z
      obtain ⟨T, x, y, rfl, hT, rfl, hx1, hy1⟩ := y
      have hx1 : us[n]? = some x := hx1
      have hy1 : ws[n]? = some y := hy1
      obtain ⟨l1, g1, r1⟩ := All2.get la hx1
      obtain ⟨l2, g2, r2⟩ := All2.get lb hy1
      have nT := Ex.new (o := .tup [x, y]) hT
      refine ⟨T, _, rfl, st_of upd_same, rfl, _, _, rfl, _, _, rfl, rfl, hw _ _, t_yes ?_⟩
      refine (h3 n l1 l2 _ x y g1 g2 (r1.ex (z1.trans nT)) (r2.ex (z1.trans nT))) _ (Ex.refl _) _ fun H5 e5 => ⟨_, e5 _ _ (nT _ _ z2), sz_lt (by rw [List.length_map, List.length_replicate]; omega), Ex.mut ((z1.trans nT).trans e5) hD, ?_⟩
      rw [upd_same, List.replicate_succ', List.map_append]
      rfl
    · obtain ⟨z1, z2⟩ := z
      exact q D H3 (fresh_back (e1.trans e2) hD) ((e1.trans e2).trans z1) z2
end
end HH
set_option maxHeartbeats 4000000
namespace K79
open PySem PySem.Spec PyProof.Rows L2 Evl HH RZ
section
variable {P : Program} {w : World} {K : PySem.W.Frag} {mg : Str → Option Value} {base : Heap}
theorem ok_law_wide {f f1 : Addr} {fd fd1 : FuncData} (F : FnP K "_law_wide" s_law_wide f fd) (g : mg "_law_wide" = some (.ref f)) (b : Binds K fd ["_law_box", "_law_top"] []) (h_law_take : Has P w K mg base 1 "_law_take" ["_law_box", "_law_many"] spTake f1 fd1) : Has P w K mg base 2 "_law_wide" ["_law_box", "_law_top"] spWide f fd := by
  refine ⟨F.ok sc_law_wide (fun vs H Q E h => ?_) (fun cdv A outer s H vs Q E hr h => ?_), g, F.kp, b⟩
  · obtain ⟨p, m, n, rfl, _⟩ := h
    rfl
  · obtain ⟨p, m, n, rfl, m0, bx, hn, q⟩ := h
    refine ⟨_, PSs.nox (pss_one (ps_ret (pe_op op_add pe_int (pe_op op_modN (pe_op op_add (pe_op op_mul (pe_call h_law_take.G (hr.mono (by decide)) (by rfl) h_law_take.g h_law_take.kp h_law_take.b .nil pass0 (pa_cons (pv 0) (pa_cons (pe_op op_pow pe_int pe_int) pa_nil))) (pe_op op_pow pe_int pe_int)) (pe_call h_law_take.G (hr.mono (by decide)) (by rfl) h_law_take.g h_law_take.kp h_law_take.b .nil pass0 (pa_cons (pv 0) (pa_cons (pe_op op_pow pe_int pe_int) pa_nil)))) (pv 1))))), ?_⟩
    have mil : ∀ (σ : L2.St) (H1 : Hp), Ev (tOp (rI CPow fun i j => .int (i ^ j.toNat)) (tC (.int 10)) (tC (.int 6))) σ H1 (.int 1000000) := fun σ H1 => ev_pow ⟨by decide, by decide, by decide⟩ (by decide)
    have tk : Dr (tCall spTake [] E0 (tCons (tVar 0) (tCons (tOp (rI CPow fun i j => .int (i ^ j.toNat)) (tC (.int 10)) (tC (.int 6))) tNil))) [some (.ref p), some (.int m)] p 1 (fun r => 0 ≤ r ∧ r < 1000000) := dr_take rfl (fun H1 => mil _ H1) (by decide) (by decide)
    have key := dr_I0 (g := fun i j => i + j) (S := fun r => 1 ≤ r ∧ r ≤ m) (dr_c (i := 1) (p := p) (σ := [some (.ref p), some (.int m)]) (te := tC (.int 1)) (fun H1 => ev_c)) (dr_I (C := fun _ j => j ≠ 0) (g := fun i j => i.fmod j) (S := fun r => 0 ≤ r ∧ r < m) (dr_I0 (g := fun i j => i + j) (S := fun _ => True) (dr_I (C := CMul) (g := fun i j => i * j) (S := fun _ => True) tk (dr_c (i := 1000000) (fun H1 => mil _ H1)) (fun i j _ e => ⟨.inr (by rw [e]; decide), trivial⟩)) tk (fun i j _ _ => trivial)) (dr_c (i := m) (te := tVar 1) (fun H1 => ev_var rfl)) (fun i j _ e => by
      have e : j = m := e
      subst e
      exact ⟨by show j ≠ 0; omega, Int.fmod_nonneg_of_pos _ m0, Int.fmod_lt_of_pos _ m0⟩)) (fun i j e ⟨h1, h2⟩ => by
      have e : i = 1 := e
      omega)
    exact key H n bx (by omega) _ fun r H2 hr x2 b2 => q r H2 hr.1 hr.2 x2 b2
theorem ok_law_great {f f1 f2 f3 : Addr} {fd fd1 fd2 fd3 : FuncData} (F : FnP K "_law_great" s_law_great f fd) (g : mg "_law_great" = some (.ref f)) (b : Binds K fd ["_law_box"] []) (h_law_take : Has P w K mg base 1 "_law_take" ["_law_box", "_law_many"] spTake f1 fd1) (h_law_wide : Has P w K mg base 2 "_law_wide" ["_law_box", "_law_top"] spWide f2 fd2) (h_law_packed : Has P w K mg base 1 "_law_packed" ["_law_lots"] (spPackA K) f3 fd3)
    (m_range : mg "range" = none) (m_len : mg "len" = none) (m_tuple : mg "tuple" = none) (m_min : mg "min" = none) : Has P w K mg base 3 "_law_great" ["_law_box"] (spGreat K) f fd := by
  refine ⟨F.ok sc_law_great (fun vs H Q E h => ?_) (fun cdv A outer s H vs Q E hr h => ?_), g, F.kp, b⟩
  · obtain ⟨p, n, rfl, _⟩ := h
    rfl
  · obtain ⟨p, n, rfl, bx, hn, q⟩ := h
    have hu : (A.deeper (envOfC "_law_great" (defScope s_law_great) s.heap.objs.size f cdv)).units + 64 < cLine := by
      have := hr.un
      omega
    refine ⟨_, PSs.nox (pss_cons (ps_set (i := 1) sc_law_great.nd rfl (.inl rfl) (pe_lst pa_nil))
      (pss_cons (ps_for PassesOwn.never rfl (pi_range1 (by rfl) m_range (pa_cons (pe_op op_add pe_int (pe_call h_law_take.G (hr.mono (by decide)) (by rfl) h_law_take.g h_law_take.kp h_law_take.b .nil pass0 (pa_cons (pv 0) (pa_cons pe_int pa_nil)))) pa_nil)) (pg_name (i := 2) sc_law_great.nd rfl (Or.inl rfl))
        (pss_cons (ps_set (i := 3) sc_law_great.nd rfl (.inl rfl) (pe_ix ix_list (pe_lst (pa_cons pe_int (pa_cons pe_int (pa_cons (pe_op op_add pe_int (pe_call h_law_take.G (hr.mono (by decide)) (by rfl) h_law_take.g h_law_take.kp h_law_take.b .nil pass0 (pa_cons (pv 0) (pa_cons pe_int pa_nil)))) (pa_cons (pe_call h_law_wide.G (hr.mono (by decide)) (by rfl) h_law_wide.g h_law_wide.kp h_law_wide.b .nil pass0 (pa_cons (pv 0) (pa_cons (pe_op op_pow pe_int pe_int) pa_nil))) pa_nil))))) (pe_call h_law_take.G (hr.mono (by decide)) (by rfl) h_law_take.g h_law_take.kp h_law_take.b .nil pass0 (pa_cons (pv 0) (pa_cons pe_int pa_nil))) (fun _ _ => rfl)))
      (pss_cons (ps_set (i := 4) sc_law_great.nd rfl (.inl rfl) (pe_call h_law_wide.G (hr.mono (by decide)) (by rfl) h_law_wide.g h_law_wide.kp h_law_wide.b .nil pass0 (pa_cons (pv 0) (pa_cons (pe_ix ix_list (pe_lst (pa_cons pe_int (pa_cons pe_int (pa_cons (pe_op op_pow pe_int pe_int) pa_nil)))) (pe_call h_law_take.G (hr.mono (by decide)) (by rfl) h_law_take.g h_law_take.kp h_law_take.b .nil pass0 (pa_cons (pv 0) (pa_cons pe_int pa_nil))) (fun _ _ => rfl)) pa_nil))))
      (pss_cons (ps_set (i := 5) sc_law_great.nd rfl (.inl rfl) (pe_op op_sub (pe_call h_law_take.G (hr.mono (by decide)) (by rfl) h_law_take.g h_law_take.kp h_law_take.b .nil pass0 (pa_cons (pv 0) (pa_cons pe_int pa_nil))) pe_int))
      (Evl.pss_cut (ps_if (PW.pt (pw_and (pt_cmpR (op_neD hr.units) (pv 1) (pe_lst pa_nil) (nomark _)) (pw_and1 (pt_cmpR op_gt (pe_call h_law_take.G (hr.mono (by decide)) (by rfl) h_law_take.g h_law_take.kp h_law_take.b .nil pass0 (pa_cons (pv 0) (pa_cons pe_int pa_nil))) pe_int (nomark _))))) (pss_cons (ps_set (i := 6) sc_law_great.nd rfl (.inl rfl) (pe_ix ix_list (pv 1) (pe_op op_sub (pe_un un_neg pe_int) (pe_call h_law_take.G (hr.mono (by decide)) (by rfl) h_law_take.g h_law_take.kp h_law_take.b .nil pass0 (pa_cons (pv 0) (pa_cons (pe_callB (call_min2 rfl) (by rfl) m_min (by decide +kernel) (pa_cons pe_int (pa_cons (pe_callB call_len_seq (by rfl) m_len PySem.boot_len (pa_cons (pv 1) pa_nil)) pa_nil))) pa_nil)))) (fun _ _ => rfl)))
      (pss_cons (ps_set (i := 7) sc_law_great.nd rfl (.inl rfl) (pe_op op_add (pe_op op_mul (pe_ix ix_tup (pv 6) pe_int (fun _ _ => rfl)) (pe_call h_law_take.G (hr.mono (by decide)) (by rfl) h_law_take.g h_law_take.kp h_law_take.b .nil pass0 (pa_cons (pv 0) (pa_cons (pe_op op_add pe_int (pe_callB (call_min2 rfl) (by rfl) m_min (by decide +kernel) (pa_cons (pe_ix ix_tup (pv 6) pe_int (fun _ _ => rfl)) (pa_cons (pe_op op_pow pe_int pe_int) pa_nil)))) pa_nil)))) (pe_call h_law_take.G (hr.mono (by decide)) (by rfl) h_law_take.g h_law_take.kp h_law_take.b .nil pass0 (pa_cons (pv 0) (pa_cons pe_int pa_nil)))))
      (pss_one (ps_set (i := 5) sc_law_great.nd rfl (.inl rfl) (pe_callB (call_min2 rfl) (by rfl) m_min (by decide +kernel) (pa_cons (pe_op op_pow pe_int pe_int) (pa_cons (pe_op op_add (pe_ix ix_tup (pv 6) pe_int (fun _ _ => rfl)) (pv 7)) pa_nil))))))) pss_nil)
      (pss_one (ps_expr (pe_bm PySem.F.plainAttrs_list PySem.F.slot_list_append PySem.F.type_list_append mt_append (pv 1) (pa_cons (pe_tup (pa_cons (pv 5) (pa_cons (pv 3) (pa_cons (pv 4) pa_nil)))) pa_nil)))))))))
      (pss_one (ps_ret (pe_tupleOf (by rfl) m_tuple (pe_lc (own := [("_law_strength", 5), ("_law_toll", 3), ("_law_many", 4)]) (g := gTup K 3 (gCons (gName 5) (gCons (gName 3) (gCons (gName 4) gNil)))) (by rfl) sc_law_great.nd (pi_tup (pe_call h_law_packed.G (hr.mono (by decide)) (by rfl) h_law_packed.g h_law_packed.kp h_law_packed.b .nil pass0 (pa_cons (pv 1) pa_nil))) (blkOk_by (own := [("_law_strength", 5), ("_law_toll", 3), ("_law_many", 4)]) (N := ["_law_box", "_law_found", "_law_turn", "_law_toll", "_law_many", "_law_strength", "_law_other", "_law_pays"]) (sc := defScope s_law_great) (by decide +kernel)) (fun _ _ _ _ _ => (pg_tup rfl (pgs_cons (pg_name (i := 5) sc_law_great.nd rfl (Or.inl rfl)) (pgs_cons (pg_name (i := 3) sc_law_great.nd rfl (Or.inl rfl)) (pgs_cons (pg_name (i := 4) sc_law_great.nd rfl (Or.inl rfl)) pgs_nil))))) (fun _ _ _ _ _ => pts_nil) (fun _ _ _ _ _ => (pe_tup (pa_cons (pv 5) (pa_cons (pv 3) (pa_cons (pe_callB (call_min2 rfl) (by rfl) m_min (by decide +kernel) (pa_cons (pv 4) (pa_cons (pe_op op_pow pe_int pe_int) pa_nil))) pa_nil))))))))))), ?_⟩
    refine q_asgL (el_lst ea_nil (by decide)) fun D H1 hD e1 gD => ?_
    have nDp : D ≠ p := (bx.ne hD).symm
    have b1 := bx.ex e1
    refine s_at [some (.ref p), some (.ref D), none, none, none, none, none, none] rfl ?_
    refine q_forR0 ((dr_I0 (g := fun i j => i + j) (S := fun r => 2 ≤ r ∧ r ≤ 24) (dr_c (i := 2) (fun H1 => ev_c)) (dr_take (p := p) (m := 23) rfl (fun H1 => ev_c) (by decide) (by decide)) (fun i j e r => by
      have e : i = 2 := e
      omega)) H1 n b1 (by omega) _ fun r H2 hr x2 b2 => ?_)
    have gD2 := x2 _ _ nDp gD
    obtain ⟨m, rfl⟩ := Int.eq_ofNat_of_zero_le (show 0 ≤ r by omega)
    refine q_forR1 (n := (m : Int)) (ea_cons ev_c ea_nil) ⟨by omega, by omega⟩ (fun k σ' H' => ∃ (y2 y3 y4 y5 y6 y7 : Option V) (ws : List V) (ls : List Lot), σ' = [some (.ref p), some (.ref D), y2, y3, y4, y5, y6, y7] ∧ ExB p H H' ∧ Bx H' p (n + 1 + 20 * k) ∧ H' D = some (.lst ws) ∧ LotsA K H' ws ls ∧ ls.length = k ∧ ∀ l ∈ ls, 0 ≤ l.2.1 ∧ l.2.1 ≤ 100000000 ∧ 1 ≤ l.2.2 ∧ l.2.2 ≤ 1000000000000) (fun H3 e3 => ⟨_, _, _, _, _, _, [], [], rfl, (ExB.of e1).trans (x2.trans (.of e3)), b2.ex e3, e3 _ _ gD2, .nil, rfl, fun l hl => nomatch hl⟩) (fun k σ' H3 hk hW => ?_) (fun σ' H3 hW => ?_)
    · obtain ⟨y2, y3, y4, y5, y6, y7, ws, ls, rfl, x3, b3, g3, l3, hl, fi⟩ := hW
      refine s_at [some (.ref p), some (.ref D), some (.int (k : Int)), y3, y4, y5, y6, y7] rfl ?_
      refine q_asgDr (n := n + 1 + 20 * k) (dr_ixL (K := K) (S := fun t => 0 ≤ t ∧ t ≤ 100000000) (dra_cons (dr_of (i := 0) (fun H1 => ev_c) (by decide)) (dra_cons (dr_of (i := 1) (fun H1 => ev_c) (by decide)) (dra_cons (dr_I0 (g := fun i j => i + j) (dr_c (i := 1) (fun H1 => ev_c)) (dr_take (p := p) (m := 5) rfl (fun H1 => ev_c) (by decide) (by decide)) (fun i j e r => by
        have e : i = 1 := e
        omega)) (dra_cons (dr_weak (dr_wide (p := p) (M := 100000000) rfl (dr_of (i := 100000000) (fun H1 => ev_pow ⟨by decide, by decide, by decide⟩ (by decide)) (by decide))) (fun r hr => by omega)) dra_nil)))) (by decide) (dr_take (p := p) (m := 4) rfl (fun H1 => ev_c) (by decide) (by decide))) b3 (by omega) fun t H4 ht x4 b4 => ?_
      refine s_at [some (.ref p), some (.ref D), some (.int (k : Int)), some (.int t), y4, y5, y6, y7] rfl ?_
      refine q_asgDr (dr_wide (p := p) (M := 1000000000000) rfl (dr_ixL (K := K) (S := fun m => 0 < m ∧ m ≤ 1000000000000) (dra_cons (dr_of (i := 10) (fun H1 => ev_c) (by decide)) (dra_cons (dr_of (i := 1000) (fun H1 => ev_c) (by decide)) (dra_cons (dr_of (i := 1000000000000) (fun H1 => ev_pow ⟨by decide, by decide, by decide⟩ (by decide)) (by decide)) dra_nil))) (by decide) (dr_take (p := p) (m := 3) rfl (fun H1 => ev_c) (by decide) (by decide)))) b4 (by omega) fun mn H5 hm x5 b5 => ?_
      refine s_at [some (.ref p), some (.ref D), some (.int (k : Int)), some (.int t), some (.int mn), y5, y6, y7] rfl ?_
      refine q_asgDr (dr_I0 (g := fun i j => i - j) (S := fun _ => True) (dr_take (p := p) (m := 20) rfl (fun H1 => ev_c) (by decide) (by decide)) (dr_c (i := 10) (fun H1 => ev_c)) (fun _ _ _ _ => trivial)) b5 (by omega) fun s H6 _ x6 b6 => ?_
      refine s_at [some (.ref p), some (.ref D), some (.int (k : Int)), some (.int t), some (.int mn), some (.int s), y6, y7] rfl ?_
      have x36 := x4.trans (x5.trans x6)
      obtain ⟨bl3, hbl3⟩ := b3.lst
      have g6 := x36 _ _ nDp g3
      have l6 : LotsA K H6 ws ls := LotsA.exB' l3 x36 hbl3
      have wl : ws.length = k := by rw [All2.len l6, hl]
      refine q_cut (M := fun σ' H' => ∃ (s' : Int) (y6 y7 : Option V), σ' = [some (.ref p), some (.ref D), some (.int (k : Int)), some (.int t), some (.int mn), some (.int s'), y6, y7] ∧ ExB p H6 H' ∧ Bx H' p (n + 1 + 20 * k + 14)) ?_ (fun σ' H7 hM => ?_)
      · have b6 := b6.le (show _ ≤ n + 1 + 20 * k + 8 by omega)
        refine et_neNil (K := K) (te := tVar 1) (ev_var rfl) (sq_of g6) (dp_lots l6) (fun d hd => by
          obtain ⟨l, _, rfl⟩ := List.mem_map.mp hd
          exact nice_tuple (nice_ints [l.1, l.2.1, l.2.2])) (by decide) H6 (Ex.refl _) _ fun H7 e7 => ?_
        have b7 := b6.ex e7
        refine ite2 (fun hne => ?_) (fun _ => ite2 (fun z => by cases z) (fun _ => ⟨s, _, _, rfl, .of e7, b7.le (by omega)⟩))
        · have wpos : 0 < ws.length := by
            cases ws with
            | nil => cases hne
            | cons _ _ => simp
          refine dr_take (p := p) (m := 3) (E := E0) (tm := tC (.int 3)) (ib := 0) rfl (fun H1 => ev_c) (by decide) (by decide) H7 _ b7 (by omega) _ fun r8 H8 _ x8 b8 => ?_
          refine ⟨r8, 0, rfl, rfl, _, rfl, ite2 (fun hc => ?_) (fun hc => ⟨s, _, _, rfl, (ExB.of e7).trans x8, b8.le (by omega)⟩)⟩
          have g8 := x8 _ _ nDp (e7 _ _ g6)
          refine ⟨.ref D, rfl, ?_⟩
          refine (ev_un ev_c ru_neg : Ev (tUn (rU fun i => .int (-i)) (tC (.int 1))) _ H8 (.int (-1))) H8 (Ex.refl _) _ fun H9 e9 => ⟨.ref p, rfl, ?_⟩
          have g9 := e9 _ _ g8
          refine (ev_min2 (i := 3) ev_c (ev_len (K := K) (ev_var rfl) (sq_of g9))) H9 (Ex.refl _) _ fun H10 e10 => ⟨p, _, _, rfl, by split <;> omega, by split <;> omega, (b8.ex e9).ex e10, by omega, fun r11 H11 r0 r1 x11 b11 => ⟨-1, r11, rfl, rfl, ?_⟩⟩
          have g11 := x11 _ _ nDp (e10 _ _ g9)
          obtain ⟨bl8, hbl8⟩ := b8.lst
          have x611 : ExB p H6 H11 := (ExB.of e7).trans (x8.trans ((ExB.of (e9.trans e10)).trans x11))
          have l11 : LotsA K H11 ws ls := LotsA.exB' l6 x611 (b6.lst.choose_spec)
          obtain ⟨kk, x, hx, hat⟩ := atI_back (xs := ws) r0 (by split at r1 <;> omega)
          obtain ⟨l, hlk, pp, rfl, hpp⟩ := All2.get l11 hx
          have fl := fi l (List.mem_of_getElem? hlk)
          refine ⟨D, ws, -1 - r11, .ref pp, rfl, rfl, sq_of g11, hat, ?_⟩
          refine g_at [some (.ref p), some (.ref D), some (.int (k : Int)), some (.int t), some (.int mn), some (.int s), some (.ref pp), y7] rfl ?_
          try dsimp only
          refine (ev_op (ev_var rfl) ev_c (rv_ixT (K := K) hpp rfl) : Ev _ _ H11 (.int l.2.1)) H11 (Ex.refl _) _ fun H12 e12 => ⟨.ref p, rfl, ?_⟩
          refine (ev_op ev_c (ev_min2 (ev_op (ev_var rfl) ev_c (rv_ixT (K := K) (ex_t e12 hpp) rfl) : Ev _ _ H12 (.int l.2.2)) (ev_pow (c := 1000000) ⟨by decide, by decide, by decide⟩ (by decide))) rv_I0) H12 (Ex.refl _) _ fun H13 e13 => ⟨p, _, _, rfl, by split <;> omega, by split <;> omega, (b11.ex e12).ex e13, by omega, fun r14 H14 q0 q1 x14 b14 => ⟨l.2.1, r14, rfl, rfl, .inl ⟨by omega, by omega⟩, .ref p, rfl, p, 3, _, rfl, by decide, by decide, b14, by omega, fun r15 H15 _ _ x15 b15 => ⟨_, _, rfl, rfl, ?_⟩⟩⟩
          refine g_at [some (.ref p), some (.ref D), some (.int (k : Int)), some (.int t), some (.int mn), some (.int s), some (.ref pp), some (.int (l.2.1 * r14 + r15))] rfl ?_
          try dsimp only
          obtain ⟨bl11, hbl11⟩ := b11.lst
          have x1115 : ExB p H11 H15 := (ExB.of (e12.trans e13)).trans (x14.trans x15)
          refine s_asg (ev_min2 (ev_pow (c := 100000000000) ⟨by decide, by decide, by decide⟩ (by decide)) (ev_op (ev_op (ev_var rfl) ev_c (rv_ixT (K := K) (x1115.t hbl11 hpp) rfl)) (ev_var rfl) rv_I0)) fun H16 e16 => ⟨_, _, _, rfl, x611.trans (x1115.trans (.of e16)), (b15.ex e16).le (by omega)⟩
      obtain ⟨s', y6', y7', rfl, x7, b7⟩ := hM
      have g7 := x7 _ _ nDp g6
      refine s_appU g7 (ev_var rfl) (eu_tup (ea_cons (ev_var rfl) (ea_cons (ev_var rfl) (ea_cons (ev_var rfl) ea_nil))) (by show 3 ≤ 100000; decide)) (by omega) fun T H8 hT e8 h8 => ?_
      have g8 := e8 _ _ g7
      have b6' := b6
      obtain ⟨bl6, hbl6⟩ := b6'.lst
      have l8 : LotsA K H8 ws ls := LotsA.ex' (LotsA.exB' l6 x7 hbl6) e8
      refine ⟨_, _, _, _, _, _, ws ++ [.ref T], ls ++ [(s', t, mn)], rfl, (x3.trans (x36.trans (x7.trans (.of e8)))).mut hD, ((b7.ex e8).mut nDp.symm).le (by omega), upd_same, LotsA.exB' (All2.app l8 (.cons ⟨T, rfl, st_of h8⟩ .nil)) (ExB.refl _ _).upd g8, by rw [List.length_append, hl]; rfl, fun l hlm => ?_⟩
      rcases List.mem_append.mp hlm with h | h
      · exact fi l h
      · rw [List.mem_singleton.mp h]
        exact ⟨ht.1, ht.2, hm.1, hm.2⟩
    · obtain ⟨y2, y3, y4, y5, y6, y7, ws, ls, rfl, x3, b3, g3, l3, hl, fi⟩ := hW
      have hl : ls.length = m := hl
      have pos : PosL ls := fun l hlm => (fi l hlm).2.2.1
      have pne : 0 < (packL ls).length := packL_ne (by omega)
      have plen := packL_len ls
      have pfit : ∀ l ∈ packL ls, 0 ≤ l.2.1 ∧ l.2.1 ≤ 100000000 ∧ 1 ≤ l.2.2 := fun l hlm => by
        have pp := packL_pos pos l hlm
        have h2 := mem_spr hlm pp
        rw [packL_spr pos] at h2
        obtain ⟨l2, h3, h4⟩ := List.mem_flatMap.mp h2
        have h5 := (List.mem_replicate.mp h4).2
        have h6 := fi l2 h3
        have h7 : l.2.1 = l2.2.1 := congrArg (·.2) h5
        exact ⟨by omega, by omega, pp⟩
      refine s_retH (D := { nx := fun _ H' => Q .non H', rt := Q }) (ls := (packL ls).map fun l : Lot => (l.1, l.2.1, if 1000000000000 < l.2.2 then 1000000000000 else l.2.2)) (hd_tup (K := K) (ls_map (K := K) (i := 5) (j := 3) (k := 4) (vs := [5, 3, 4]) (fun l : Lot => (l.1, l.2.1, if 1000000000000 < l.2.2 then 1000000000000 else l.2.2)) (hd_callV (K := K) (ev_var rfl) g3 l3 (by omega)) (by omega) (by intros; rfl) (fun l H4 e4 hlm => ev_var rfl) (fun l H4 e4 hlm => ev_var rfl) (fun l H4 e4 hlm => ev_min2 (ev_var rfl) (ev_pow ⟨by decide, by decide, by decide⟩ (by decide))))) fun z H4 e4 hz => ?_
      refine q z H4 _ (x3.trans (.of e4)) ((b3.ex e4).le (by omega)) hz (by rw [List.length_map]; exact pne) (by rw [List.length_map]; omega) (adj_map (f := fun l : Lot => (l.1, l.2.1, if 1000000000000 < l.2.2 then 1000000000000 else l.2.2)) (fun l => ⟨rfl, rfl⟩) (packL_adj ls)) fun l hlm => ?_
      obtain ⟨l2, h2, rfl⟩ := List.mem_map.mp hlm
      obtain ⟨f1, f2, f3⟩ := pfit l2 h2
      refine ⟨f1, f2, ?_, ?_⟩ <;> dsimp only <;> split <;> omega
theorem ok_law_total {f : Addr} {fd : FuncData} (F : FnP K "_law_total" s_law_total f fd) (g : mg "_law_total" = some (.ref f)) (b : Binds K fd ["_law_herd"] []) (m_sum : mg "sum" = none) : Has P w K mg base 1 "_law_total" ["_law_herd"] (spTotal K) f fd := by
  refine ⟨F.ok sc_law_total (fun vs H Q E h => ?_) (fun cdv A outer s H vs Q E hr h => ?_), g, F.kp, b⟩
  · obtain ⟨v, ls, rfl, _⟩ := h
    rfl
  · obtain ⟨v, ls, rfl, hv, ft, q⟩ := h
    refine ⟨_, PSs.nox (pss_one (ps_ret (pe_callB (cr_sum rfl) (by rfl) m_sum (by decide +kernel) (pa_cons (pe_lc (own := [("_law_strength", 1), ("_law_toll", 2), ("_law_many", 3)]) (g := gTup K 3 (gCons (gName 1) (gCons (gName 2) (gCons (gName 3) gNil)))) (by rfl) sc_law_total.nd (pi_tup (pv 0)) (blkOk_by (own := [("_law_strength", 1), ("_law_toll", 2), ("_law_many", 3)]) (N := ["_law_herd", "_law_strength", "_law_toll", "_law_many"]) (sc := defScope s_law_total) (by decide +kernel)) (fun _ _ _ _ _ => (pg_tup rfl (pgs_cons (pg_name (i := 1) sc_law_total.nd rfl (Or.inl rfl)) (pgs_cons (pg_name (i := 2) sc_law_total.nd rfl (Or.inl rfl)) (pgs_cons (pg_name (i := 3) sc_law_total.nd rfl (Or.inl rfl)) pgs_nil))))) (fun _ _ _ _ _ => pts_nil) (fun _ _ _ _ _ => (pe_op op_mul (pv 1) (pv 3)))) pa_nil)))), ?_⟩
    refine s_ret (D := { nx := fun _ H' => Q .non H', rt := Q }) (ev_sumI (K := K) (ns := ls.map fun l : Lot => l.1 * l.2.2) ?_) fun H1 e1 => q H1 e1
    rw [List.map_map]
    refine el_mapHd (K := K) (fun l => V.int (l.1 * l.2.2)) (hd_val (ev_var rfl) hv) (by have := ft.1; omega) (by intros; rfl) fun l H1 e1 hl => ?_
    have := ft.2 l hl
    exact ev_op (ev_var rfl) (ev_var rfl) (rv_I (.inr ⟨by omega, by omega⟩))
end
end K79
set_option maxHeartbeats 4000000
namespace K79
open PySem PySem.Spec PyProof.Rows L2 Evl HH RZ
section
variable {P : Program} {w : World} {K : PySem.W.Frag} {mg : Str → Option Value} {base : Heap}
theorem ok_law_likes_right {f f1 f2 f3 f4 f5 f6 f7 : Addr} {fd fd1 fd2 fd3 fd4 fd5 fd6 fd7 : FuncData} (F : FnP K "_law_likes_right" s_law_likes_right f fd) (g : mg "_law_likes_right" = some (.ref f)) (b : Binds K fd ["_law_herd", "_law_by", "_law_ends", "_law_often"] [])
    (h_law_packed : Has P w K mg base 1 "_law_packed" ["_law_lots"] (spPackA K) f1 fd1) (h_law_total : Has P w K mg base 1 "_law_total" ["_law_herd"] (spTotal K) f2 fd2) (h_herd_last : Has P w K mg base 4 "herd_last" ["herd"] (spHerd1 K lastLots) f3 fd3) (h_herd_passings : Has P w K mg base 5 "herd_passings" ["herd"] (spHerdPassings K) f4 fd4) (h_herd_places : Has P w K mg base 4 "herd_places" ["herd"] (spHerdPlaces K) f5 fd5)
    (h_herd_passed : Has P w K mg base 4 "herd_passed" ["herd"] (spHerdPassed K) f6 fd6) (h_herd_first : Has P w K mg base 2 "herd_first" ["herd"] (spHerd1 K firstLots) f7 fd7) (m_tuple : mg "tuple" = none) : Has P w K mg base 6 "_law_likes_right" ["_law_herd", "_law_by", "_law_ends", "_law_often"] (spLikes K) f fd := by
  refine ⟨F.ok sc_law_likes_right (fun vs H Q E h => ?_) (fun cdv A outer s H vs Q E hr h => ?_), g, F.kp, b⟩
  · obtain ⟨v, e, o, by', ls, rfl, _⟩ := h
    rfl
  · obtain ⟨v, e, o, c, ls, rfl, hv, c2, c9, he, go, l0, l24, fi, q⟩ := h
    have hu : (A.deeper (envOfC "_law_likes_right" (defScope s_law_likes_right) s.heap.objs.size f cdv)).units + 64 < cLine := by
      have := hr.un
      omega
    refine ⟨_, PSs.nox (pss_cons (ps_set (i := 4) sc_law_likes_right.nd rfl (.inl rfl) (pe_tupleOf (by rfl) m_tuple (pe_lc (own := [("_law_strength", 11), ("_law_toll", 12), ("_law_many", 13)]) (g := gTup K 3 (gCons (gName 11) (gCons (gName 12) (gCons (gName 13) gNil)))) (by rfl) sc_law_likes_right.nd (pi_tup (pv 0)) (blkOk_by (own := [("_law_strength", 11), ("_law_toll", 12), ("_law_many", 13)]) (N := ["_law_herd", "_law_by", "_law_ends", "_law_often", "_law_great_here", "_law_more", "_law_even", "_law_totals", "_law_ahead", "_law_later", "_law_some", "_law_strength", "_law_toll", "_law_many"]) (sc := defScope s_law_likes_right) (by decide +kernel)) (fun _ _ _ _ _ => (pg_tup rfl (pgs_cons (pg_name (i := 11) sc_law_likes_right.nd rfl (Or.inl rfl)) (pgs_cons (pg_name (i := 12) sc_law_likes_right.nd rfl (Or.inl rfl)) (pgs_cons (pg_name (i := 13) sc_law_likes_right.nd rfl (Or.inl rfl)) pgs_nil))))) (fun _ _ _ _ _ => pts_nil) (fun _ _ _ _ _ => (pe_tup (pa_cons (pe_op op_mul (pv 1) (pv 11)) (pa_cons (pe_op op_mul (pv 1) (pv 12)) (pa_cons (pv 13) pa_nil))))))))
      (pss_cons (ps_set (i := 5) sc_law_likes_right.nd rfl (.inl rfl) (pe_tupleOf (by rfl) m_tuple (pe_lc (own := [("_law_strength", 11), ("_law_toll", 12), ("_law_many", 13)]) (g := gTup K 3 (gCons (gName 11) (gCons (gName 12) (gCons (gName 13) gNil)))) (by rfl) sc_law_likes_right.nd (pi_tup (pv 0)) (blkOk_by (own := [("_law_strength", 11), ("_law_toll", 12), ("_law_many", 13)]) (N := ["_law_herd", "_law_by", "_law_ends", "_law_often", "_law_great_here", "_law_more", "_law_even", "_law_totals", "_law_ahead", "_law_later", "_law_some", "_law_strength", "_law_toll", "_law_many"]) (sc := defScope s_law_likes_right) (by decide +kernel)) (fun _ _ _ _ _ => (pg_tup rfl (pgs_cons (pg_name (i := 11) sc_law_likes_right.nd rfl (Or.inl rfl)) (pgs_cons (pg_name (i := 12) sc_law_likes_right.nd rfl (Or.inl rfl)) (pgs_cons (pg_name (i := 13) sc_law_likes_right.nd rfl (Or.inl rfl)) pgs_nil))))) (fun _ _ _ _ _ => pts_nil) (fun _ _ _ _ _ => (pe_tup (pa_cons (pe_op op_add (pv 11) (pv 1)) (pa_cons (pv 12) (pa_cons (pv 13) pa_nil))))))))
      (pss_cons (ps_if (PW.pt (pw_or (pt_cmpR (op_neD hu) (pe_lst (pa_cons (pe_call h_herd_passed.G (hr.mono (by decide)) (by rfl) h_herd_passed.g h_herd_passed.kp h_herd_passed.b .nil pass0 (pa_cons (pv 4) pa_nil)) (pa_cons (pe_call h_herd_passed.G (hr.mono (by decide)) (by rfl) h_herd_passed.g h_herd_passed.kp h_herd_passed.b .nil pass0 (pa_cons (pv 5) pa_nil)) pa_nil))) (pe_lst (pa_cons (pv 3) (pa_cons (pv 3) pa_nil))) (nomark _)) (pw_or1 (pt_cmpR (op_neD hu) (pe_call h_herd_places.G (hr.mono (by decide)) (by rfl) h_herd_places.g h_herd_places.kp h_herd_places.b .nil pass0 (pa_cons (pv 4) pa_nil)) (pe_call h_herd_places.G (hr.mono (by decide)) (by rfl) h_herd_places.g h_herd_places.kp h_herd_places.b .nil pass0 (pa_cons (pv 0) pa_nil)) (nomark _))))) (pss_one (ps_ret pe_bl)) pss_nil)
      (pss_cons (ps_if (pt_cmpR (op_neD hu) (pe_call h_herd_last.G (hr.mono (by decide)) (by rfl) h_herd_last.g h_herd_last.kp h_herd_last.b .nil pass0 (pa_cons (pv 5) pa_nil)) (pe_tupleOf (by rfl) m_tuple (pe_lc (own := [("_law_strength", 11), ("_law_toll", 12), ("_law_many", 13)]) (g := gTup K 3 (gCons (gName 11) (gCons (gName 12) (gCons (gName 13) gNil)))) (by rfl) sc_law_likes_right.nd (pi_tup (pv 2)) (blkOk_by (own := [("_law_strength", 11), ("_law_toll", 12), ("_law_many", 13)]) (N := ["_law_herd", "_law_by", "_law_ends", "_law_often", "_law_great_here", "_law_more", "_law_even", "_law_totals", "_law_ahead", "_law_later", "_law_some", "_law_strength", "_law_toll", "_law_many"]) (sc := defScope s_law_likes_right) (by decide +kernel)) (fun _ _ _ _ _ => (pg_tup rfl (pgs_cons (pg_name (i := 11) sc_law_likes_right.nd rfl (Or.inl rfl)) (pgs_cons (pg_name (i := 12) sc_law_likes_right.nd rfl (Or.inl rfl)) (pgs_cons (pg_name (i := 13) sc_law_likes_right.nd rfl (Or.inl rfl)) pgs_nil))))) (fun _ _ _ _ _ => pts_nil) (fun _ _ _ _ _ => (pe_tup (pa_cons (pe_op op_add (pv 11) (pv 1)) (pa_cons (pv 12) (pa_cons (pv 13) pa_nil))))))) (nomark _)) (pss_one (ps_ret pe_bl)) pss_nil)
      (pss_cons (ps_set (i := 6) sc_law_likes_right.nd rfl (.inl rfl) (pe_call h_law_packed.G (hr.mono (by decide)) (by rfl) h_law_packed.g h_law_packed.kp h_law_packed.b .nil pass0 (pa_cons (pe_lc (own := [("_law_strength", 11), ("_law_toll", 12), ("_law_many", 13)]) (g := gTup K 3 (gCons (gName 11) (gCons (gName 12) (gCons (gName 13) gNil)))) (by rfl) sc_law_likes_right.nd (pi_tup (pv 0)) (blkOk_by (own := [("_law_strength", 11), ("_law_toll", 12), ("_law_many", 13)]) (N := ["_law_herd", "_law_by", "_law_ends", "_law_often", "_law_great_here", "_law_more", "_law_even", "_law_totals", "_law_ahead", "_law_later", "_law_some", "_law_strength", "_law_toll", "_law_many"]) (sc := defScope s_law_likes_right) (by decide +kernel)) (fun _ _ _ _ _ => (pg_tup rfl (pgs_cons (pg_name (i := 11) sc_law_likes_right.nd rfl (Or.inl rfl)) (pgs_cons (pg_name (i := 12) sc_law_likes_right.nd rfl (Or.inl rfl)) (pgs_cons (pg_name (i := 13) sc_law_likes_right.nd rfl (Or.inl rfl)) pgs_nil))))) (fun _ _ _ _ _ => pts_nil) (fun _ _ _ _ _ => (pe_tup (pa_cons (pv 11) (pa_cons (pv 1) (pa_cons (pe_op op_add pe_int (pe_op op_modN (pv 13) (pe_op op_pow pe_int pe_int))) pa_nil)))))) pa_nil)))
      (pss_cons (ps_setLc (i := 7) (own := [("_law_some", 10)]) (g := gName 10) (by rfl) sc_law_likes_right.nd rfl rfl (sw_true rfl rfl rfl (by decide +kernel)) (pi_tup (pe_tup (pa_cons (pe_call h_herd_first.G (hr.mono (by decide)) (by rfl) h_herd_first.g h_herd_first.kp h_herd_first.b .nil pass0 (pa_cons (pv 6) pa_nil)) (pa_cons (pv 6) (pa_cons (pe_call h_herd_last.G (hr.mono (by decide)) (by rfl) h_herd_last.g h_herd_last.kp h_herd_last.b .nil pass0 (pa_cons (pv 6) pa_nil)) pa_nil))))) (blkOk_by (own := [("_law_some", 10)]) (N := ["_law_herd", "_law_by", "_law_ends", "_law_often", "_law_great_here", "_law_more", "_law_even", "_law_totals", "_law_ahead", "_law_later", "_law_some", "_law_strength", "_law_toll", "_law_many"]) (sc := defScope s_law_likes_right) (by decide +kernel)) (fun _ _ _ _ _ => (pg_name (i := 10) sc_law_likes_right.nd rfl (Or.inl rfl))) (fun _ _ _ _ _ => pts_nil) (fun _ _ _ _ _ => (pe_call h_law_total.G (hr.mono (by decide)) (by rfl) h_law_total.g h_law_total.kp h_law_total.b .nil pass0 (pa_cons (pv 10) pa_nil))))
      (pss_cons (ps_par (i := 8) (j := 9) (by rfl) sc_law_likes_right.nd rfl rfl (by decide) rfl rfl (pa_cons (pe_call h_herd_passings.G (hr.mono (by decide)) (by rfl) h_herd_passings.g h_herd_passings.kp h_herd_passings.b .nil pass0 (pa_cons (pe_call h_herd_first.G (hr.mono (by decide)) (by rfl) h_herd_first.g h_herd_first.kp h_herd_first.b .nil pass0 (pa_cons (pv 6) pa_nil)) pa_nil)) (pa_cons (pe_call h_herd_passings.G (hr.mono (by decide)) (by rfl) h_herd_passings.g h_herd_passings.kp h_herd_passings.b .nil pass0 (pa_cons (pv 6) pa_nil)) pa_nil)) (by rfl))
      (pss_one (ps_ret (pe_cmpR (op_eqD hu) (pe_lst (pa_cons (pe_op op_sub (pe_ix ix_list (pv 7) pe_int (fun _ _ => rfl)) (pe_ix ix_list (pv 7) pe_int (fun _ _ => rfl))) (pa_cons (pe_op op_sub (pe_ix ix_list (pv 7) pe_int (fun _ _ => rfl)) (pe_ix ix_list (pv 7) pe_int (fun _ _ => rfl))) pa_nil))) (pe_lst (pa_cons (pe_op op_mul (pv 1) (pe_op op_sub (pv 8) (pv 9))) (pa_cons (pe_op op_mul (pv 1) (pv 9)) pa_nil))) (nomark _))))))))))), ?_⟩
    have cp : 0 < c := by omega
    have fit : Fit ls := ⟨by omega, fun l hl => by
      obtain ⟨h1, h2, h3, h4⟩ := fi l hl
      exact ⟨h1, by omega, by omega, by omega⟩⟩
    have pos : PosL ls := fun l hl => (fi l hl).2.2.1
    have cm : ∀ x : Int, CMul c x := fun x => .inl ⟨by omega, by omega⟩
    have e1 : (ls.map fun l : Lot => (c * l.1, c * l.2.1, l.2.2)) = sclL c 0 ls := by
      unfold sclL
      refine List.map_congr_left fun l _ => ?_
      rw [Int.add_zero]
    have e2 : ∀ ms : List Lot, (ms.map fun l : Lot => (l.1 + c, l.2.1, l.2.2)) = sclL 1 c ms := fun ms => by
      unfold sclL
      refine List.map_congr_left fun l _ => ?_
      rw [Int.one_mul, Int.one_mul]
    refine q_asgH (hd_tup (K := K) (ls_map (K := K) (i := 11) (j := 12) (k := 13) (vs := [11, 12, 13]) (fun l : Lot => (c * l.1, c * l.2.1, l.2.2)) (hd_val (ev_var rfl) hv) (by omega) (by intros; rfl) (fun l H4 e4 hlm => ev_op (ev_var rfl) (ev_var rfl) (rv_I (cm _))) (fun l H4 e4 hlm => ev_op (ev_var rfl) (ev_var rfl) (rv_I (cm _))) (fun l H4 e4 hlm => ev_var rfl))) fun gv H1 x1 hg => ?_
    rw [e1] at hg
    refine s_at [some v, some (.int c), some e, some (.ref o), some gv, none, none, none, none, none, none, none, none, none] rfl ?_
    refine q_asgH (hd_tup (K := K) (ls_map (K := K) (i := 11) (j := 12) (k := 13) (vs := [11, 12, 13]) (fun l : Lot => (l.1 + c, l.2.1, l.2.2)) (hd_val (ev_var rfl) (hv.ex x1)) (by omega) (by intros; rfl) (fun l H4 e4 hlm => ev_op (ev_var rfl) (ev_var rfl) rv_I0) (fun l H4 e4 hlm => ev_var rfl) (fun l H4 e4 hlm => ev_var rfl))) fun mv H2 x2 hm => ?_
    rw [e2] at hm
    refine s_at [some v, some (.int c), some e, some (.ref o), some gv, some mv, none, none, none, none, none, none, none, none] rfl ?_
    have x02 := x1.trans x2
    have fitG : Fit (sclL c 0 ls) := ⟨by rw [scl_len]; omega, fun l hl => by
      obtain ⟨l2, h2, rfl⟩ := List.mem_map.mp hl
      obtain ⟨h1, h2, h3, h4⟩ := fi l2 h2
      have h5 := Int.mul_nonneg (Int.le_of_lt cp) h1
      have h6 : c * l2.2.1 ≤ 9 * 100000000 := Int.mul_le_mul c9 h2 h1 (by decide)
      exact ⟨h5, by dsimp only; omega, by dsimp only; omega, by dsimp only; omega⟩⟩
    have posG : PosL (sclL c 0 ls) := fun l hl => by
      obtain ⟨l2, h2, rfl⟩ := List.mem_map.mp hl
      exact pos l2 h2
    have fitM : Fit (sclL 1 c ls) := ⟨by rw [scl_len]; omega, fun l hl => by
      obtain ⟨l2, h2, rfl⟩ := List.mem_map.mp hl
      obtain ⟨h1, h2, h3, h4⟩ := fi l2 h2
      exact ⟨by dsimp only; omega, by dsimp only; omega, by dsimp only; omega, by dsimp only; omega⟩⟩
    have hgo : EvX K (tLst (tCons (tVar 3) (tCons (tVar 3) tNil))) [some v, some (.int c), some e, some (.ref o), some gv, some mv, none, none, none, none, none, none, none, none] H2 (.list [.list ((endG ls ls.length).2.2.map PyData.int), .list ((endG ls ls.length).2.2.map PyData.int)]) :=
      ex_lst (xs_cons (ex_Lv (ev_var rfl) (x02 _ _ go)) (xs_cons (ex_Lv (ev_var rfl) (x02 _ _ go)) xs_nil)) (by show 2 ≤ 100000; decide)
    refine q_when (b := false) (et_or (a := false) (b := false) (et_neX (K := K) (k := 2) (d := .list [.list ((endG ls ls.length).2.2.map PyData.int), .list ((endG ls ls.length).2.2.map PyData.int)]) (ex_lst (xs_cons (ex_Ls (ns := (endG ls ls.length).2.2) ?_) (xs_cons (ex_Ls (ns := (endG ls ls.length).2.2) ?_) xs_nil)) (by show 2 ≤ 100000; decide)) (fun H3 e3 => ?_) (nice_list fun d hd => ?_) (by decide)) fun _ => et_neX (K := K) (k := 2) (d := pairsD (placesG ls)) ?_ (fun H3 e3 => ex_placesH (hd_val (ev_var rfl) (hv.ex (x02.trans e3))) fit pos) (nice_pairs _) (by decide)) (fun z => by cases z) fun _ H3 x3 => ?_
    · have := el_passedH (K := K) (E := E0) (hd_val (K := K) (te := tVar 4) (σ := [some v, some (.int c), some e, some (.ref o), some gv, some mv, none, none, none, none, none, none, none, none]) (H := H2) (ev_var rfl) (hg.ex x2)) fitG
      rw [(scl_end cp fit).2.2] at this
      exact this
    · have := el_passedH (K := K) (E := E0) (hd_val (K := K) (te := tVar 5) (σ := [some v, some (.int c), some e, some (.ref o), some gv, some mv, none, none, none, none, none, none, none, none]) (H := H2) (ev_var rfl) hm) fitM
      rw [(scl_end (by decide) fit).2.2] at this
      exact this
    · exact fun H4 e4 Q4 q4 => hgo H4 (e3.trans e4) Q4 q4
    · rcases List.mem_cons.mp hd with rfl | hd
      · exact nice_L _
      · rw [List.mem_singleton.mp hd]
        exact nice_L _
    · have := ex_placesH (K := K) (E := E0) (hd_val (K := K) (te := tVar 4) (σ := [some v, some (.int c), some e, some (.ref o), some gv, some mv, none, none, none, none, none, none, none, none]) (H := H2) (ev_var rfl) (hg.ex x2)) fitG posG
      rw [scl_places cp fit] at this
      exact this
    have x03 := x02.trans x3
    have lastL : (packL (lastLots ls)).length ≤ 1000 := by
      have h1 := (endG_facts ls ls.length).2.1
      have h2 : (lastLots ls).length = (endG ls ls.length).1.length := List.length_map ..
      have h3 := packL_len (lastLots ls)
      omega
    refine q_when (b := false) (et_neX (K := K) (k := 2) (d := dHerd (sclL 1 c (packL (lastLots ls)))) (ex_hd ?_) (fun H4 e4 => ex_hd ?_) (nice_herd _) (by decide)) (fun z => by cases z) fun _ H4 x4 => ?_
    · have := hd_call1 (K := K) (E := E0) (f := lastLots) (te := tVar 5) (σ := [some v, some (.int c), some e, some (.ref o), some gv, some mv, none, none, none, none, none, none, none, none]) (ev_var rfl) (hm.ex x3) fitM
      rw [scl_last (by decide) fit, scl_packL (by decide)] at this
      exact this
    · have := hd_tup (K := K) (ls_map (K := K) (te := tVar 2) (σ := [some v, some (.int c), some e, some (.ref o), some gv, some mv, none, none, none, none, none, none, none, none]) (i := 11) (j := 12) (k := 13) (vs := [11, 12, 13]) (t1 := tOp (rI0 fun i j => .int (i + j)) (tVar 11) (tVar 1)) (t2 := tVar 12) (t3 := tVar 13) (fun l : Lot => (l.1 + c, l.2.1, l.2.2)) (hd_val (ev_var rfl) (he.ex (x03.trans e4))) lastL (by intros; rfl) (fun l H4 e4 hlm => ev_op (ev_var rfl) (ev_var rfl) rv_I0) (fun l H4 e4 hlm => ev_var rfl) (fun l H4 e4 hlm => ev_var rfl))
      rw [e2] at this
      exact this
    have x04 := x03.trans x4
    have mo : ∀ x : Int, 0 ≤ x.fmod 10000000000 ∧ x.fmod 10000000000 < 10000000000 := fun x => ⟨Int.fmod_nonneg_of_pos _ (by decide), Int.fmod_lt_of_pos _ (by decide)⟩
    refine q_asgH (hd_callP (K := K) (ls_map (K := K) (i := 11) (j := 12) (k := 13) (vs := [11, 12, 13]) (fun l : Lot => (l.1, c, 1 + l.2.2.fmod 10000000000)) (hd_val (ev_var rfl) (hv.ex x04)) (by omega) (by intros; rfl) (fun l H4 e4 hlm => ev_var rfl) (fun l H4 e4 hlm => ev_var rfl) (fun l H4 e4 hlm => ev_op ev_c (ev_op (ev_var rfl) (ev_pow (c := 10000000000) ⟨by decide, by decide, by decide⟩ (by decide)) (rv_I (by decide))) rv_I0)) (by rw [List.length_map]; omega)) fun ev H5 x5 hev => ?_
    have posE0 : PosL (ls.map fun l : Lot => (l.1, c, 1 + l.2.2.fmod 10000000000)) := fun l hl => by
      obtain ⟨l2, h2, rfl⟩ := List.mem_map.mp hl
      have := mo l2.2.2
      dsimp only
      omega
    have mildE0 : Mild (ls.map fun l : Lot => (l.1, c, 1 + l.2.2.fmod 10000000000)) := mild_of (by rw [List.length_map]; omega) fun l hl => by
      obtain ⟨l2, h2, rfl⟩ := List.mem_map.mp hl
      have := mo l2.2.2
      exact ⟨by dsimp only; omega, by dsimp only; omega, by dsimp only; omega, by dsimp only; omega⟩
    have tolE0 : ∀ b ∈ sprR (ls.map fun l : Lot => (l.1, c, 1 + l.2.2.fmod 10000000000)), b.2 = c := fun b hb => by
      obtain ⟨l, hl, h2⟩ := List.mem_flatMap.mp hb
      obtain ⟨l2, _, rfl⟩ := List.mem_map.mp hl
      rw [(List.mem_replicate.mp h2).2]
    have mE : Mild (packL (ls.map fun l : Lot => (l.1, c, 1 + l.2.2.fmod 10000000000))) := ⟨Nat.le_trans (packL_len _) mildE0.1, packL_pos posE0, by rw [packL_spr posE0]; exact mildE0.2.2.1, by rw [packL_spr posE0]; exact mildE0.2.2.2⟩
    have tE : ∀ b ∈ sprR (packL (ls.map fun l : Lot => (l.1, c, 1 + l.2.2.fmod 10000000000))), b.2 = c := by
      rw [packL_spr posE0]
      exact tolE0
    have lE : (packL (ls.map fun l : Lot => (l.1, c, 1 + l.2.2.fmod 10000000000))).length ≤ 24 := by
      have := packL_len (ls.map fun l : Lot => (l.1, c, 1 + l.2.2.fmod 10000000000))
      rw [List.length_map] at this
      omega
    generalize packL (ls.map fun l : Lot => (l.1, c, 1 + l.2.2.fmod 10000000000)) = me at hev mE tE lE
    obtain ⟨E, B, hE⟩ := herd_ends mE
    obtain ⟨mA, lA⟩ := hE.mildA mE (by omega)
    obtain ⟨mZ, lZ⟩ := hE.mildZ mE
    obtain ⟨pay1, pay2⟩ := hE.pays mE tE
    refine s_at [some v, some (.int c), some e, some (.ref o), some gv, some mv, some ev, none, none, none, none, none, none, none] rfl ?_
    refine q_asgL (el_herds (K := K) (lss := [packL (firstLots me), me, packL (lastLots me)]) (j := 10) (vs := [10]) totL (hds_cons (hd_call1 (ev_var rfl) hev mE.fit) (hds_cons (hd_val (ev_var rfl) hev) (hds_cons (hd_call1 (ev_var rfl) hev mE.fit) hds_nil))) (by show 3 ≤ 1000; decide) (by intros; rfl) (fun x ms H6 hx hms => ev_totalH (hd_val (ev_var rfl) hx) ?_)) fun tq H6 htq x6 gt => ?_
    · rcases List.mem_cons.mp hms with rfl | hms
      · exact mZ.fit
      · rcases List.mem_cons.mp hms with rfl | hms
        · exact mE.fit
        · rw [List.mem_singleton.mp hms]
          exact mA.fit
    refine s_at [some v, some (.int c), some e, some (.ref o), some gv, some mv, some ev, some (.ref tq), none, none, none, none, none, none] rfl ?_
    refine q_par2 ?_
    refine ev_passingsH (hd_call1 (K := K) (ev_var rfl) (hev.ex x6) mE.fit) mZ.fit H6 (Ex.refl _) _ fun H7 x7 => ?_
    refine ev_passingsH (hd_val (K := K) (ev_var rfl) ((hev.ex x6).ex x7)) mE.fit H7 (Ex.refl _) _ fun H8 x8 => ⟨_, _, rfl, ?_⟩
    refine s_at [some v, some (.int c), some e, some (.ref o), some gv, some mv, some ev, some (.ref tq), some (.int (passingsG (packL (firstLots me)))), some (.int (passingsG me)), none, none, none, none] rfl ?_
    have gt8 := (x7.trans x8) _ _ gt
    have ix : ∀ (n : Nat) (x : Int) (H9 : Hp), Ex H8 H9 → ([totL (packL (firstLots me)), totL me, totL (packL (lastLots me))] : List Int)[n]? = some x → Ev (tOp (rIxL K) (tVar 7) (tC (.int (n : Int)))) [some v, some (.int c), some e, some (.ref o), some gv, some mv, some ev, some (.ref tq), some (.int (passingsG (packL (firstLots me)))), some (.int (passingsG me)), none, none, none, none] H9 (.int x) := fun n x H9 e9 hx => ev_op (ev_var rfl) ev_c (rv_ixL (K := K) (sq_of (e9 _ _ gt8)) (atI_nat (by
      show (([totL (packL (firstLots me)), totL me, totL (packL (lastLots me))] : List Int).map V.int)[n]? = _
      rw [List.getElem?_map, hx]
      rfl)))
    refine s_ret (D := { nx := fun _ H' => Q .non H', rt := Q }) (ev_eqX (K := K) (k := 1) (d := .list (([c * (passingsG (packL (firstLots me)) - passingsG me), c * passingsG me] : List Int).map PyData.int)) (ex_lst (xs_cons (ex_int ?_) (xs_cons (ex_int ?_) xs_nil)) (by show 2 ≤ 100000; decide)) (fun H9 e9 => ex_lst (xs_cons (ex_int (ev_op (ev_var rfl) (ev_op (ev_var rfl) (ev_var rfl) rv_I0) (rv_I (cm _)))) (xs_cons (ex_int (ev_op (ev_var rfl) (ev_var rfl) (rv_I (cm _)))) xs_nil)) (by show 2 ≤ 100000; decide)) (nice_L _) (by decide)) fun H9 x9 => q H9 (((((x04.trans x5).trans x6).trans x7).trans x8).trans x9)
    · refine ev_is (ev_op (ix 0 _ H8 (Ex.refl _) rfl) (ix 1 _ H8 (Ex.refl _) rfl) rv_I0) ?_
      rw [Int.mul_sub, ← pay1, ← pay2]
      congr 1
      omega
    · refine ev_is (ev_op (ix 1 _ H8 (Ex.refl _) rfl) (ix 2 _ H8 (Ex.refl _) rfl) rv_I0) ?_
      rw [← pay1]
end
end K79
set_option maxHeartbeats 4000000
namespace K79
open PySem PySem.Spec PyProof.Rows L2 Evl HH RZ
section
variable {P : Program} {w : World} {K : PySem.W.Frag} {mg : Str → Option Value} {base : Heap}
theorem ok_law_right {f f1 f2 f3 f4 f5 f6 f7 f8 f9 : Addr} {fd fd1 fd2 fd3 fd4 fd5 fd6 fd7 fd8 fd9 : FuncData} (F : FnP K "_law_right" s_law_right f fd) (g : mg "_law_right" = some (.ref f)) (b : Binds K fd ["_law_box"] [])
    (h_law_take : Has P w K mg base 1 "_law_take" ["_law_box", "_law_many"] spTake f1 fd1) (h_law_great : Has P w K mg base 3 "_law_great" ["_law_box"] (spGreat K) f2 fd2) (h_law_same : Has P w K mg base 4 "_law_same" ["_law_found", "_law_due"] (spSame K 4) f3 fd3) (h_herd_last : Has P w K mg base 4 "herd_last" ["herd"] (spHerd1 K lastLots) f4 fd4) (h_herd_passings : Has P w K mg base 5 "herd_passings" ["herd"] (spHerdPassings K) f5 fd5)
    (h_herd_passed : Has P w K mg base 4 "herd_passed" ["herd"] (spHerdPassed K) f6 fd6) (h_herd_first : Has P w K mg base 2 "herd_first" ["herd"] (spHerd1 K firstLots) f7 fd7) (h_is_herd : Has P w K mg base 3 "is_herd" ["thing"] (spIsHerd K) f8 fd8) (h_law_likes_right : Has P w K mg base 6 "_law_likes_right" ["_law_herd", "_law_by", "_law_ends", "_law_often"] (spLikes K) f9 fd9)
    (m_range : mg "range" = none) (m_len : mg "len" = none) (m_enumerate : mg "enumerate" = none) (m_zip : mg "zip" = none) (m_any : mg "any" = none) (m_sum : mg "sum" = none) : Has P w K mg base 7 "_law_right" ["_law_box"] spRight f fd := by
  refine ⟨F.ok sc_law_right (fun vs H Q E h => ?_) (fun cdv A outer s H vs Q E hr h => ?_), g, F.kp, b⟩
  · obtain ⟨p, rfl, _⟩ := h
    rfl
  · obtain ⟨p, rfl, hb, q⟩ := h
    have hu : (A.deeper (envOfC "_law_right" (defScope s_law_right) s.heap.objs.size f cdv)).units + 64 < cLine := by
      have := hr.un
      omega
    refine ⟨_, PSs.nox (pss_cons (ps_for PassesOwn.never rfl (pi_range1 (by rfl) m_range (pa_cons pe_int pa_nil)) (pg_name (i := 1) sc_law_right.nd rfl (Or.inl rfl))
        (pss_cons (ps_par (i := 2) (j := 3) (by rfl) sc_law_right.nd rfl rfl (by decide) rfl rfl (pa_cons (pe_call h_law_great.G (hr.mono (by decide)) (by rfl) h_law_great.g h_law_great.kp h_law_great.b .nil pass0 (pa_cons (pv 0) pa_nil)) (pa_cons (pe_op op_add pe_int (pe_call h_law_take.G (hr.mono (by decide)) (by rfl) h_law_take.g h_law_take.kp h_law_take.b .nil pass0 (pa_cons (pv 0) (pa_cons pe_int pa_nil)))) pa_nil)) (by rfl))
      (pss_cons (ps_par3 (i := 4) (j := 5) (l := 6) (by rfl) sc_law_right.nd rfl rfl rfl (by decide) (by decide) (by decide) rfl rfl rfl (pa_cons (pe_call h_herd_last.G (hr.mono (by decide)) (by rfl) h_herd_last.g h_herd_last.kp h_herd_last.b .nil pass0 (pa_cons (pv 2) pa_nil)) (pa_cons (pe_call h_herd_first.G (hr.mono (by decide)) (by rfl) h_herd_first.g h_herd_first.kp h_herd_first.b .nil pass0 (pa_cons (pv 2) pa_nil)) (pa_cons (pe_call h_herd_passed.G (hr.mono (by decide)) (by rfl) h_herd_passed.g h_herd_passed.kp h_herd_passed.b .nil pass0 (pa_cons (pv 2) pa_nil)) pa_nil))) (by rfl))
      (pss_cons (ps_if (pt_not (pt_val (pe_call h_law_same.G (hr.mono (by decide)) (by rfl) h_law_same.g h_law_same.kp h_law_same.b .nil pass0 (pa_cons (pe_lst (pa_cons (pe_call h_herd_last.G (hr.mono (by decide)) (by rfl) h_herd_last.g h_herd_last.kp h_herd_last.b .nil pass0 (pa_cons (pv 4) pa_nil)) (pa_cons (pe_call h_herd_first.G (hr.mono (by decide)) (by rfl) h_herd_first.g h_herd_first.kp h_herd_first.b .nil pass0 (pa_cons (pv 4) pa_nil)) (pa_cons (pe_call h_herd_last.G (hr.mono (by decide)) (by rfl) h_herd_last.g h_herd_last.kp h_herd_last.b .nil pass0 (pa_cons (pv 5) pa_nil)) pa_nil)))) (pa_cons (pe_lst (pa_cons (pv 4) (pa_cons (pv 5) (pa_cons (pv 4) pa_nil)))) pa_nil))))) (pss_one (ps_ret pe_bl)) pss_nil)
      (pss_cons (ps_if (PW.pt (pw_or (pt_cmpR op_gt (pe_callB call_len_seq (by rfl) m_len PySem.boot_len (pa_cons (pv 4) pa_nil)) (pe_op op_mul pe_int (pe_callB call_len_seq (by rfl) m_len PySem.boot_len (pa_cons (pv 2) pa_nil))) (nomark _)) (pw_or (pt_cmpR op_gt (pe_callB call_len_seq (by rfl) m_len PySem.boot_len (pa_cons (pv 5) pa_nil)) (pe_callB call_len_seq (by rfl) m_len PySem.boot_len (pa_cons (pv 2) pa_nil)) (nomark _)) (pw_or (pt_not (pt_val (pe_call h_is_herd.G (hr.mono (by decide)) (by rfl) h_is_herd.g h_is_herd.kp h_is_herd.b .nil pass0 (pa_cons (pv 4) pa_nil)))) (pw_or1 (pt_not (pt_val (pe_call h_is_herd.G (hr.mono (by decide)) (by rfl) h_is_herd.g h_is_herd.kp h_is_herd.b .nil pass0 (pa_cons (pv 5) pa_nil))))))))) (pss_one (ps_ret pe_bl)) pss_nil)
      (pss_cons (ps_for PassesOwn.never rfl (pi_zipA (by rfl) m_zip (pa_cons (pv 4) (pa_cons (pe_slice sl_tupA (pv 4) (po_some pe_int) po_none) pa_nil))) (pg_tup rfl (pgs_cons (pg_tup rfl (pgs_cons (pg_name (i := 7) sc_law_right.nd rfl (Or.inl rfl)) (pgs_cons (pg_name (i := 8) sc_law_right.nd rfl (Or.inl rfl)) (pgs_cons (pg_name (i := 9) sc_law_right.nd rfl (Or.inl rfl)) pgs_nil)))) (pgs_cons (pg_tup rfl (pgs_cons (pg_name (i := 10) sc_law_right.nd rfl (Or.inl rfl)) (pgs_cons (pg_name (i := 11) sc_law_right.nd rfl (Or.inl rfl)) (pgs_cons (pg_name (i := 12) sc_law_right.nd rfl (Or.inl rfl)) pgs_nil)))) pgs_nil)))
        (pss_one (ps_if (pt_cmpR op_gt (pe_op op_sub (pv 10) (pv 8)) (pv 7) (nomark _)) (pss_one (ps_ret pe_bl)) pss_nil)))
      (pss_cons (ps_if (pt_val (pe_callB (cr_any rfl) (by rfl) m_any (by decide +kernel) (pa_cons (pe_lc (own := [("_law_one", 18), ("_law_two", 19)]) (g := gTup K 2 (gCons (gName 18) (gCons (gName 19) gNil))) (by rfl) sc_law_right.nd (pi_zipA (by rfl) m_zip (pa_cons (pv 5) (pa_cons (pe_slice sl_tupA (pv 5) (po_some pe_int) po_none) pa_nil))) (blkOk_by (own := [("_law_one", 18), ("_law_two", 19)]) (N := ["_law_box", "_law_turn", "_law_herd", "_law_by", "_law_ends", "_law_starts", "_law_often", "_law_other", "_law_its", "_law_count", "_law_strength", "_law_toll", "_law_many", "_law_beasts", "_law_due", "_law_at", "_law_alone", "_law_some", "_law_one", "_law_two", "_law_lot", "_law_own"]) (sc := defScope s_law_right) (by decide +kernel)) (fun _ _ _ _ _ => (pg_tup rfl (pgs_cons (pg_name (i := 18) sc_law_right.nd rfl (Or.inl rfl)) (pgs_cons (pg_name (i := 19) sc_law_right.nd rfl (Or.inl rfl)) pgs_nil)))) (fun _ _ _ _ _ => pts_nil) (fun _ _ _ _ _ => (pe_cmpR op_gt (pe_ix (ix_tupK (K := K)) (pv 18) pe_int (fun _ _ => rfl)) (pe_ix (ix_tupK (K := K)) (pv 19) pe_int (fun _ _ => rfl)) (nomark _)))) pa_nil))) (pss_one (ps_ret pe_bl)) pss_nil)
      (pss_cons (ps_setLc (i := 13) (own := [("_law_some", 17)]) (g := gName 17) (by rfl) sc_law_right.nd rfl rfl (sw_true rfl rfl rfl (by decide +kernel)) (pi_tup (pe_tup (pa_cons (pv 2) (pa_cons (pv 4) (pa_cons (pv 5) pa_nil))))) (blkOk_by (own := [("_law_some", 17)]) (N := ["_law_box", "_law_turn", "_law_herd", "_law_by", "_law_ends", "_law_starts", "_law_often", "_law_other", "_law_its", "_law_count", "_law_strength", "_law_toll", "_law_many", "_law_beasts", "_law_due", "_law_at", "_law_alone", "_law_some", "_law_one", "_law_two", "_law_lot", "_law_own"]) (sc := defScope s_law_right) (by decide +kernel)) (fun _ _ _ _ _ => (pg_name (i := 17) sc_law_right.nd rfl (Or.inl rfl))) (fun _ _ _ _ _ => pts_nil) (fun _ _ _ _ _ => (pe_callB (cr_sumK (K := K) rfl) (by rfl) m_sum (by decide +kernel) (pa_cons (pe_lc (own := [("_law_lot", 20)]) (g := gName 20) (by rfl) sc_law_right.nd (pi_tupK (K := K) (pv 17)) (blkOk_by (own := [("_law_lot", 20)]) (N := ["_law_box", "_law_turn", "_law_herd", "_law_by", "_law_ends", "_law_starts", "_law_often", "_law_other", "_law_its", "_law_count", "_law_strength", "_law_toll", "_law_many", "_law_beasts", "_law_due", "_law_at", "_law_alone", "_law_some", "_law_one", "_law_two", "_law_lot", "_law_own"]) (by kernel_rfl)) (fun _ _ _ _ _ => (pg_name (i := 20) sc_law_right.nd rfl (Or.inl rfl))) (fun _ _ _ _ _ => pts_nil) (fun _ _ _ _ _ => (pe_ix (ix_tupK (K := K)) (pv 20) pe_int (fun _ _ => rfl)))) pa_nil))))
      (pss_cons (ps_set (i := 14) sc_law_right.nd rfl (.inl rfl) (pe_callB (cr_sum rfl) (by rfl) m_sum (by decide +kernel) (pa_cons (pe_lc (own := [("_law_lot", 20), ("_law_own", 21)]) (g := gTup K 2 (gCons (gName 20) (gCons (gName 21) gNil))) (by rfl) sc_law_right.nd (pi_zipW (by rfl) m_zip (pa_cons (pv 2) (pa_cons (pv 6) pa_nil))) (blkOk_by (own := [("_law_lot", 20), ("_law_own", 21)]) (N := ["_law_box", "_law_turn", "_law_herd", "_law_by", "_law_ends", "_law_starts", "_law_often", "_law_other", "_law_its", "_law_count", "_law_strength", "_law_toll", "_law_many", "_law_beasts", "_law_due", "_law_at", "_law_alone", "_law_some", "_law_one", "_law_two", "_law_lot", "_law_own"]) (sc := defScope s_law_right) (by decide +kernel)) (fun _ _ _ _ _ => (pg_tup rfl (pgs_cons (pg_name (i := 20) sc_law_right.nd rfl (Or.inl rfl)) (pgs_cons (pg_name (i := 21) sc_law_right.nd rfl (Or.inl rfl)) pgs_nil)))) (fun _ _ _ _ _ => pts_nil) (fun _ _ _ _ _ => (pe_op op_mul (pe_ix (ix_tupK (K := K)) (pv 20) pe_int (fun _ _ => rfl)) (pv 21)))) pa_nil)))
      (pss_cons (ps_if (PW.pt (pw_or (pt_cmpR (op_neD hu) (pv 13) (pe_op op_rep (pe_slice sl_list (pv 13) po_none (po_some pe_int)) pe_int) (nomark _)) (pw_or1 (pt_cmpR op_ne (pe_call h_herd_passings.G (hr.mono (by decide)) (by rfl) h_herd_passings.g h_herd_passings.kp h_herd_passings.b .nil pass0 (pa_cons (pv 2) pa_nil)) (pv 14) (nomark _))))) (pss_one (ps_ret pe_bl)) pss_nil)
      (pss_cons (ps_for PassesOwn.never rfl (pi_enumT (by rfl) m_enumerate (pa_cons (pv 2) pa_nil)) (pg_tup rfl (pgs_cons (pg_name (i := 15) sc_law_right.nd rfl (Or.inl rfl)) (pgs_cons (pg_tup rfl (pgs_cons (pg_name (i := 10) sc_law_right.nd rfl (Or.inl rfl)) (pgs_cons (pg_name (i := 11) sc_law_right.nd rfl (Or.inl rfl)) (pgs_cons (pg_name (i := 12) sc_law_right.nd rfl (Or.inl rfl)) pgs_nil)))) pgs_nil)))
        (pss_cons (ps_set (i := 16) sc_law_right.nd rfl (.inl rfl) (pe_op op_catA (pe_slice sl_tupA (pv 2) po_none (po_some (pv 15))) (pe_tup (pa_cons (pe_tup (pa_cons (pv 10) (pa_cons (pv 11) (pa_cons pe_int pa_nil)))) pa_nil))))
      (pss_one (ps_if (PW.pt (pw_or (pt_cmpR (op_neD hu) (pe_call h_herd_passed.G (hr.mono (by decide)) (by rfl) h_herd_passed.g h_herd_passed.kp h_herd_passed.b .nil pass0 (pa_cons (pv 16) pa_nil)) (pe_slice sl_list (pv 6) po_none (po_some (pe_op op_add (pv 15) pe_int))) (nomark _)) (pw_or1 (pt_cmpR (op_neD hu) (pe_call h_herd_passed.G (hr.mono (by decide)) (by rfl) h_herd_passed.g h_herd_passed.kp h_herd_passed.b .nil pass0 (pa_cons (pe_slice sl_tupA (pv 2) po_none (po_some (pe_op op_add (pv 15) pe_int))) pa_nil)) (pe_slice sl_list (pv 6) po_none (po_some (pe_op op_add (pv 15) pe_int))) (nomark _))))) (pss_one (ps_ret pe_bl)) pss_nil))))
      (pss_one (ps_if (pt_not (pt_val (pe_call h_law_likes_right.G (hr.mono (by decide)) (by rfl) h_law_likes_right.g h_law_likes_right.kp h_law_likes_right.b .nil pass0 (pa_cons (pv 2) (pa_cons (pv 3) (pa_cons (pv 4) (pa_cons (pv 6) pa_nil))))))) (pss_one (ps_ret pe_bl)) pss_nil)))))))))))))
      (pss_one (ps_ret pe_bl))), ?_⟩
    have lim : ∀ {n : Nat}, n ≤ 100000 → n + 3000 < Lim := fun {n} h => Nat.lt_of_lt_of_le (show n + 3000 < 2 ^ 20 by omega) (Nat.pow_le_pow_right (by decide) (by decide))
    refine q_forR1 (n := 2) (ea_cons ev_c ea_nil) ⟨by decide, by decide⟩ (fun i σ' H' => ∃ y1 y2 y3 y4 y5 y6 y7 y8 y9 y10 y11 y12 y13 y14 y15 y16 : Option V, σ' = [some (.ref p), y1, y2, y3, y4, y5, y6, y7, y8, y9, y10, y11, y12, y13, y14, y15, y16, none, none, none, none, none] ∧ ExB p H H' ∧ Bx H' p (2000 * i)) (fun H1 e1 => ⟨_, _, _, _, _, _, _, _, _, _, _, _, _, _, _, _, rfl, .of e1, hb.ex e1⟩) (fun i σ' H0 hi hW => ?_) (fun σ' H0 hW => ?_)
    · obtain ⟨y1, y2, y3, y4, y5, y6, y7, y8, y9, y10, y11, y12, y13, y14, y15, y16, rfl, x0, b0⟩ := hW
      have hi : i < 2 := by omega
      refine s_at [some (.ref p), some (.int (i : Int)), y2, y3, y4, y5, y6, y7, y8, y9, y10, y11, y12, y13, y14, y15, y16, none, none, none, none, none] rfl ?_
      refine q_par2 ?_
      refine ⟨.ref p, rfl, p, 2000 * i, rfl, b0, by have := lim (n := 2000 * i) (by omega); omega, fun v H1 ls x1 b1 hv l0 l24 ad fi => ?_⟩
      refine (dr_I0 (g := fun i j => i + j) (S := fun r => 2 ≤ r ∧ r ≤ 9) (dr_c (i := 2) (fun H1 => ev_c)) (dr_take (p := p) (m := 8) rfl (fun H1 => ev_c) (by decide) (by decide)) (fun i j e r => by
        have e : i = 2 := e
        omega)) H1 _ b1 (by have := lim (n := 2000 * i + 1000) (by omega); omega) _ fun c H2 hc x2 b2 => ⟨_, _, rfl, ?_⟩
      obtain ⟨bl1, hbl1⟩ := b1.lst
      have hv := hv.exL x2 hbl1
      have x02 := x0.trans (x1.trans x2)
      refine s_at [some (.ref p), some (.int (i : Int)), some v, some (.int c), y4, y5, y6, y7, y8, y9, y10, y11, y12, y13, y14, y15, y16, none, none, none, none, none] rfl ?_
      have mild : Mild ls := mild_of (by omega) fun l hl => by
        obtain ⟨h1, h2, h3, h4⟩ := fi l hl
        exact ⟨h1, by omega, h3, h4⟩
      have fit := mild.fit
      have pos := mild.2.1
      obtain ⟨E, B, hE⟩ := herd_ends mild
      obtain ⟨mA, lA⟩ := hE.mildA mild (by omega)
      obtain ⟨mZ, lZ⟩ := hE.mildZ mild
      refine q_par3S ?_
      refine hd_call1 (K := K) (ev_var rfl) hv fit H2 (Ex.refl _) _ fun av H3 e3 hav => ?_
      refine hd_call1 (K := K) (ev_var rfl) (hv.ex e3) fit H3 (Ex.refl _) _ fun zv H4 e4 hzv => ?_
      refine el_passedH (K := K) (hd_val (ev_var rfl) ((hv.ex e3).ex e4)) fit H4 (Ex.refl _) _ fun o H5 ho e5 go => ⟨_, _, _, rfl, ?_⟩
      have e25 := (e3.trans e4).trans e5
      have hv := hv.ex e25
      have hav := (hav.ex e4).ex e5
      have hzv := hzv.ex e5
      have x05 := x02.trans (.of e25)
      have b5 := b2.ex e25
      clear hbl1 ho
      refine s_at [some (.ref p), some (.int (i : Int)), some v, some (.int c), some av, some zv, some (.ref o), y7, y8, y9, y10, y11, y12, y13, y14, y15, y16, none, none, none, none, none] rfl ?_
      refine q_when (b := false) (et_is (et_not (et_B (b := true) (ev_sameX (K := K) (k := 3) (d := .list [dHerd (packL (lastLots ls)), dHerd (packL (firstLots ls)), dHerd (packL (lastLots ls))]) (ex_lst (xs_cons (ex_hd ?_) (xs_cons (ex_hd ?_) (xs_cons (ex_hd ?_) xs_nil))) (by show 3 ≤ 100000; decide)) (ex_lst (xs_cons (ex_hd (hd_val (ev_var rfl) hav)) (xs_cons (ex_hd (hd_val (ev_var rfl) hzv)) (xs_cons (ex_hd (hd_val (ev_var rfl) hav)) xs_nil))) (by show 3 ≤ 100000; decide)) ?_))) rfl) (fun z => by cases z) fun _ H6 e6 => ?_
      · have := hd_call1 (K := K) (E := E0) (f := lastLots) (te := tVar 4) (σ := [some (.ref p), some (.int (i : Int)), some v, some (.int c), some av, some zv, some (.ref o), y7, y8, y9, y10, y11, y12, y13, y14, y15, y16, none, none, none, none, none]) (H := H5) (ev_var rfl) hav mA.fit
        rw [hE.lastA mild (by omega)] at this
        exact this
      · have := hd_call1 (K := K) (E := E0) (f := firstLots) (te := tVar 4) (σ := [some (.ref p), some (.int (i : Int)), some v, some (.int c), some av, some zv, some (.ref o), y7, y8, y9, y10, y11, y12, y13, y14, y15, y16, none, none, none, none, none]) (H := H5) (ev_var rfl) hav mA.fit
        rw [hE.firstA mild (by omega)] at this
        exact this
      · have := hd_call1 (K := K) (E := E0) (f := lastLots) (te := tVar 5) (σ := [some (.ref p), some (.int (i : Int)), some v, some (.int c), some av, some zv, some (.ref o), y7, y8, y9, y10, y11, y12, y13, y14, y15, y16, none, none, none, none, none]) (H := H5) (ev_var rfl) hzv mZ.fit
        rw [hE.lastZ mild] at this
        exact this
      · refine .inr ⟨_, .inl rfl, by show 3 ≤ 40000; decide, fun e he => ?_⟩
        have k1 : okV 2 (dHerd (packL (lastLots ls))) := ok_herdD (by omega)
        have k2 : okV 2 (dHerd (packL (firstLots ls))) := ok_herdD (by omega)
        rcases List.mem_cons.mp he with rfl | he
        · exact k1
        · rcases List.mem_cons.mp he with rfl | he
          · exact k2
          · rw [List.mem_singleton.mp he]
            exact k1
      have hv := hv.ex e6
      have hav := hav.ex e6
      have hzv := hzv.ex e6
      have go := e6 _ _ go
      have sprn : 0 < (sprR ls).length := by
        have h1 := mem_spr (List.getElem_mem l0) (pos _ (List.getElem_mem l0))
        exact List.length_pos_of_mem h1
      have ne0 : ∀ (M : List Lot) (r : HH.Row), M = packL (ones r) → r.length = (sprR ls).length → 0 < M.length := fun M r e hl => by
        rw [e]
        refine packL_ne ?_
        unfold ones
        rw [List.length_map]
        omega
      have a0 := ne0 _ _ hE.eA hE.lenE
      have z0 := ne0 _ _ hE.eZ hE.lenB
      have isH : ∀ (x : V) (M : List Lot) (te : TE) (σ : L2.St) (H9 : Hp), Ev te σ H9 x → HerdAt K H9 x M → 0 < M.length → M.length ≤ 1000 → Mild M → adj M → Ev (tCall (spIsHerd K) [] E0 (tCons te tNil)) σ H9 (.bl true) := fun x M te σ H9 h hx m0 m1 mm am H10 e10 Q10 q10 => h H10 e10 _ fun H11 e11 => ⟨x, M, rfl, hx.ex (e10.trans e11), m0, m1, fun l hl => ⟨(mm.fit.2 l hl).1, mm.2.1 l hl⟩, am, fun H12 e12 => q10 H12 (e11.trans e12)⟩
      refine q_when (b := false) (et_or (a := false) (b := false) (et_is (et_test (ev_op (ev_lenHd (K := K) (ev_var rfl) hav) (ev_op ev_c (ev_lenHd (K := K) (ev_var rfl) hv) (rv_I (.inl ⟨by decide, by decide⟩))) rv_I0)) (decide_eq_false (by omega))) fun _ => et_or (a := false) (b := false) (et_is (et_test (ev_op (ev_lenHd (K := K) (ev_var rfl) hzv) (ev_lenHd (K := K) (ev_var rfl) hv) rv_I0)) (decide_eq_false (by omega))) fun _ => et_or (a := false) (b := false) (et_is (et_not (et_B (b := true) (isH av _ _ _ _ (ev_var rfl) hav a0 (by omega) mA (by rw [hE.eA]; exact packL_adj _)))) rfl) fun _ => et_is (et_not (et_B (b := true) (isH zv _ _ _ _ (ev_var rfl) hzv z0 (by omega) mZ (by rw [hE.eZ]; exact packL_adj _)))) rfl) (fun z => by cases z) fun _ H7 e7 => ?_
      have hv := hv.ex e7
      have hav := hav.ex e7
      have hzv := hzv.ex e7
      have go := e7 _ _ go
      refine q_forZipH (K := K) (hd_val (ev_var rfl) hav) (fun H8 e8 => hd_from (j := 1) (hd_val (ev_var rfl) (hav.ex e8)) ev_c rfl) (fun B k σ' H' => ∃ y7 y8 y9 y10 y11 y12 : Option V, σ' = [some (.ref p), some (.int (i : Int)), some v, some (.int c), some av, some zv, some (.ref o), y7, y8, y9, y10, y11, y12, y13, y14, y15, y16, none, none, none, none, none] ∧ Ex B H') (fun B eB => ⟨_, _, _, _, _, _, rfl, Ex.refl B⟩) (fun B k σ' H' hW => ?_) (fun B k la lb σ' H' H'' T x y eB h1 h2 hW eT gT rx ry => ?_) (fun B σ' H8 eB hW => ?_)
      · obtain ⟨y7, y8, y9, y10, y11, y12, rfl, h⟩ := hW
        exact h
      · obtain ⟨y7, y8, y9, y10, y11, y12, rfl, e8⟩ := hW
        obtain ⟨px, rfl, sx⟩ := rx
        obtain ⟨py, rfl, sy⟩ := ry
        rw [List.getElem?_drop, Nat.add_comm] at h2
        have nx := hE.nextA h1 h2
        refine ⟨T, _, rfl, st_of gT, rfl, _, _, rfl, ⟨px, _, rfl, sx, rfl, _, _, rfl, _, _, rfl, _, _, rfl, rfl, _, _, rfl, ⟨py, _, rfl, sy, rfl, _, _, rfl, _, _, rfl, _, _, rfl, rfl, rfl, ?_⟩⟩⟩
        try dsimp only
        refine s_at [some (.ref p), some (.int (i : Int)), some v, some (.int c), some av, some zv, some (.ref o), some (.int la.1), some (.int la.2.1), some (.int la.2.2), some (.int lb.1), some (.int lb.2.1), some (.int lb.2.2), y13, y14, y15, y16, none, none, none, none, none] rfl ?_
        refine s_when (b := false) (et_is (et_test (ev_op (ev_op (ev_var rfl) (ev_var rfl) rv_I0) (ev_var rfl) rv_I0)) (decide_eq_false (by omega))) (fun z => by cases z) fun _ H9 e9 => ⟨_, _, _, _, _, _, rfl, (e8.trans eT).trans e9⟩
      obtain ⟨y7, y8, y9, y10, y11, y12, rfl, e8⟩ := hW
      have e8 := eB.trans e8
      have hv := hv.ex e8
      have hav := hav.ex e8
      have hzv := hzv.ex e8
      have go := e8 _ _ go
      clear eB
      refine q_when (b := false) (et_is (et_B (ev_any (el_zipH2 (K := K) (i := 18) (j := 19) (vs := [18, 19]) (hd_val (ev_var rfl) hzv) (fun H9 e9 => hd_from (j := 1) (hd_val (ev_var rfl) (hzv.ex e9)) ev_c rfl) (by omega) (by intros; rfl) (fun k la lb H9 x y h1 h2 rx ry => ?_)))) ?_) (fun z => by cases z) fun _ H9 e9 => ?_
      · obtain ⟨px, rfl, sx⟩ := rx
        obtain ⟨py, rfl, sy⟩ := ry
        rw [List.getElem?_drop, Nat.add_comm] at h2
        have nx := hE.nextZ h1 h2
        exact ev_is (ev_op (ev_op (ev_var rfl) ev_c (rv_ixT (K := K) sx rfl)) (ev_op (ev_var rfl) ev_c (rv_ixT (K := K) sy rfl)) rv_I0) (congrArg V.bl (decide_eq_false (by omega)))
      · generalize (min (packL (firstLots ls)).length ((packL (firstLots ls)).drop 1).length : Nat) = m
        induction m with
        | zero => rfl
        | succ m ih => rw [List.replicate_succ, List.any_cons, ih]; rfl
      have hv := hv.ex e9
      have hav := hav.ex e9
      have hzv := hzv.ex e9
      have go := e9 _ _ go
      refine q_asgL (el_herds (K := K) (lss := [ls, packL (lastLots ls), packL (firstLots ls)]) (j := 17) (vs := [17]) cntL (hds_cons (hd_val (ev_var rfl) hv) (hds_cons (hd_val (ev_var rfl) hav) (hds_cons (hd_val (ev_var rfl) hzv) hds_nil))) (by show 3 ≤ 1000; decide) (by intros; rfl) (fun x ms H6 hx hms => ev_sumI (K := K) (ns := ms.map (·.2.2)) (el_manys (K := K) (j := 20) (vs := [20]) (ev_var rfl) hx ?_ (by intros; rfl) (by intros; rfl)))) fun bq H10 hbq e10 gb => ?_
      · rcases List.mem_cons.mp hms with rfl | hms
        · omega
        · rcases List.mem_cons.mp hms with rfl | hms
          · omega
          · rw [List.mem_singleton.mp hms]
            omega
      have cnt := hE.many mild
      simp only [List.map_cons, List.map_nil, cnt.1, cnt.2] at gb
      refine s_at [some (.ref p), some (.int (i : Int)), some v, some (.int c), some av, some zv, some (.ref o), y7, y8, y9, y10, y11, y12, some (.ref bq), y14, y15, y16, none, none, none, none, none] rfl ?_
      have hv := hv.ex e10
      have hav := hav.ex e10
      have go := e10 _ _ go
      have tol : (endG ls ls.length).2.2.length = ls.length := (endG_facts ls ls.length).2.2.2
      refine q_asg (v := .int (passingsG ls)) (ev_sumI (K := K) (el_zipO (K := K) (i := 20) (j := 21) (vs := [20, 21]) (ev_var rfl) hv (ev_var rfl) go tol (by omega) (fun l hl => ⟨(fit.2 l hl).2.2.1, (fit.2 l hl).2.2.2⟩) (by intros; rfl) (by intros; rfl) (by intros; rfl))) fun H11 e11 => ?_
      refine s_at [some (.ref p), some (.int (i : Int)), some v, some (.int c), some av, some zv, some (.ref o), y7, y8, y9, y10, y11, y12, some (.ref bq), some (.int (passingsG ls)), y15, y16, none, none, none, none, none] rfl ?_
      have gb := e11 _ _ gb
      have hv := hv.ex e11
      have hav := hav.ex e11
      have go := e11 _ _ go
      refine q_when (b := false) (et_or (a := false) (b := false) (et_neX (K := K) (k := 1) (d := .list (([cntL ls, cntL ls, cntL ls] : List Int).map PyData.int)) (ex_Lv (ev_var rfl) gb) (fun H12 e12 => ex_Ls (ns := [cntL ls, cntL ls, cntL ls]) (el_rep3 (el_sl (K := K) (ev_var rfl) eo_none (eo_some ev_c) (sq_of (e12 _ _ gb))) (by show 1 ≤ 1000; decide))) (nice_L _) (by decide)) fun _ => et_is (et_test (ev_op (ev_passingsH (hd_val (K := K) (ev_var rfl) hv) fit) (ev_var rfl) (rv_ne rfl))) (by simp)) (fun z => by cases z) fun _ H12 e12 => ?_
      have hv := hv.ex e12
      have hav := hav.ex e12
      have go := e12 _ _ go
      have e512 := (((((e6.trans e7).trans e8).trans e9).trans e10).trans e11).trans e12
      obtain ⟨ha, hus, rfl, hsq, hla⟩ := hv
      have hv : HerdAt K H12 (.ref ha) ls := ⟨ha, hus, rfl, hsq, hla⟩
      refine q_forEvT (K := K) (xs := hus) (ev_var rfl) hsq (fun k σ' H' => ∃ y10 y11 y12 y15 y16 : Option V, σ' = [some (.ref p), some (.int (i : Int)), some (.ref ha), some (.int c), some av, some zv, some (.ref o), y7, y8, y9, y10, y11, y12, some (.ref bq), some (.int (passingsG ls)), y15, y16, none, none, none, none, none] ∧ Ex H12 H') (fun H13 e13 => ⟨_, _, _, _, _, rfl, e13⟩) (fun k σ' H' _ hW => ?_) (fun k x σ' H' T hx hW hT => ?_) (fun σ' H13 hW => ?_)
      · obtain ⟨y10, y11, y12, y15, y16, rfl, h⟩ := hW
        exact ex_t h hsq
      · obtain ⟨y10, y11, y12, y15, y16, rfl, e13⟩ := hW
        obtain ⟨l, hl, pp, rfl, hpp⟩ := All2.get hla hx
        have hk : k < ls.length := (List.getElem?_eq_some_iff.mp hl).1
        rw [lot_get hk] at hl
        cases hl
        have nT := Ex.new (o := .tup [V.int (k : Nat), .ref pp]) hT
        refine ⟨T, _, rfl, st_of upd_same, rfl, _, _, rfl, _, _, rfl, ⟨pp, _, rfl, ex_t (e13.trans nT) hpp, rfl, _, _, rfl, _, _, rfl, _, _, rfl, rfl, rfl, ?_⟩⟩
        have e14 := e13.trans nT
        generalize upd H' T (.tup [V.int (k : Nat), .ref pp]) = H14 at e14 ⊢
        try dsimp only
        refine s_at [some (.ref p), some (.int (i : Int)), some (.ref ha), some (.int c), some av, some zv, some (.ref o), y7, y8, y9, some (.int (lS ls k)), some (.int (lT ls k)), some (.int (lM ls k)), some (.ref bq), some (.int (passingsG ls)), some (.int (k : Int)), y16, none, none, none, none, none] rfl ?_
        refine q_asgH (hd_cat (K := K) (hd_to (j := k) (hd_val (ev_var rfl) (hv.ex e14)) (ev_var rfl) rfl) (hd_one (K := K) (ev_var rfl) (ev_var rfl) ev_c) (by rw [List.length_take]; show _ + 1 ≤ _; omega)) fun al H15 e15 hal => ?_
        refine s_at [some (.ref p), some (.int (i : Int)), some (.ref ha), some (.int c), some av, some zv, some (.ref o), y7, y8, y9, some (.int (lS ls k)), some (.int (lT ls k)), some (.int (lM ls k)), some (.ref bq), some (.int (passingsG ls)), some (.int (k : Int)), some al, none, none, none, none, none] rfl ?_
        have e1215 := e14.trans e15
        have ftk := fit.at' hk
        have fitAl : Fit (ls.take k ++ [(lS ls k, lT ls k, 1)]) := ⟨by rw [List.length_append, List.length_take]; show _ + 1 ≤ _; omega, fun l hl => by
          rcases List.mem_append.mp hl with h | h
          · exact fit.2 l (List.mem_of_mem_take h)
          · rw [List.mem_singleton.mp h]
            exact ⟨ftk.1, ftk.2.1, by dsimp only; decide, by dsimp only; decide⟩⟩
        have fitUp : Fit (ls.take (k + 1)) := ⟨by rw [List.length_take]; omega, fun l hl => fit.2 l (List.mem_of_mem_take hl)⟩
        have sl : ∀ H16, Ex H15 H16 → EvX K (tSl (rSlL K) (tVar 6) tNoPart (tPart (tOp (rI0 fun i j => .int (i + j)) (tVar 15) (tC (.int 1))))) [some (.ref p), some (.int (i : Int)), some (.ref ha), some (.int c), some av, some zv, some (.ref o), y7, y8, y9, some (.int (lS ls k)), some (.int (lT ls k)), some (.int (lM ls k)), some (.ref bq), some (.int (passingsG ls)), some (.int (k : Int)), some al, none, none, none, none, none] H16 (.list (((endG ls ls.length).2.2.take (k + 1)).map PyData.int)) := fun H16 e16 => ex_Ls (ns := (endG ls ls.length).2.2.take (k + 1)) (by
          have := el_sl (K := K) (te := tVar 6) (σ := [some (.ref p), some (.int (i : Int)), some (.ref ha), some (.int c), some av, some zv, some (.ref o), y7, y8, y9, some (.int (lS ls k)), some (.int (lT ls k)), some (.int (lM ls k)), some (.ref bq), some (.int (passingsG ls)), some (.int (k : Int)), some al, none, none, none, none, none]) (ev_var rfl) eo_none (eo_some (i := ((k + 1 : Nat) : Int)) (te := tOp (rI0 fun i j => .int (i + j)) (tVar 15) (tC (.int 1))) (ev_op (ev_var rfl) ev_c rv_I0)) (sq_of ((e1215.trans e16) _ _ go))
          rw [cut_to, ← List.map_take] at this
          exact this)
        refine s_when (b := false) (et_or (a := false) (b := false) (et_neX (K := K) (k := 1) (d := .list (((endG ls ls.length).2.2.take (k + 1)).map PyData.int)) (ex_Ls (by
          have := el_passedH (K := K) (E := E0) (hd_val (K := K) (te := tVar 16) (σ := [some (.ref p), some (.int (i : Int)), some (.ref ha), some (.int c), some av, some zv, some (.ref o), y7, y8, y9, some (.int (lS ls k)), some (.int (lT ls k)), some (.int (lM ls k)), some (.ref bq), some (.int (passingsG ls)), some (.int (k : Int)), some al, none, none, none, none, none]) (ev_var rfl) hal) fitAl
          rw [told_alone fit hk] at this
          exact this)) sl (nice_L _) (by decide)) fun _ => et_neX (K := K) (k := 1) (d := .list (((endG ls ls.length).2.2.take (k + 1)).map PyData.int)) (ex_Ls (by
          have := el_passedH (K := K) (E := E0) (hd_to (K := K) (j := k + 1) (te := tVar 2) (ti := tOp (rI0 fun i j => .int (i + j)) (tVar 15) (tC (.int 1))) (σ := [some (.ref p), some (.int (i : Int)), some (.ref ha), some (.int c), some av, some zv, some (.ref o), y7, y8, y9, some (.int (lS ls k)), some (.int (lT ls k)), some (.int (lM ls k)), some (.ref bq), some (.int (passingsG ls)), some (.int (k : Int)), some al, none, none, none, none, none]) (hd_val (ev_var rfl) (hv.ex e1215)) (ev_op (ev_var rfl) ev_c rv_I0) rfl) fitUp
          rw [told_upto fit hk] at this
          exact this)) sl (nice_L _) (by decide)) (fun z => by cases z) fun _ H16 e16 => ⟨_, _, _, _, _, rfl, e1215.trans e16⟩
      obtain ⟨y10, y11, y12, y15, y16, rfl, e13⟩ := hW
      refine s_when (b := false) (et_is (et_not (et_B (b := true) (fun H14 e14 Q14 q14 => ⟨.ref ha, rfl, .int c, rfl, av, rfl, .ref o, rfl, .ref ha, av, o, c, ls, rfl, hv.ex (e13.trans e14), hc.1, hc.2, hav.ex (e13.trans e14), (e13.trans e14) _ _ go, l0, l24, fi, fun H15 e15 => q14 H15 e15⟩))) rfl) (fun z => by cases z) fun _ H14 e14 => ?_
      exact ⟨_, _, _, _, _, _, _, _, _, _, _, _, _, _, _, _, rfl, x05.trans (.of (e512.trans (e13.trans e14))), (b5.ex (e512.trans (e13.trans e14))).le (by omega)⟩
    · obtain ⟨y1, y2, y3, y4, y5, y6, y7, y8, y9, y10, y11, y12, y13, y14, y15, y16, rfl, x0, b0⟩ := hW
      exact q H0 x0
end
end K79
set_option maxHeartbeats 4000000
namespace K79
open PySem PySem.Spec PyProof.Rows L2 Evl HH RZ
section
variable {P : Program} {w : World} {K : PySem.W.Frag} {mg : Str → Option Value} {base : Heap}
theorem ok_law {f f1 f2 f3 : Addr} {fd fd1 fd2 fd3 : FuncData} (F : FnP K "law" s_law f fd) (h_law_folded : Has P w K mg base 1 "_law_folded" ["_law_script", "_law_many"] (spFolded K) f1 fd1) (h_law_dip : Has P w K mg base 1 "_law_dip" ["_law_script", "_law_k"] (spDip K) f2 fd2) (h_law_right : Has P w K mg base 7 "_law_right" ["_law_box"] spRight f3 fd3)
    (m_range : mg "range" = none) (m_len : mg "len" = none) (m_all : mg "all" = none) (m_max : mg "max" = none) : FnOk P w K mg base CX0 8 f fd ["_law_script"] (spLaw K) := by
  refine F.ok sc_law (fun vs H Q E h => ?_) (fun cdv A outer s H vs Q E hr h => ?_)
  · obtain ⟨a, ns, rfl, _⟩ := h
    rfl
  · obtain ⟨a, ns, rfl, hS, hlen, q⟩ := h
    refine ⟨_, PSs.nox (pss_cons (ps_set (i := 1) sc_law.nd rfl (.inr rfl) (pe_call h_law_folded.G (hr.mono (by decide)) (by rfl) h_law_folded.g h_law_folded.kp h_law_folded.b .nil pass0 (pa_cons (pv 0) (pa_cons pe_int pa_nil))))
      (pss_one (ps_ret (pe_callB (cr_all rfl) (by rfl) m_all (by decide +kernel) (pa_cons (pe_lc (own := [("_law_k", 2)]) (g := gName 2) (by rfl) sc_law.nd (pi_range1 (by rfl) m_range (pa_cons (pe_callB (call_max2 rfl) (by rfl) m_max (by decide +kernel) (pa_cons pe_int (pa_cons (pe_callB call_len_seq (by rfl) m_len PySem.boot_len (pa_cons (pv 1) pa_nil)) pa_nil))) pa_nil)) (blkOk_by (own := [("_law_k", 2)]) (N := ["_law_script", "_law_cells", "_law_k"]) (sc := defScope s_law) (by decide +kernel)) (fun _ _ _ _ _ => (pg_name (i := 2) sc_law.nd rfl (Or.inl rfl))) (fun _ _ _ _ _ => pts_nil) (fun _ _ _ _ _ => (pe_call h_law_right.G (hr.mono (by decide)) (by rfl) h_law_right.g h_law_right.kp h_law_right.b .nil pass0 (pa_cons (pe_call h_law_dip.G (hr.mono (by decide)) (by rfl) h_law_dip.g h_law_dip.kp h_law_dip.b .nil pass0 (pa_cons (pv 1) (pa_cons (pv 2) pa_nil))) pa_nil)))) pa_nil))))), ?_⟩
    refine q_call ⟨.ref a, rfl, a, 2, ns, rfl, by decide, by decide, hS, hlen, fun l H1 ms hl e1 hm h1 => ?_⟩
    have hn : 0 ≤ (if ((ms.map V.int).length : Int) > 1 then ((ms.map V.int).length : Int) else 1) ∧ (if ((ms.map V.int).length : Int) > 1 then ((ms.map V.int).length : Int) else 1) ≤ 10 := by
      rw [List.length_map]
      split <;> omega
    refine s_ret (D := { nx := fun _ H' => Q .non H', rt := Q }) (ev_allT (n := (if ((ms.map V.int).length : Int) > 1 then ((ms.map V.int).length : Int) else 1).toNat) ?_) fun H2 e2 => q H2
    have key := el_lcR1 (σ := [some (.ref a), some (.ref l), none]) (H := H1) (ta := tCons (tCB rMax2 (tCons (tC (.int 1)) (tCons (tCB (rLenS K) (tCons (tVar 1) tNil)) tNil))) tNil) (j := 2) (vs := [2]) (t := tYes) (te := tCall spRight [] E0 (tCons (tCall (spDip K) [] E0 (tCons (tVar 1) (tCons (tVar 2) tNil))) tNil)) (fun _ => true) (fun _ => .bl true) (ea_cons (ev_max2 ev_c (ev_len (ev_var rfl) (sq_of h1))) ea_nil) ⟨hn.1, by omega⟩ (fun x => rfl) (fun i H1 e1 hi => et_yes) (fun i H3 e3 hi _ => ?_)
    · have e0 : given (if ((ms.map V.int).length : Int) > 1 then ((ms.map V.int).length : Int) else 1).toNat (fun _ => true) (fun _ => V.bl true) = (List.replicate (if ((ms.map V.int).length : Int) > 1 then ((ms.map V.int).length : Int) else 1).toNat true).map V.bl := by
        rw [given_all _ (fun _ => true)]
        congr 1
        rw [List.eq_replicate_iff]
        refine ⟨by rw [List.length_map, List.length_range], fun b hb => ?_⟩
        obtain ⟨_, _, rfl⟩ := List.mem_map.mp hb
        rfl
      rw [e0] at key
      exact key
    · intro H4 e4 Q4 q4
      refine ⟨.ref l, rfl, .int (i : Int), rfl, l, i, ms, rfl, sq_of ((e3.trans e4) _ _ h1), by omega, fun b H5 hb e5 hx => ?_⟩
      refine ⟨b, rfl, hx, fun H6 x6 => q4 H6 fun c o hc => x6 c o (ne_of_none hc hb) (e5 c o hc)⟩
end
end K79
set_option maxHeartbeats 0
namespace K79
open PySem PySem.Spec PyProof.Rows L2 Evl HH RZ
def d_is_number : He.DefD := ⟨("is_number", none), "is_number", "is_number", defArgs s_is_number, defBody s_is_number, defScope s_is_number, [], []⟩
def d_is_lot : He.DefD := ⟨("is_lot", none), "is_lot", "is_lot", defArgs s_is_lot, defBody s_is_lot, defScope s_is_lot, [], []⟩
def d_is_herd : He.DefD := ⟨("is_herd", none), "is_herd", "is_herd", defArgs s_is_herd, defBody s_is_herd, defScope s_is_herd, [], []⟩
def d_together : He.DefD := ⟨("together", none), "together", "together", defArgs s_together, defBody s_together, defScope s_together, [], []⟩
def d_many_passed : He.DefD := ⟨("many_passed", none), "many_passed", "many_passed", defArgs s_many_passed, defBody s_many_passed, defScope s_many_passed, [], []⟩
def d_pass_lots : He.DefD := ⟨("pass_lots", none), "pass_lots", "pass_lots", defArgs s_pass_lots, defBody s_pass_lots, defScope s_pass_lots, [], []⟩
def d_herd_end : He.DefD := ⟨("herd_end", none), "herd_end", "herd_end", defArgs s_herd_end, defBody s_herd_end, defScope s_herd_end, [], []⟩
def d_herd_last : He.DefD := ⟨("herd_last", none), "herd_last", "herd_last", defArgs s_herd_last, defBody s_herd_last, defScope s_herd_last, [], []⟩
def d_fall_lots : He.DefD := ⟨("fall_lots", none), "fall_lots", "fall_lots", defArgs s_fall_lots, defBody s_fall_lots, defScope s_fall_lots, [], []⟩
def d_herd_first : He.DefD := ⟨("herd_first", none), "herd_first", "herd_first", defArgs s_herd_first, defBody s_herd_first, defScope s_herd_first, [], []⟩
def d_herd_passed : He.DefD := ⟨("herd_passed", none), "herd_passed", "herd_passed", defArgs s_herd_passed, defBody s_herd_passed, defScope s_herd_passed, [], []⟩
def d_herd_passings : He.DefD := ⟨("herd_passings", none), "herd_passings", "herd_passings", defArgs s_herd_passings, defBody s_herd_passings, defScope s_herd_passings, [], []⟩
def d_herd_places : He.DefD := ⟨("herd_places", none), "herd_places", "herd_places", defArgs s_herd_places, defBody s_herd_places, defScope s_herd_places, [], []⟩
def d_law_dip : He.DefD := ⟨("_law_dip", none), "_law_dip", "_law_dip", defArgs s_law_dip, defBody s_law_dip, defScope s_law_dip, [], []⟩
def d_law_take : He.DefD := ⟨("_law_take", none), "_law_take", "_law_take", defArgs s_law_take, defBody s_law_take, defScope s_law_take, [], []⟩
def d_law_folded : He.DefD := ⟨("_law_folded", none), "_law_folded", "_law_folded", defArgs s_law_folded, defBody s_law_folded, defScope s_law_folded, [], []⟩
def d_law_same : He.DefD := ⟨("_law_same", none), "_law_same", "_law_same", defArgs s_law_same, defBody s_law_same, defScope s_law_same, [], []⟩
def d_law_packed : He.DefD := ⟨("_law_packed", none), "_law_packed", "_law_packed", defArgs s_law_packed, defBody s_law_packed, defScope s_law_packed, [], []⟩
def d_law_wide : He.DefD := ⟨("_law_wide", none), "_law_wide", "_law_wide", defArgs s_law_wide, defBody s_law_wide, defScope s_law_wide, [], []⟩
def d_law_great : He.DefD := ⟨("_law_great", none), "_law_great", "_law_great", defArgs s_law_great, defBody s_law_great, defScope s_law_great, [], []⟩
def d_law_total : He.DefD := ⟨("_law_total", none), "_law_total", "_law_total", defArgs s_law_total, defBody s_law_total, defScope s_law_total, [], []⟩
def d_law_right : He.DefD := ⟨("_law_right", none), "_law_right", "_law_right", defArgs s_law_right, defBody s_law_right, defScope s_law_right, [], []⟩
def d_law_likes_right : He.DefD := ⟨("_law_likes_right", none), "_law_likes_right", "_law_likes_right", defArgs s_law_likes_right, defBody s_law_likes_right, defScope s_law_likes_right, [], []⟩
def d_law : He.DefD := ⟨("law", none), "law", "law", defArgs s_law, defBody s_law, defScope s_law, [], []⟩
def fnsL : List He.DefD := [d_is_number, d_is_lot, d_is_herd, d_together, d_many_passed, d_pass_lots, d_herd_end, d_herd_last, d_fall_lots, d_herd_first, d_herd_passed, d_herd_passings, d_herd_places, d_law_dip, d_law_take, d_law_folded, d_law_same, d_law_packed, d_law_wide, d_law_great, d_law_total, d_law_right, d_law_likes_right, d_law]
def faL : List He.Fa := [.glo "is_number", .glo "is_lot", .glo "is_herd", .glo "together", .glo "many_passed", .glo "pass_lots", .glo "herd_end", .glo "herd_last", .glo "fall_lots", .glo "herd_first", .glo "herd_passed", .glo "herd_passings", .glo "herd_places", .glo "_law_dip", .glo "_law_take", .glo "_law_folded", .glo "_law_same", .glo "_law_packed", .glo "_law_wide", .glo "_law_great", .glo "_law_total", .glo "_law_right", .glo "_law_likes_right", .glo "law", .free "abs", .free "all", .free "any", .free "bool", .free "enumerate", .free "int", .free "isinstance", .free "len", .free "list", .free "max", .free "min", .free "range", .free "reversed", .free "str", .free "sum", .free "tuple", .free "zip"]
abbrev R : PySem.W.OpenRow := PySem.W.OpenLaw.row PySem.Challenge.rw_hayherd_k79_whole_great_lots
abbrev hk : PySem.W.Hook := He.hookD 4 faL fnsL
def ob (s : PySem.W.SharedT) : He.AlD := He.obsDG 4 faL fnsL (HandSHeadRun.getT s)
theorem ob_eq (s : PySem.W.SharedT) : ob s = hk.obs s.abs := He.obsDG_eq (HandSHeadRun.getT_eq s)
def loose : List PySem.Str := ["is_number", "is_lot", "is_herd", "together", "many_passed", "pass_lots", "herd_end", "herd_last", "fall_lots", "herd_first", "herd_passed", "herd_passings", "herd_places", "_law_dip", "_law_take", "_law_folded", "_law_same", "_law_packed", "_law_wide", "_law_great", "_law_total", "_law_right", "_law_likes_right"]
theorem run (w : World) : HandSHeadRun.RunEq R (PySem.W.view R.prog [26]) hk ob 3000 loose w := by
  intro os
  kernel_rfl
end K79
set_option maxHeartbeats 0
namespace K79
open PySem PySem.Spec PyProof.Rows L2 Evl HH RZ
theorem facts {P : Program} {w : World} {K : PySem.W.Frag} {h : Heap} {mg : Str → Option Value} {f : Addr} (X : K.In h) (G : h.Ns mainGlobals mg) (hfa : mg ("law" : Str) = some (.ref f)) (c : He.SaysD faL fnsL K) :
    ∃ fd : FuncData, (∀ (s : Shared) (v : Value), BindsTo s fd ⟨[v], []⟩ [("_law_script", v)]) ∧ ∀ base : Heap, K.In base → base.Ns mainGlobals mg → FnOk P w K mg base CX0 8 f fd ["_law_script"] (spLaw K) := by
  obtain ⟨fd_is_number, F_is_number⟩ := c.def_ 0 (d := d_is_number) rfl
  have g_is_number := He.glo_ok X G (c.fact 0 (f := .glo "is_number") rfl)
  have b_is_number : Binds K fd_is_number ["thing"] [] := F_is_number.bindsN fun _ _ _ _ _ _ us hl => match us, hl with | [_], _ => rfl
  obtain ⟨fd_is_lot, F_is_lot⟩ := c.def_ 1 (d := d_is_lot) rfl
  have g_is_lot := He.glo_ok X G (c.fact 1 (f := .glo "is_lot") rfl)
  have b_is_lot : Binds K fd_is_lot ["thing"] [] := F_is_lot.bindsN fun _ _ _ _ _ _ us hl => match us, hl with | [_], _ => rfl
  obtain ⟨fd_is_herd, F_is_herd⟩ := c.def_ 2 (d := d_is_herd) rfl
  have g_is_herd := He.glo_ok X G (c.fact 2 (f := .glo "is_herd") rfl)
  have b_is_herd : Binds K fd_is_herd ["thing"] [] := F_is_herd.bindsN fun _ _ _ _ _ _ us hl => match us, hl with | [_], _ => rfl
  obtain ⟨fd_together, F_together⟩ := c.def_ 3 (d := d_together) rfl
  have g_together := He.glo_ok X G (c.fact 3 (f := .glo "together") rfl)
  have b_together : Binds K fd_together ["lots"] [] := F_together.bindsN fun _ _ _ _ _ _ us hl => match us, hl with | [_], _ => rfl
  obtain ⟨fd_many_passed, F_many_passed⟩ := c.def_ 4 (d := d_many_passed) rfl
  have g_many_passed := He.glo_ok X G (c.fact 4 (f := .glo "many_passed") rfl)
  have b_many_passed : Binds K fd_many_passed ["spare", "toll", "many"] [] := F_many_passed.bindsN fun _ _ _ _ _ _ us hl => match us, hl with | [_, _, _], _ => rfl
  obtain ⟨fd_pass_lots, F_pass_lots⟩ := c.def_ 5 (d := d_pass_lots) rfl
  have g_pass_lots := He.glo_ok X G (c.fact 5 (f := .glo "pass_lots") rfl)
  have b_pass_lots : Binds K fd_pass_lots ["line", "strengths", "herd", "who"] [] := F_pass_lots.bindsN fun _ _ _ _ _ _ us hl => match us, hl with | [_, _, _, _], _ => rfl
  obtain ⟨fd_herd_end, F_herd_end⟩ := c.def_ 6 (d := d_herd_end) rfl
  have g_herd_end := He.glo_ok X G (c.fact 6 (f := .glo "herd_end") rfl)
  have b_herd_end : Binds K fd_herd_end ["herd"] [] := F_herd_end.bindsN fun _ _ _ _ _ _ us hl => match us, hl with | [_], _ => rfl
  obtain ⟨fd_herd_last, F_herd_last⟩ := c.def_ 7 (d := d_herd_last) rfl
  have g_herd_last := He.glo_ok X G (c.fact 7 (f := .glo "herd_last") rfl)
  have b_herd_last : Binds K fd_herd_last ["herd"] [] := F_herd_last.bindsN fun _ _ _ _ _ _ us hl => match us, hl with | [_], _ => rfl
  obtain ⟨fd_fall_lots, F_fall_lots⟩ := c.def_ 8 (d := d_fall_lots) rfl
  have g_fall_lots := He.glo_ok X G (c.fact 8 (f := .glo "fall_lots") rfl)
  have b_fall_lots : Binds K fd_fall_lots ["line", "strengths", "herd", "who"] [] := F_fall_lots.bindsN fun _ _ _ _ _ _ us hl => match us, hl with | [_, _, _, _], _ => rfl
  obtain ⟨fd_herd_first, F_herd_first⟩ := c.def_ 9 (d := d_herd_first) rfl
  have g_herd_first := He.glo_ok X G (c.fact 9 (f := .glo "herd_first") rfl)
  have b_herd_first : Binds K fd_herd_first ["herd"] [] := F_herd_first.bindsN fun _ _ _ _ _ _ us hl => match us, hl with | [_], _ => rfl
  obtain ⟨fd_herd_passed, F_herd_passed⟩ := c.def_ 10 (d := d_herd_passed) rfl
  have g_herd_passed := He.glo_ok X G (c.fact 10 (f := .glo "herd_passed") rfl)
  have b_herd_passed : Binds K fd_herd_passed ["herd"] [] := F_herd_passed.bindsN fun _ _ _ _ _ _ us hl => match us, hl with | [_], _ => rfl
  obtain ⟨fd_herd_passings, F_herd_passings⟩ := c.def_ 11 (d := d_herd_passings) rfl
  have g_herd_passings := He.glo_ok X G (c.fact 11 (f := .glo "herd_passings") rfl)
  have b_herd_passings : Binds K fd_herd_passings ["herd"] [] := F_herd_passings.bindsN fun _ _ _ _ _ _ us hl => match us, hl with | [_], _ => rfl
  obtain ⟨fd_herd_places, F_herd_places⟩ := c.def_ 12 (d := d_herd_places) rfl
  have g_herd_places := He.glo_ok X G (c.fact 12 (f := .glo "herd_places") rfl)
  have b_herd_places : Binds K fd_herd_places ["herd"] [] := F_herd_places.bindsN fun _ _ _ _ _ _ us hl => match us, hl with | [_], _ => rfl
  obtain ⟨fd_law_dip, F_law_dip⟩ := c.def_ 13 (d := d_law_dip) rfl
  have g_law_dip := He.glo_ok X G (c.fact 13 (f := .glo "_law_dip") rfl)
  have b_law_dip : Binds K fd_law_dip ["_law_script", "_law_k"] [] := F_law_dip.bindsN fun _ _ _ _ _ _ us hl => match us, hl with | [_, _], _ => rfl
  obtain ⟨fd_law_take, F_law_take⟩ := c.def_ 14 (d := d_law_take) rfl
  have g_law_take := He.glo_ok X G (c.fact 14 (f := .glo "_law_take") rfl)
  have b_law_take : Binds K fd_law_take ["_law_box", "_law_many"] [] := F_law_take.bindsN fun _ _ _ _ _ _ us hl => match us, hl with | [_, _], _ => rfl
  obtain ⟨fd_law_folded, F_law_folded⟩ := c.def_ 15 (d := d_law_folded) rfl
  have g_law_folded := He.glo_ok X G (c.fact 15 (f := .glo "_law_folded") rfl)
  have b_law_folded : Binds K fd_law_folded ["_law_script", "_law_many"] [] := F_law_folded.bindsN fun _ _ _ _ _ _ us hl => match us, hl with | [_, _], _ => rfl
  obtain ⟨fd_law_same, F_law_same⟩ := c.def_ 16 (d := d_law_same) rfl
  have g_law_same := He.glo_ok X G (c.fact 16 (f := .glo "_law_same") rfl)
  have b_law_same : Binds K fd_law_same ["_law_found", "_law_due"] [] := F_law_same.bindsN fun _ _ _ _ _ _ us hl => match us, hl with | [_, _], _ => rfl
  obtain ⟨fd_law_packed, F_law_packed⟩ := c.def_ 17 (d := d_law_packed) rfl
  have g_law_packed := He.glo_ok X G (c.fact 17 (f := .glo "_law_packed") rfl)
  have b_law_packed : Binds K fd_law_packed ["_law_lots"] [] := F_law_packed.bindsN fun _ _ _ _ _ _ us hl => match us, hl with | [_], _ => rfl
  obtain ⟨fd_law_wide, F_law_wide⟩ := c.def_ 18 (d := d_law_wide) rfl
  have g_law_wide := He.glo_ok X G (c.fact 18 (f := .glo "_law_wide") rfl)
  have b_law_wide : Binds K fd_law_wide ["_law_box", "_law_top"] [] := F_law_wide.bindsN fun _ _ _ _ _ _ us hl => match us, hl with | [_, _], _ => rfl
  obtain ⟨fd_law_great, F_law_great⟩ := c.def_ 19 (d := d_law_great) rfl
  have g_law_great := He.glo_ok X G (c.fact 19 (f := .glo "_law_great") rfl)
  have b_law_great : Binds K fd_law_great ["_law_box"] [] := F_law_great.bindsN fun _ _ _ _ _ _ us hl => match us, hl with | [_], _ => rfl
  obtain ⟨fd_law_total, F_law_total⟩ := c.def_ 20 (d := d_law_total) rfl
  have g_law_total := He.glo_ok X G (c.fact 20 (f := .glo "_law_total") rfl)
  have b_law_total : Binds K fd_law_total ["_law_herd"] [] := F_law_total.bindsN fun _ _ _ _ _ _ us hl => match us, hl with | [_], _ => rfl
  obtain ⟨fd_law_right, F_law_right⟩ := c.def_ 21 (d := d_law_right) rfl
  have g_law_right := He.glo_ok X G (c.fact 21 (f := .glo "_law_right") rfl)
  have b_law_right : Binds K fd_law_right ["_law_box"] [] := F_law_right.bindsN fun _ _ _ _ _ _ us hl => match us, hl with | [_], _ => rfl
  obtain ⟨fd_law_likes_right, F_law_likes_right⟩ := c.def_ 22 (d := d_law_likes_right) rfl
  have g_law_likes_right := He.glo_ok X G (c.fact 22 (f := .glo "_law_likes_right") rfl)
  have b_law_likes_right : Binds K fd_law_likes_right ["_law_herd", "_law_by", "_law_ends", "_law_often"] [] := F_law_likes_right.bindsN fun _ _ _ _ _ _ us hl => match us, hl with | [_, _, _, _], _ => rfl
  obtain ⟨fd_law, F_law⟩ := c.def_ 23 (d := d_law) rfl
  have m_abs := He.free_ok X G (c.fact 24 (f := .free "abs") rfl)
  have m_all := He.free_ok X G (c.fact 25 (f := .free "all") rfl)
  have m_any := He.free_ok X G (c.fact 26 (f := .free "any") rfl)
  have m_bool := He.free_ok X G (c.fact 27 (f := .free "bool") rfl)
  have m_enumerate := He.free_ok X G (c.fact 28 (f := .free "enumerate") rfl)
  have m_int := He.free_ok X G (c.fact 29 (f := .free "int") rfl)
  have m_isinstance := He.free_ok X G (c.fact 30 (f := .free "isinstance") rfl)
  have m_len := He.free_ok X G (c.fact 31 (f := .free "len") rfl)
  have m_list := He.free_ok X G (c.fact 32 (f := .free "list") rfl)
  have m_max := He.free_ok X G (c.fact 33 (f := .free "max") rfl)
  have m_min := He.free_ok X G (c.fact 34 (f := .free "min") rfl)
  have m_range := He.free_ok X G (c.fact 35 (f := .free "range") rfl)
  have m_reversed := He.free_ok X G (c.fact 36 (f := .free "reversed") rfl)
  have m_str := He.free_ok X G (c.fact 37 (f := .free "str") rfl)
  have m_sum := He.free_ok X G (c.fact 38 (f := .free "sum") rfl)
  have m_tuple := He.free_ok X G (c.fact 39 (f := .free "tuple") rfl)
  have m_zip := He.free_ok X G (c.fact 40 (f := .free "zip") rfl)
  have e := hfa.symm.trans (He.glo_ok X G (c.fact 23 (f := .glo "law") rfl))
  cases e
  have bl := FunD.bindsA (ps := ["_law_script"]) F_law fun _ _ _ _ _ _ us hl => match us, hl with | [_], _ => rfl
  refine ⟨fd_law, fun s v => bl s [v] rfl, fun base _ _ => ?_⟩
  have h_is_number := ok_is_number (P := P) (w := w) (mg := mg) (base := base) F_is_number g_is_number b_is_number m_isinstance m_int m_bool
  have h_is_lot := ok_is_lot (P := P) (w := w) (mg := mg) (base := base) F_is_lot g_is_lot b_is_lot h_is_number m_isinstance m_tuple m_len m_all
  have h_is_herd := ok_is_herd (P := P) (w := w) (mg := mg) (base := base) F_is_herd g_is_herd b_is_herd h_is_lot m_isinstance m_tuple m_len m_all m_range
  have h_together := ok_together (P := P) (w := w) (mg := mg) (base := base) F_together g_together b_together m_len m_tuple
  have h_many_passed := ok_many_passed (P := P) (w := w) (mg := mg) (base := base) F_many_passed g_many_passed b_many_passed m_min
  have h_pass_lots := ok_pass_lots (P := P) (w := w) (mg := mg) (base := base) F_pass_lots g_pass_lots b_pass_lots h_many_passed m_len
  have h_herd_end := ok_herd_end (P := P) (w := w) (mg := mg) (base := base) F_herd_end g_herd_end b_herd_end h_pass_lots m_len m_range
  have h_herd_last := ok_herd_last (P := P) (w := w) (mg := mg) (base := base) F_herd_last g_herd_last b_herd_last h_herd_end h_together
  have h_fall_lots := ok_fall_lots (P := P) (w := w) (mg := mg) (base := base) F_fall_lots g_fall_lots b_fall_lots m_len
  have h_herd_first := ok_herd_first (P := P) (w := w) (mg := mg) (base := base) F_herd_first g_herd_first b_herd_first h_fall_lots h_together m_len m_range m_reversed
  have h_herd_passed := ok_herd_passed (P := P) (w := w) (mg := mg) (base := base) F_herd_passed g_herd_passed b_herd_passed h_herd_end
  have h_herd_passings := ok_herd_passings (P := P) (w := w) (mg := mg) (base := base) F_herd_passings g_herd_passings b_herd_passings h_herd_passed m_zip m_sum
  have h_herd_places := ok_herd_places (P := P) (w := w) (mg := mg) (base := base) F_herd_places g_herd_places b_herd_places h_herd_end m_len m_range
  have h_law_dip := ok_law_dip (P := P) (w := w) (mg := mg) (base := base) F_law_dip g_law_dip b_law_dip m_len m_abs m_int
  have h_law_take := ok_law_take (P := P) (w := w) (mg := mg) (base := base) F_law_take g_law_take b_law_take
  have h_law_folded := ok_law_folded (P := P) (w := w) (mg := mg) (base := base) F_law_folded g_law_folded b_law_folded m_list m_enumerate
  have h_law_same := ok_law_same (P := P) (w := w) (mg := mg) (base := base) F_law_same g_law_same b_law_same m_isinstance m_list m_tuple m_bool m_str m_int m_len m_all m_zip 4
  have h_law_packed := ok_law_packed (P := P) (w := w) (mg := mg) (base := base) F_law_packed g_law_packed b_law_packed m_tuple
  have h_law_wide := ok_law_wide (P := P) (w := w) (mg := mg) (base := base) F_law_wide g_law_wide b_law_wide h_law_take
  have h_law_great := ok_law_great (P := P) (w := w) (mg := mg) (base := base) F_law_great g_law_great b_law_great h_law_take h_law_wide h_law_packed m_range m_len m_tuple m_min
  have h_law_total := ok_law_total (P := P) (w := w) (mg := mg) (base := base) F_law_total g_law_total b_law_total m_sum
  have h_law_likes_right := ok_law_likes_right (P := P) (w := w) (mg := mg) (base := base) F_law_likes_right g_law_likes_right b_law_likes_right h_law_packed h_law_total h_herd_last h_herd_passings h_herd_places h_herd_passed h_herd_first m_tuple
  have h_law_right := ok_law_right (P := P) (w := w) (mg := mg) (base := base) F_law_right g_law_right b_law_right h_law_take h_law_great h_law_same h_herd_last h_herd_passings h_herd_passed h_herd_first h_is_herd h_law_likes_right m_range m_len m_enumerate m_zip m_any m_sum
  exact ok_law F_law h_law_folded h_law_dip h_law_right m_range m_len m_all m_max
end K79
open PySem PySem.W PySem.Calls PyProof.Rows
theorem PySem.Challenge.cw_hayherd_k79_whole_great_lots_holds : PySem.Challenge.rw_hayherd_k79_whole_great_lots.Holds := by
  w_on; o_law
  refine HandSHeadRun.head_any (r := OpenLaw.row PySem.Challenge.rw_hayherd_k79_whole_great_lots) (q := view (OpenLaw.row PySem.Challenge.rw_hayherd_k79_whole_great_lots).prog [26]) (H := K79.hk) (ob := K79.ob) (M := 3000) (loose := K79.loose) (d := HandSHeadRun.topDef (OpenLaw.row PySem.Challenge.rw_hayherd_k79_whole_great_lots).prog 26) (kwd := []) K79.ob_eq
    (by kernel_rfl) (fun s => by kernel_rfl) K79.run (by kernel_rfl) (by kernel_rfl) (by kernel_rfl) (by rfl) (by first | assumption | decide +kernel) (by decide +kernel) ⟨rfl, rfl, rfl, rfl, rfl, by decide +kernel⟩ ?hw ?hc
  case hw => w_witness2
  case hc =>
    refine L2.walk_ofE (l := PySem.Challenge.rw_hayherd_k79_whole_great_lots) (n := 63) (k := 8) (x := "_law_script") (CX := L2.CX0) rfl (by decide) (by kernel_rfl) ⟨rfl, by decide, by decide⟩ ?F (fun _ _ _ _ z => z)
    intro w mg fa h Y G hmg0
    obtain ⟨K, KX, c⟩ := Y
    have hmg : mg ("law" : PySem.Str) = some (.ref fa) := by
      have e : (HandSHeadRun.topDef (OpenLaw.row PySem.Challenge.rw_hayherd_k79_whole_great_lots).prog 26).name = ("law" : PySem.Str) := by kernel_rfl
      rw [← e]
      exact hmg0
    obtain ⟨fd, hb, hF⟩ := K79.facts (P := (PySem.Challenge.rw_hayherd_k79_whole_great_lots).prog) (w := w) KX G hmg c
    exact ⟨K, fd, HH.spLaw K, KX, hb, fun H a ns hl _ hS => ⟨a, ns, rfl, hS, hl, fun _ => rfl⟩, hF⟩
