import PyProof.Rows.All
import Wide.All
import OpenK.AllK
import Wide.FinOn
import KE.KStateDown
import HandS.ForMost
import HandS.Conv
import HandS.Flow
import HandS.Style
import HandS.TupAny
import HandS.TupMul
import HandS.IsInst
import HandS.Wide
import HandS.Defaults
import HandS.Zip
import HandS.Evl
import HandS.More
import HandS.WordsExc
import HandS.Head2
import HandS.HeadEnd
import HandS.HeadHook2
import HandS.Walk
import HandS.Text
import HandS.StrMore
import KE.IntTextLaws
import PyProof.ReprRoads
import PyProof.ReprText
import PyProof.ReprLen
import HandS.RevRange
import HandS.SortInts
import KE.GoesMore
import HandS.DictComp
import HandS.Dict
import HandS.SortRule
import HandS.Deep
import HandS.Strs
import KE.GoesZip
import KE.GoesEnum
import HandS.DictTup
import KE.KDictZip
import KE.KSortTupAny
import PyProof.Rows.TupDisplay
import KE.KDictDisplayH
import HandS.SetFor
import HandS.Small
import HandS.WideBits
import HandS.ExcInit
import HandS.HeadHook4
import KE.KExcIs
import KE.KTryMore
import KE.KExcInit
import HandS.CallLocal
import KE.DataMinMax
import PyProof.SumAnyB
import HandS.TupLe
import HandS.TupLen
import HandS.Iter
import KE.KDictKeyed
import PyProof.DictTruth
import KE.SortData
import HandS.TryOnly
import KE.DataCmp
import HandS.TupSets
import PySem.Challenge.RW_hayherd_k54_texts_spoilt
set_option Elab.async false
set_option linter.all false
set_option maxRecDepth 100000
set_option maxHeartbeats 4000000
namespace HH
open PySem PySem.Spec PyProof.Rows L2
section
variable {X : Cx}
def CPowW (i j : Int) : Prop := 0 ≤ j ∧ (Builtin.Int.intBits i : Int) * j ≤ 2 ^ 27
theorem op_powW : OpR X (binaryOp .Pow) (rI CPowW fun i j => .int (i ^ j.toNat)) := opI fun _ _ _ _ _ _ _ hc q => pow_int hc.1 hc.2 q
end
end HH
set_option maxHeartbeats 4000000
namespace HH
open PySem PySem.Spec PyProof.Rows L2 Evl
abbrev FnP (K : PySem.W.Frag) (x : Str) (st : Stmt) (f : Addr) (fd : FuncData) : Prop := FunD K x x (defArgs st) (defBody st) (defScope st) [] [] f fd
structure Has (P : Program) (w : World) (K : PySem.W.Frag) (mg : Str → Option Value) (base : Heap) (k : Nat) (x : Str) (ps : List Str) (sp : Sp) (f : Addr) (fd : FuncData) : Prop where
  G : FnOk P w K mg base CX0 k f fd ps sp
  g : mg x = some (.ref f)
  kp : PySem.W.keepIn K (.ref f) = true
  b : Binds K fd ps []
def ExB (b : Addr) (H H' : Hp) : Prop := ∀ a o, a ≠ b → H a = some o → H' a = some o
theorem ExB.refl (b : Addr) (H : Hp) : ExB b H H := fun _ _ _ h => h
theorem ExB.trans {b : Addr} {H H1 H2 : Hp} (x : ExB b H H1) (y : ExB b H1 H2) : ExB b H H2 := fun a o n h => y a o n (x a o n h)
theorem ExB.of {b : Addr} {H H' : Hp} (e : Ex H H') : ExB b H H' := fun a o _ h => e a o h
theorem ExB.new {b p : Addr} {H H' : Hp} {o : HO} (e : ExB b H H') (h : H' p = none) : ExB b H (upd H' p o) := e.trans (.of (Ex.new h))
theorem ExB.upd {b : Addr} {H H' : Hp} {o : HO} (e : ExB b H H') : ExB b H (upd H' b o) := fun a u n h => by
  rw [upd_ne n]
  exact e a u n h
theorem ExB.mut {b p : Addr} {H H' : Hp} {o : HO} (e : ExB b H H') (h : H p = none) : ExB b H (L2.upd H' p o) := fun a u n ha => by
  rw [upd_ne (ne_of_none ha h)]
  exact e a u n ha
theorem ExB.rd {b a : Addr} {H H' : Hp} {u : HO} (e : ExB b H H') (n : a ≠ b) (h : Rd H a u) : Rd H' a u := by
  rcases h with h | ⟨o, h⟩
  · exact .inl (e a _ n h)
  · exact .inr ⟨o, e a _ n h⟩
theorem ExB.l {K : PySem.W.Frag} {b a : Addr} {H H' : Hp} {xs : List V} (e : ExB b H H') (n : a ≠ b) (h : SqL K H a xs) : SqL K H' a xs := by
  rcases h with h | h
  · exact .inl (e.rd n h)
  · exact .inr h
theorem ExB.t {K : PySem.W.Frag} {b a : Addr} {H H' : Hp} {xs ys : List V} (e : ExB b H H') (hb : H b = some (.lst ys)) (h : SqT K H a xs) : SqT K H' a xs := by
  rcases h with h | h
  · refine .inl (e.rd (fun z => ?_) h)
    subst z
    rcases h with h | ⟨o, h⟩
    · rw [hb] at h
      cases h
    · rw [hb] at h
      cases h
  · exact .inr h
def Lim : Nat := 2 ^ 4000
def Bx (H : Hp) (p : Addr) (n : Nat) : Prop := ∃ a b c : Int, H p = some (.lst [.int a, .int b, .int c]) ∧ 0 ≤ a ∧ 0 ≤ b ∧ b < 2 ^ 62 ∧ 0 ≤ c ∧ c ≤ n
theorem Bx.ex {H H' : Hp} {p : Addr} {n : Nat} (h : Bx H p n) (e : Ex H H') : Bx H' p n := by
  obtain ⟨a, b, c, h1, h2⟩ := h
  exact ⟨a, b, c, e _ _ h1, h2⟩
theorem Bx.mut {H : Hp} {p q : Addr} {n : Nat} {o : HO} (h : Bx H p n) (e : p ≠ q) : Bx (upd H q o) p n := by
  obtain ⟨a, b, c, h1, h2⟩ := h
  exact ⟨a, b, c, by rw [upd_ne e]; exact h1, h2⟩
theorem Bx.le {H : Hp} {p : Addr} {n m : Nat} (h : Bx H p n) (e : n ≤ m) : Bx H p m := by
  obtain ⟨a, b, c, h1, h2, h3, h4, h5, h6⟩ := h
  exact ⟨a, b, c, h1, h2, h3, h4, h5, by omega⟩
theorem Bx.lst {H : Hp} {p : Addr} {n : Nat} (h : Bx H p n) : ∃ xs, H p = some (.lst xs) := by
  obtain ⟨a, b, c, h1, _⟩ := h
  exact ⟨_, h1⟩
theorem Bx.ne {H : Hp} {p q : Addr} {n : Nat} (h : Bx H p n) (hq : H q = none) : p ≠ q := by
  obtain ⟨xs, h⟩ := h.lst
  exact ne_of_none h hq
abbrev Row := List (Int × Int)
def BeastAt (K : PySem.W.Frag) (H : Hp) (v : V) (b : Int × Int) : Prop := ∃ p, v = .ref p ∧ SqT K H p [.int b.1, .int b.2]
def Beasts (K : PySem.W.Frag) (H : Hp) (vs : List V) (rs : Row) : Prop := vs.length = rs.length ∧ ∀ (i : Nat) (b : Int × Int), rs[i]? = some b → ∃ u, vs[i]? = some u ∧ BeastAt K H u b
def RowAt (K : PySem.W.Frag) (H : Hp) (v : V) (rs : Row) : Prop := ∃ a vs, v = .ref a ∧ SqT K H a vs ∧ Beasts K H vs rs
theorem BeastAt.ex {K : PySem.W.Frag} {H H' : Hp} {v : V} {b : Int × Int} (e : Ex H H') (h : BeastAt K H v b) : BeastAt K H' v b := by
  obtain ⟨p, h1, h2⟩ := h
  exact ⟨p, h1, ex_t e h2⟩
theorem BeastAt.exB {K : PySem.W.Frag} {H H' : Hp} {v : V} {b : Int × Int} {q : Addr} {ys : List V} (e : ExB q H H') (hq : H q = some (.lst ys)) (h : BeastAt K H v b) : BeastAt K H' v b := by
  obtain ⟨p, h1, h2⟩ := h
  exact ⟨p, h1, e.t hq h2⟩
theorem Beasts.ex {K : PySem.W.Frag} {H H' : Hp} {vs : List V} {rs : Row} (e : Ex H H') (h : Beasts K H vs rs) : Beasts K H' vs rs := ⟨h.1, fun i b hi => by
  obtain ⟨u, h1, h2⟩ := h.2 i b hi
  exact ⟨u, h1, h2.ex e⟩⟩
theorem Beasts.exB {K : PySem.W.Frag} {H H' : Hp} {vs : List V} {rs : Row} {q : Addr} {ys : List V} (e : ExB q H H') (hq : H q = some (.lst ys)) (h : Beasts K H vs rs) : Beasts K H' vs rs := ⟨h.1, fun i b hi => by
  obtain ⟨u, h1, h2⟩ := h.2 i b hi
  exact ⟨u, h1, h2.exB e hq⟩⟩
theorem RowAt.ex {K : PySem.W.Frag} {H H' : Hp} {v : V} {rs : Row} (h : RowAt K H v rs) (e : Ex H H') : RowAt K H' v rs := by
  obtain ⟨a, vs, h1, h2, h3⟩ := h
  exact ⟨a, vs, h1, ex_t e h2, h3.ex e⟩
theorem RowAt.exB {K : PySem.W.Frag} {H H' : Hp} {v : V} {rs : Row} {q : Addr} {n : Nat} (h : RowAt K H v rs) (e : ExB q H H') (hb : Bx H q n) : RowAt K H' v rs := by
  obtain ⟨a, vs, h1, h2, h3⟩ := h
  obtain ⟨ys, hy⟩ := hb.lst
  exact ⟨a, vs, h1, e.t hy h2, h3.exB e hy⟩
theorem Beasts.nil {K : PySem.W.Frag} {H : Hp} : Beasts K H [] [] := ⟨rfl, fun i b h => by simp at h⟩
theorem Beasts.app {K : PySem.W.Frag} {H : Hp} {vs us : List V} {rs ss : Row} (h : Beasts K H vs rs) (g : Beasts K H us ss) : Beasts K H (vs ++ us) (rs ++ ss) := by
  refine ⟨by rw [List.length_append, List.length_append, h.1, g.1], fun i b hi => ?_⟩
  by_cases hl : i < rs.length
  · rw [List.getElem?_append_left hl] at hi
    rw [List.getElem?_append_left (by rw [h.1]; exact hl)]
    exact h.2 i b hi
  · rw [List.getElem?_append_right (by omega)] at hi
    rw [List.getElem?_append_right (by rw [h.1]; omega), h.1]
    exact g.2 _ b hi
theorem Beasts.one {K : PySem.W.Frag} {H : Hp} {v : V} {b : Int × Int} (h : BeastAt K H v b) : Beasts K H [v] [b] := by
  refine ⟨rfl, fun i c hi => ?_⟩
  cases i with
  | zero =>
    cases hi
    exact ⟨v, rfl, h⟩
  | succ i => simp at hi
theorem Beasts.take {K : PySem.W.Frag} {H : Hp} {vs : List V} {rs : Row} (n : Nat) (h : Beasts K H vs rs) : Beasts K H (vs.take n) (rs.take n) := by
  refine ⟨by rw [List.length_take, List.length_take, h.1], fun i b hi => ?_⟩
  rw [List.getElem?_take] at hi ⊢
  by_cases hl : i < n
  · rw [if_pos hl] at hi ⊢
    exact h.2 i b hi
  · rw [if_neg hl] at hi
    cases hi
theorem Beasts.drop {K : PySem.W.Frag} {H : Hp} {vs : List V} {rs : Row} (n : Nat) (h : Beasts K H vs rs) : Beasts K H (vs.drop n) (rs.drop n) := by
  refine ⟨by rw [List.length_drop, List.length_drop, h.1], fun i b hi => ?_⟩
  rw [List.getElem?_drop] at hi ⊢
  exact h.2 _ b hi
theorem cut_to (xs : List V) (j : Nat) : cutV xs none (some (j : Int)) = xs.take j := by
  unfold cutV
  rw [HT.sIx_none, HT.sIx_nat, Nat.sub_zero, List.drop_zero]
  by_cases h : j ≤ xs.length
  · rw [Nat.min_eq_left h]
  · rw [Nat.min_eq_right (by omega), List.take_of_length_le (Nat.le_refl _), List.take_of_length_le (by omega)]
end HH
set_option maxHeartbeats 4000000
namespace HH
open PySem PySem.Spec PyProof.Rows L2 Evl
section
variable {K : PySem.W.Frag} {σ : L2.St} {H H' : Hp} {ta tb te tx : TE} {x y z v : V}
def EvR (K : PySem.W.Frag) (te : TE) (σ : L2.St) (H : Hp) (rs : Row) : Prop := ∀ H1, Ex H H1 → ∀ Q : VK, (∀ v H2, Ex H1 H2 → RowAt K H2 v rs → Q v H2) → te σ H1 Q
theorem er_val {rs : Row} (h : Ev te σ H v) (hr : RowAt K H v rs) : EvR K te σ H rs := fun H1 e Q q => h H1 e Q fun H2 e2 => q v H2 e2 (hr.ex (e.trans e2))
theorem ev_lenR {rs : Row} (h : Ev te σ H v) (hr : RowAt K H v rs) : Ev (tCB (rLenS K) (tCons te tNil)) σ H (.int (rs.length : Int)) := fun H1 e Q q => by
  obtain ⟨a, vs, rfl, hs, hb⟩ := hr
  refine h H1 e _ fun H2 e2 => ⟨a, vs, rfl, Or.inr (ex_t (e.trans e2) hs), ?_⟩
  rw [hb.1]
  exact q H2 e2
end
def sS (rs : Row) (i : Nat) : Int := (rs[i]?.getD (0, 0)).1
def tS (rs : Row) (i : Nat) : Int := (rs[i]?.getD (0, 0)).2
def letsN (rs : Row) (i : Nat) : Bool := decide (0 < i) && decide (sS rs i - tS rs (i - 1) > sS rs (i - 1))
def fallsN (rs : Row) (i : Nat) : Bool := decide (sS rs i > sS rs (i + 1))
def passR (rs : Row) (p : Nat) : Row := rs.take (p - 1) ++ [(sS rs p - tS rs (p - 1), tS rs p), (sS rs (p - 1), tS rs (p - 1))] ++ rs.drop (p + 1)
def fallR (rs : Row) (p : Nat) : Row := rs.take p ++ [(sS rs (p + 1), tS rs (p + 1)), (sS rs p + tS rs (p + 1), tS rs p)] ++ rs.drop (p + 2)
end HH
set_option maxHeartbeats 4000000
namespace HH
open PySem PySem.Spec PyProof.Rows L2 Evl
section
variable {K : PySem.W.Frag} {σ : L2.St} {H H' : Hp} {ta tb te tx : TE} {x y z v : V} {D : Ends} {tz : TS}
end
end HH
set_option maxHeartbeats 4000000
namespace HH
open PySem PySem.Spec PyProof.Rows L2 Evl
theorem bits_le {i : Int} {n : Nat} (h : i.natAbs < 2 ^ n) : Builtin.Int.intBits i ≤ n := by
  unfold Builtin.Int.intBits
  split
  · exact Nat.zero_le _
  · rename_i z
    have hz : i.natAbs ≠ 0 := by
      intro e
      apply z
      have : i = 0 := by omega
      rw [this]
      rfl
    have := (Nat.log2_lt hz).mpr h
    omega
theorem pow_ok {i : Int} (h : i.natAbs < 2 ^ 4100) : CPowW i 5 := by
  refine ⟨by decide, ?_⟩
  have h1 := bits_le h
  have h2 : (Builtin.Int.intBits i : Int) ≤ 4100 := by omega
  have h3 : (2 : Int) ^ 27 = 134217728 := by decide
  rw [h3]
  omega
theorem mulW_ok {i j : Int} (h : i.natAbs < 2 ^ 4100) (g : j.natAbs < 2 ^ 4100) : CMulW i j := wide_mul h g (by decide) (by decide) (by decide)
theorem two_split : (2 : Nat) ^ 4100 = 2 ^ 4000 * 2 ^ 100 := by rw [← Nat.pow_add]
theorem big_of {c : Int} (h0 : 0 ≤ c) (h : c ≤ (Lim : Int) + 1) (k b : Int) (hk : 0 ≤ k) (hk2 : k ≤ 40000) (hb : 0 ≤ b) (hb2 : b ≤ 2 ^ 63) : (b + k * c).natAbs < 2 ^ 4100 := by
  have hl : Lim = 2 ^ 4000 := rfl
  have hp : 0 < (2 : Nat) ^ 4000 := Nat.pow_pos (by decide)
  rw [two_split]
  generalize (2 : Nat) ^ 4000 = L at *
  have h2 : c.toNat ≤ L + 1 := by omega
  have h3 : k.toNat * c.toNat ≤ 40000 * (L + 1) := Nat.mul_le_mul (by omega) h2
  have h4 : (b + k * c) = ((b.toNat + k.toNat * c.toNat : Nat) : Int) := by
    rw [Int.natCast_add, Int.natCast_mul, Int.toNat_of_nonneg hb, Int.toNat_of_nonneg hk, Int.toNat_of_nonneg h0]
  rw [h4, Int.natAbs_natCast]
  have h5 : b.toNat ≤ 2 ^ 63 := by omega
  have h6 : (2 : Nat) ^ 100 = 1267650600228229401496703205376 := by decide
  have h7 : (2 : Nat) ^ 63 = 9223372036854775808 := by decide
  rw [h6]
  rw [h7] at h5
  have h8 : L * 1267650600228229401496703205376 ≥ L * 40000 + L * 9223372036854775808 + L * 50000 := by omega
  omega
def spTake : Sp := fun vs H Q _ => ∃ (p : Addr) (m : Int) (n : Nat), vs = [.ref p, .int m] ∧ 0 < m ∧ m < 1073741824 ∧ Bx H p n ∧ n < Lim ∧ ∀ (r : Int) H', 0 ≤ r → r < m → ExB p H H' → Bx H' p (n + 1) → Q (.int r) H'
theorem divW_ok {i m : Int} (h : 0 < m) (g : m < 1073741824) : CDivW i m := wide_div h (show m.natAbs < 2 ^ 30 by
  have : (2 : Nat) ^ 30 = 1073741824 := by decide
  omega) (by decide) (by decide)
theorem fmod_lo {a m : Int} (h : 0 < m) : 0 ≤ a.fmod m := Int.fmod_nonneg_of_pos a h
theorem fmod_hi {a m : Int} (h : 0 < m) : a.fmod m < m := Int.fmod_lt_of_pos a h
end HH
set_option maxHeartbeats 4000000
namespace HH
open PySem PySem.Spec PyProof.Rows L2 Evl RZ
inductive TyN (K : PySem.W.Frag) (H : Hp) : V → String → Prop where
  | non : TyN K H .non "NoneType"
  | bl (b : Bool) : TyN K H (.bl b) "bool"
  | int (i : Int) : TyN K H (.int i) "int"
  | str (s : Str) : TyN K H (.str s) "str"
  | lst {a : Addr} {xs : List V} (e : SqL K H a xs) : TyN K H (.ref a) "list"
  | tup {a : Addr} {xs : List V} (e : SqT K H a xs) : TyN K H (.ref a) "tuple"
theorem TyN.ex {K : PySem.W.Frag} {H H' : Hp} {x : V} {t : String} (h : TyN K H x t) (e : Ex H H') : TyN K H' x t := by
  cases h with
  | non => exact .non
  | bl b => exact .bl b
  | int i => exact .int i
  | str s => exact .str s
  | lst h => exact .lst (ex_l e h)
  | tup h => exact .tup (ex_t e h)
theorem TyN.x {K : PySem.W.Frag} {H : Hp} {x : V} {t : String} (h : TyN K H x t) : TyX K H x (.type t) := by
  cases h with
  | non => exact .base .non
  | bl b => exact .base (.bl b)
  | int i => exact .base (.int i)
  | str s => exact .base (.str s)
  | lst h =>
    rcases h with (h | ⟨o, h⟩) | h
    · exact .base (.lst h)
    · exact .base (.frz h)
    · obtain ⟨o, _, _, h1, h2, _⟩ := h
      exact .kList h1 h2
  | tup h =>
    rcases h with (h | ⟨o, h⟩) | h
    · exact .base (.tup h)
    · exact .fTuple h
    · obtain ⟨o, _, _, h1, h2, _⟩ := h
      exact .kTuple h1 h2
section
variable {K : PySem.W.Frag} {σ : L2.St} {H H' : Hp} {ta tb te tx : TE} {x y z v : V} {D : Ends} {tz : TS}
theorem ev_isi {T C : String} {b : Bool} (h : Ev te σ H x) (ht : TyN K H x T) (k : kitB T C = some b) : Ev (tCB (rIsi K) (tCons te (tCons (tC (.ty C)) tNil))) σ H (.bl b) := fun H1 e Q q =>
  h H1 e _ fun H2 e2 => ⟨x, .ty C, .type T, .type C, b, rfl, .ty C, (ht.ex (e.trans e2)).x, kit_ty k, q H2 e2⟩
theorem ev_isiT {T C C2 : String} {b : Bool} (h : Ev te σ H x) (ht : TyN K H x T) (k : PySem.W.kitAny K (.type T) [.type C, .type C2] = some b) : Ev (tCB (rIsiT K) (tCons te (tCons (tTup (tCons (tC (.ty C)) (tCons (tC (.ty C2)) tNil))) tNil))) σ H (.bl b) := fun H1 e Q q =>
  h H1 e _ fun H2 e2 => ⟨by show 2 ≤ sizeLine; decide, fun p hp => ⟨x, p, [.ty C, .ty C2], .type T, [.type C, .type C2], b, rfl, upd_same, .cons (.ty C) (.cons (.ty C2) .nil), (ht.ex ((e.trans e2).trans (Ex.new hp))).x, k, q _ (e2.trans (Ex.new hp))⟩⟩
theorem rv_isN2 {b : Bool} (h : decide (x = V.non) = b) : RV (fun x y H Q => y = .non ∧ Q (.bl (decide (x = .non))) H) x .non H (.bl b) := fun H1 _ _ q => ⟨rfl, by rw [h]; exact q H1 (Ex.refl H1)⟩
end
theorem walk_zipT {K : PySem.W.Frag} {a b : Addr} {xs ys : List V} {n : Nat} (hn : n = min xs.length ys.length) : Walk (ItzT K a b) n (fun H => SqT K H a xs ∧ SqT K H b ys) (YPair (fun i => xs[i]?) (fun i => ys[i]?)) := by
  subst hn
  refine ⟨fun i _ hi q => ?_, fun _ q => ⟨xs, ys, q.1, q.2, by omega⟩, fun i H v H' _ q y => ?_⟩
  · have g1 : i < xs.length := by omega
    have g2 : i < ys.length := by omega
    exact ⟨xs, ys, xs[i], ys[i], q.1, q.2, by simp [g1], by simp [g2]⟩
  · obtain ⟨T, x, z, h1, h2, h3, h4, h5⟩ := y
    exact ⟨T, x, z, h1, h2, h3, h4 xs q.1, h5 ys q.2⟩
def Flat : V → Prop
  | .int _ => True
  | .bl _ => True
  | .str _ => True
  | .non => True
  | _ => False
def Alike (K : PySem.W.Frag) (H : Hp) : Nat → V → V → Prop
  | 0, _, _ => False
  | d + 1, x, y => (x = y ∧ Flat x) ∨ ∃ (a b : Addr) (xs ys : List V), x = .ref a ∧ y = .ref b ∧ ((SqL K H a xs ∧ SqL K H b ys) ∨ (SqT K H a xs ∧ SqT K H b ys)) ∧ xs.length = ys.length ∧ xs.length ≤ 40000 ∧
    ∀ (i : Nat) (u v : V), xs[i]? = some u → ys[i]? = some v → Alike K H d u v
theorem Alike.ex {K : PySem.W.Frag} {H H' : Hp} (e : Ex H H') : ∀ {d : Nat} {x y : V}, Alike K H d x y → Alike K H' d x y
  | 0, _, _, h => h
  | d + 1, x, y, h => by
    rcases h with h | ⟨a, b, xs, ys, h1, h2, h3, h4, h5, h6⟩
    · exact .inl h
    · refine .inr ⟨a, b, xs, ys, h1, h2, ?_, h4, h5, fun i u v hu hv => Alike.ex e (h6 i u v hu hv)⟩
      rcases h3 with h3 | h3
      · exact .inl ⟨ex_l e h3.1, ex_l e h3.2⟩
      · exact .inr ⟨ex_t e h3.1, ex_t e h3.2⟩
def spSame (K : PySem.W.Frag) (d : Nat) : Sp := fun vs H Q _ => ∃ x y, vs = [x, y] ∧ Alike K H d x y ∧ RetV (.bl true) H Q
theorem has_none {P : Program} {w : World} {K : PySem.W.Frag} {mg : Str → Option Value} {base : Heap} {f : Addr} {fd : FuncData} {ps : List Str} : FnOk P w K mg base CX0 0 f fd ps (spSame K 0) :=
  ⟨fun _ _ _ _ h => by obtain ⟨_, _, _, h, _⟩ := h; exact h.elim, fun _ _ _ _ _ _ _ _ _ _ _ _ _ h => by obtain ⟨_, _, _, h, _⟩ := h; exact h.elim⟩
section
variable {K : PySem.W.Frag} {σ : L2.St} {H H' : Hp}
theorem el_same {d : Nat} {a b : Addr} {xs ys : List V} (hl : xs.length = ys.length) (hz : xs.length ≤ 40000) (h3 : (SqL K H a xs ∧ SqL K H b ys) ∨ (SqT K H a xs ∧ SqT K H b ys)) (h6 : ∀ (i : Nat) (u v : V), xs[i]? = some u → ys[i]? = some v → Alike K H d u v) :
    EvL (tLc (iZipA K (tCons (tVar 0) (tCons (tVar 1) tNil))) (gTup K 2 (gCons (gName 2) (gCons (gName 3) gNil))) tYes (tCall (spSame K d) [] E0 (tCons (tVar 2) (tCons (tVar 3) tNil))) [2, 3]) [some (.ref a), some (.ref b), none, none] H ((List.replicate xs.length true).map V.bl) := fun H0 e Q q => by
  have turn : ∀ (Dl : Addr) (i : Nat) (x : V) (H1 H2 : Hp), H0 Dl = none → i < xs.length → (Ex H0 H1 ∧ H1 Dl = some (.lst ((List.replicate i true).map V.bl))) → YPair (fun i => xs[i]?) (fun i => ys[i]?) i H1 x H2 →
      gTup K 2 (gCons (gName 2) (gCons (gName 3) gNil)) x (wipe [some (.ref a), some (.ref b), none, none] [2, 3]) H2 fun σ2 H3 => wipe σ2 [2, 3] = wipe [some (.ref a), some (.ref b), none, none] [2, 3] ∧ tYes σ2 H3 fun b H4 =>
      if b = true then tCall (spSame K d) [] E0 (tCons (tVar 2) (tCons (tVar 3) tNil)) σ2 H4 fun y H5 => ∃ acc, H5 Dl = some (.lst acc) ∧ acc.length < sizeLine ∧ (Ex H0 (upd H5 Dl (.lst (acc ++ [y]))) ∧ (upd H5 Dl (.lst (acc ++ [y]))) Dl = some (.lst ((List.replicate (i + 1) true).map V.bl))) else (Ex H0 H4 ∧ H4 Dl = some (.lst ((List.replicate (i + 1) true).map V.bl))) := by
    intro Dl i x H1 H2 hD hi p y
    obtain ⟨T, u, v, rfl, nT, rfl, hu, hv⟩ := y
    refine ⟨T, [u, v], rfl, st_of upd_same, rfl, u, [v], rfl, v, [], rfl, rfl, rfl, ?_⟩
    show tCall (spSame K d) [] E0 (tCons (tVar 2) (tCons (tVar 3) tNil)) _ _ _
    have e2 : Ex H0 (upd H1 T (.tup [u, v])) := p.1.trans (Ex.new nT)
    refine ⟨u, rfl, v, rfl, u, v, rfl, (h6 i u v hu hv).ex (e.trans e2), fun H5 e5 => ⟨_, e5 _ _ ((Ex.new nT) _ _ p.2), ?_, ?_, ?_⟩⟩
    · rw [List.length_map, List.length_replicate]
      exact sz_lt (by omega)
    · exact Ex.mut (e2.trans e5) hD
    · rw [upd_same, List.replicate_succ', List.map_append]
      rfl
  rcases h3 with ⟨ha, hb⟩ | ⟨ha, hb⟩
  · refine ⟨.ref a, rfl, .ref b, rfl, a, b, xs, ys, rfl, .inl ⟨ex_l e ha, ex_l e hb, fun Dl hD => ?_⟩⟩
    refine lc_it (walk_zip (n := xs.length) (xs := xs) (ys := ys) (by omega)) (fun i H1 => Ex H0 H1 ∧ H1 Dl = some (.lst ((List.replicate i true).map V.bl))) ⟨Ex.new hD, upd_same⟩ (fun i H1 _ p => ⟨ex_l (e.trans p.1) ha, ex_l (e.trans p.1) hb⟩) (fun i x H1 H2 hi p y => turn Dl i x H1 H2 hD hi p y) (fun H1 p => q Dl H1 hD p.1 p.2)
  · refine ⟨.ref a, rfl, .ref b, rfl, a, b, xs, ys, rfl, .inr ⟨ex_t e ha, ex_t e hb, fun Dl hD => ?_⟩⟩
    refine lc_it (walk_zipT (n := xs.length) (xs := xs) (ys := ys) (by omega)) (fun i H1 => Ex H0 H1 ∧ H1 Dl = some (.lst ((List.replicate i true).map V.bl))) ⟨Ex.new hD, upd_same⟩ (fun i H1 _ p => ⟨ex_t (e.trans p.1) ha, ex_t (e.trans p.1) hb⟩) (fun i x H1 H2 hi p y => turn Dl i x H1 H2 hD hi p y) (fun H1 p => q Dl H1 hD p.1 p.2)
theorem ev_allT {n : Nat} {te : TE} (h : EvL te σ H ((List.replicate n true).map V.bl)) : Ev (tCB (rAll K) (tCons te tNil)) σ H (.bl true) := fun H1 e Q q =>
  h H1 e _ fun p H2 hp e2 h2 => ⟨p, List.replicate n true, rfl, sq_of h2, by
    have e3 : (List.replicate n true).all id = true := by
      rw [List.all_eq_true]
      intro x hx
      rw [(List.mem_replicate.mp hx).2]
      rfl
    rw [e3]
    exact q H2 e2⟩
theorem ev_lenA {a : Addr} {xs : List V} {te : TE} (h : Ev te σ H (.ref a)) (h3 : SqL K H a xs ∨ SqT K H a xs) : Ev (tCB (rLenS K) (tCons te tNil)) σ H (.int (xs.length : Int)) := fun H1 e Q q =>
  h H1 e _ fun H2 e2 => ⟨a, xs, rfl, by
    rcases h3 with h3 | h3
    · exact .inl (ex_l (e.trans e2) h3)
    · exact .inr (ex_t (e.trans e2) h3), q H2 e2⟩
end
theorem kit_list {K : PySem.W.Frag} : PySem.W.kitAny K (.type "list") [.type "list", .type "tuple"] = some true := kitAny_cons (b := true) (kit_ty (by decide +kernel)) (fun h => by cases h) (fun _ => rfl)
theorem kit_tuple {K : PySem.W.Frag} : PySem.W.kitAny K (.type "tuple") [.type "list", .type "tuple"] = some true := kitAny_cons (b := false) (kit_ty (by decide +kernel)) (fun _ => kitAny_cons (b := true) (kit_ty (by decide +kernel)) (fun h => by cases h) (fun _ => rfl)) (fun h => by cases h)
theorem kit_int {K : PySem.W.Frag} : PySem.W.kitAny K (.type "int") [.type "list", .type "tuple"] = some false := kitAny_cons (b := false) (kit_ty (by decide +kernel)) (fun _ => kitAny_cons (b := false) (kit_ty (by decide +kernel)) (fun _ => kitAny_nil) (fun h => by cases h)) (fun h => by cases h)
theorem kit_bool {K : PySem.W.Frag} : PySem.W.kitAny K (.type "bool") [.type "list", .type "tuple"] = some false := kitAny_cons (b := false) (kit_ty (by decide +kernel)) (fun _ => kitAny_cons (b := false) (kit_ty (by decide +kernel)) (fun _ => kitAny_nil) (fun h => by cases h)) (fun h => by cases h)
theorem kit_str {K : PySem.W.Frag} : PySem.W.kitAny K (.type "str") [.type "list", .type "tuple"] = some false := kitAny_cons (b := false) (kit_ty (by decide +kernel)) (fun _ => kitAny_cons (b := false) (kit_ty (by decide +kernel)) (fun _ => kitAny_nil) (fun h => by cases h)) (fun h => by cases h)
theorem kit_non {K : PySem.W.Frag} : PySem.W.kitAny K (.type "NoneType") [.type "list", .type "tuple"] = some false := kitAny_cons (b := false) (kit_ty (by decide +kernel)) (fun _ => kitAny_cons (b := false) (kit_ty (by decide +kernel)) (fun _ => kitAny_nil) (fun h => by cases h)) (fun h => by cases h)
end HH
set_option maxHeartbeats 4000000
namespace HH
open PySem PySem.Spec PyProof.Rows L2 Evl RZ
def spOf (K : PySem.W.Frag) : Sp := fun vs H Q _ => ∃ (p l : Addr) (xs : List V) (n : Nat), vs = [.ref p, .ref l] ∧ SqL K H l xs ∧ 0 < xs.length ∧ xs.length < 100000 ∧ l ≠ p ∧ Bx H p n ∧ n < Lim ∧ ∀ (r : Nat) (x : V) H', xs[r]? = some x → ExB p H H' → Bx H' p (n + 1) → Q x H'
def spDip (K : PySem.W.Frag) : Sp := fun vs H Q _ => ∃ (a : Addr) (k : Nat) (ns : List Int), vs = [.ref a, .int (k : Int)] ∧ SqL K H a (ns.map V.int) ∧ k ≤ 100 ∧ ∀ p H', H p = none → Ex H H' → Bx H' p 0 → Q (.ref p) H'
def spFolded (K : PySem.W.Frag) : Sp := fun vs H Q _ => ∃ (a : Addr) (m : Nat) (ns : List Int), vs = [.ref a, .int (m : Int)] ∧ 0 < m ∧ m ≤ 10 ∧ SqL K H a (ns.map V.int) ∧ ns.length ≤ 63 ∧ ∀ p H' (ms : List Int), H p = none → Ex H H' → ms.length ≤ m → H' p = some (.lst (ms.map V.int)) → Q (.ref p) H'
def Tame (b : Int × Int) : Prop := -(10 ^ 12) < b.1 ∧ b.1 < 10 ^ 12 ∧ 0 ≤ b.2 ∧ b.2 < 10 ^ 12
def spRow (K : PySem.W.Frag) : Sp := fun vs H Q _ => ∃ (p : Addr) (m : Nat) (n : Nat), vs = [.ref p, .int (m : Int)] ∧ 0 < m ∧ m ≤ 30 ∧ Bx H p n ∧ n + 100 < Lim ∧ ∀ v H' (rs : Row), ExB p H H' → Bx H' p (n + 100) → RowAt K H' v rs → 0 < rs.length → rs.length ≤ m → (∀ b ∈ rs, Tame b) → Q v H'
section
variable {K : PySem.W.Frag} {σ : L2.St} {H H' : Hp} {ta tb te tx : TE} {x y z v : V} {D : Ends} {tz : TS}
theorem el_listN {xs : List V} (ha : EvL ta σ H xs) : EvL (tCB (rListS K) (tCons ta tNil)) σ H xs := fun H1 e Q q =>
  ha H1 e _ fun p H2 hp e2 h2 => ⟨p, xs, rfl, .inl (sq_of h2), fun l hl => q l _ (fresh_back e2 hl) (e2.trans (Ex.new hl)) upd_same⟩
theorem rc_abs {i : Int} : RC (fun xs H Q => ∃ i, xs = [.int i] ∧ Q (.int (if i < 0 then -i else i)) H) [.int i] H (.int (if i < 0 then -i else i)) := fun H1 _ _ q => ⟨i, rfl, q H1 (Ex.refl H1)⟩
theorem rc_intB {b : Bool} : RC (fun xs H Q => (∃ i, xs = [.int i] ∧ Q (.int i) H) ∨ ∃ k, xs = [.bl k] ∧ Q (.int (if k then 1 else 0)) H) [.bl b] H (.int (if b then 1 else 0)) := fun H1 _ _ q => .inr ⟨b, rfl, q H1 (Ex.refl H1)⟩
end
theorem at_ints {zs : List Int} {w : Int} (h0 : 0 ≤ w) (h1 : w < zs.length) : ∃ z, z ∈ zs ∧ atI (zs.map V.int) w = some (.int z) := by
  obtain ⟨k, rfl⟩ := Int.eq_ofNat_of_zero_le h0
  have hk : k < zs.length := by omega
  refine ⟨zs[k], List.getElem_mem hk, atI_nat ?_⟩
  rw [List.getElem?_map, List.getElem?_eq_getElem hk] <;> rfl
theorem b01 (b : Bool) : -(2 ^ 64) < (if b = true then (1 : Int) else 0) ∧ (if b = true then (1 : Int) else 0) < 2 ^ 64 := by
  cases b <;> decide
theorem b01n (b : Bool) : 0 ≤ (if b = true then (1 : Int) else 0) := by
  cases b <;> decide
theorem cut_ints (ns : List Int) (lo hi : Option Int) : ∃ ms : List Int, cutV (ns.map V.int) lo hi = ms.map V.int ∧ ms.length ≤ ns.length - HT.sIx ns.length 0 lo := by
  refine ⟨(ns.drop (HT.sIx ns.length 0 lo)).take (HT.sIx ns.length ns.length hi - HT.sIx ns.length 0 lo), ?_, ?_⟩
  · unfold cutV
    rw [List.length_map, List.map_take, List.map_drop]
  · rw [List.length_take, List.length_drop]
    omega
section
variable {K : PySem.W.Frag} {σ : L2.St} {H H' : Hp} {D : Ends} {tz tu : TS} {g : TG}
theorem q_forE {xs : List V} {tl : TE} (h : EvL tl σ H xs) (Pv : Addr → Nat → L2.St → Hp → Prop) (h0 : ∀ c H1, H c = none → Ex H H1 → H1 c = some (.lst xs) → Pv c 0 σ H1) (hl : ∀ c i σ' H', i ≤ xs.length → Pv c i σ' H' → SqL K H' c xs)
    (hs : ∀ c i x σ' H' T, xs[i]? = some x → Pv c i σ' H' → H' T = none → g (.ref T) σ' (upd H' T (.tup [.int (i : Nat), x])) fun σ2 H2 => tu { D with nx := Pv c (i + 1), ct := Pv c (i + 1), bk := tz D } σ2 H2) (hd : ∀ c σ' H', Pv c xs.length σ' H' → tz D σ' H') : tSeq (tFor (iEnum K (tCons tl tNil)) g tu) tz D σ H :=
  h H (Ex.refl H) _ fun c H1 hc e h1 => ⟨c, xs, rfl, sq_of h1, for_it (walk_enum (xs := xs)) (D := { D with nx := tz D }) (Pv c) (h0 c H1 hc e h1) (hl c) (fun i x σ' H' H2 hi p y => by
    obtain ⟨T, u, z, rfl, nT, rfl, hu, hz⟩ := y
    cases hu
    exact hs c i z σ' H' T hz p nT) (hd c)⟩
end
theorem fmod_nat (i m : Nat) : ((i : Nat) : Int).fmod ((m : Nat) : Int) = ((i % m : Nat) : Int) := by
  rw [Int.fmod_eq_emod_of_nonneg _ (Int.natCast_nonneg m)]
  rfl
theorem ExB.back {b p : Addr} {H H' : Hp} (e : ExB b H H') (h : H' p = none) (n : p ≠ b) : H p = none := by
  cases z : H p with
  | none => rfl
  | some o =>
    rw [e p o n z] at h
    cases h
theorem mul_bd {r i : Int} (h0 : 0 ≤ r) (h1 : r ≤ 3) (g0 : 0 ≤ i) (g1 : i ≤ 40) : 0 ≤ r * i ∧ r * i ≤ 120 :=
  ⟨Int.mul_nonneg h0 g0, Int.le_trans (Int.mul_le_mul h1 g1 g0 (by decide)) (by decide)⟩
end HH
set_option maxHeartbeats 4000000
namespace HH
open PySem PySem.Spec PyProof.Rows L2 Evl RZ
def Nice (k : Nat) (d : PyData) : Prop := d.canLay0 = true ∧ d.depth ≤ k
theorem nice_all {k : Nat} : ∀ {ds : List PyData}, (∀ d ∈ ds, Nice k d) → PyData.canLayAll0 ds = true ∧ PyData.depthAll ds ≤ k
  | [], _ => ⟨by simp [PyData.canLayAll0], by simp [PyData.depthAll]⟩
  | d :: ds, h => by
    have h1 := h d (List.mem_cons_self ..)
    have h2 := nice_all (fun e he => h e (List.mem_cons_of_mem _ he))
    refine ⟨by simp [PyData.canLayAll0, h1.1, h2.1], ?_⟩
    have e : PyData.depthAll (d :: ds) = max d.depth (PyData.depthAll ds) := by simp [PyData.depthAll]
    rw [e]
    have := h1.2
    have := h2.2
    omega
theorem nice_int (k : Nat) (i : Int) : Nice k (.int i) := ⟨by simp [PyData.canLay0], by simp [PyData.depth]⟩
theorem nice_str (k : Nat) (i : Str) (h : PyData.strOk i = true) : Nice k (.str i) := ⟨by simp [PyData.canLay0, h], by simp [PyData.depth]⟩
theorem nice_list {k : Nat} {ds : List PyData} (h : ∀ d ∈ ds, Nice k d) : Nice (k + 1) (.list ds) := ⟨by simp [PyData.canLay0, (nice_all h).1], by
  have := (nice_all h).2
  simp [PyData.depth]
  omega⟩
theorem nice_tuple {k : Nat} {ds : List PyData} (h : ∀ d ∈ ds, Nice k d) : Nice (k + 1) (.tuple ds) := ⟨by simp [PyData.canLay0, (nice_all h).1], by
  have := (nice_all h).2
  simp [PyData.depth]
  omega⟩
theorem Nice.shaped {k : Nat} {d : PyData} (h : Nice k d) (hk : k ≤ 64) : SeqAt.shaped d = true := by
  unfold SeqAt.shaped
  rw [h.1, decide_eq_true (Nat.le_trans h.2 hk)]
  rfl
theorem dp_ints {K : PySem.W.Frag} {H : Hp} : ∀ ns : List Int, DpAll K H (ns.map V.int) (ns.map PyData.int)
  | [] => .nil
  | n :: ns => .cons (.int n) (dp_ints ns)
theorem nice_ints (ns : List Int) : ∀ d ∈ ns.map PyData.int, Nice 0 d := fun d hd => by
  obtain ⟨i, _, rfl⟩ := List.mem_map.mp hd
  exact nice_int 0 i
mutual
theorem dp_ex {K : PySem.W.Frag} {H H' : Hp} (e : Ex H H') : ∀ {v : V} {d : PyData}, Dp K H v d → Dp K H' v d
  | _, _, .non => .non
  | _, _, .bl b => .bl b
  | _, _, .int i => .int i
  | _, _, .str x => .str x
  | _, _, .lst h g => .lst (ex_l e h) (dps_ex e g)
  | _, _, .tup h g => .tup (ex_t e h) (dps_ex e g)
theorem dps_ex {K : PySem.W.Frag} {H H' : Hp} (e : Ex H H') : ∀ {v : List V} {d : List PyData}, DpAll K H v d → DpAll K H' v d
  | _, _, .nil => .nil
  | _, _, .cons h g => .cons (dp_ex e h) (dps_ex e g)
end
theorem dps_len {K : PySem.W.Frag} {H : Hp} : ∀ {v : List V} {d : List PyData}, DpAll K H v d → v.length = d.length
  | _, _, .nil => rfl
  | _, _, .cons h g => by
    rw [List.length_cons, List.length_cons, dps_len g]
section
variable {K : PySem.W.Frag} {σ : L2.St} {H H' : Hp} {te : TE}
theorem et_neNil {k : Nat} {a : Addr} {xs : List V} {ds : List PyData} (h : Ev te σ H (.ref a)) (ha : SqL K H a xs) (hd : DpAll K H xs ds) (hn : ∀ d ∈ ds, Nice k d) (hk : k < 64) : EvT (tTest (tOp (rNeD K) te (tLst tNil))) σ H (!xs.isEmpty) := fun H1 e Q q =>
  h H1 e _ fun H2 e2 => ⟨by show 0 ≤ sizeLine; decide, fun p hp => by
    have e3 := (e.trans e2).trans (Ex.new (o := .lst []) hp)
    refine ⟨.list ds, .list [], .lst (ex_l e3 ha) (dps_ex e3 hd), .lst (sq_of upd_same) .nil, (nice_list hn).shaped (by omega), (nice_list (k := 0) (fun d h => by cases h)).shaped (by omega), _, rfl, ?_⟩
    have e4 : PyData.eqv (.list ds) (.list []) = xs.isEmpty := by
      have hl := dps_len hd
      cases ds with
      | nil =>
        have : xs = [] := List.length_eq_zero_iff.mp hl
        subst this
        simp [PyData.eqv, PyData.eqvAll]
      | cons d ds =>
        cases xs with
        | nil => cases hl
        | cons x xs => simp [PyData.eqv, PyData.eqvAll]
    rw [e4]
    exact q _ (e2.trans (Ex.new hp))⟩
end
theorem sS_at {pre post : Row} {x y : Int × Int} : sS (pre ++ x :: y :: post) pre.length = x.1 ∧ tS (pre ++ x :: y :: post) pre.length = x.2 ∧ sS (pre ++ x :: y :: post) (pre.length + 1) = y.1 ∧ tS (pre ++ x :: y :: post) (pre.length + 1) = y.2 := by
  unfold sS tS
  have h1 : (pre ++ x :: y :: post)[pre.length]? = some x := by
    rw [List.getElem?_append_right (Nat.le_refl _), Nat.sub_self]
    rfl
  have h2 : (pre ++ x :: y :: post)[pre.length + 1]? = some y := by
    rw [List.getElem?_append_right (by omega), show pre.length + 1 - pre.length = 1 by omega]
    rfl
  rw [h1, h2]
  exact ⟨rfl, rfl, rfl, rfl⟩
theorem split_take {pre post : Row} {x y : Int × Int} : (pre ++ x :: y :: post).take pre.length = pre ∧ (pre ++ x :: y :: post).drop (pre.length + 2) = post := by
  constructor
  · rw [List.take_append_of_le_length (Nat.le_refl _), List.take_length]
  · rw [← List.drop_drop, List.drop_append_of_le_length (Nat.le_refl _), List.drop_length]
    rfl
theorem pass_split {pre post : Row} {x y : Int × Int} : passR (pre ++ x :: y :: post) (pre.length + 1) = pre ++ (y.1 - x.2, y.2) :: x :: post := by
  unfold passR
  obtain ⟨h1, h2, h3, h4⟩ := sS_at (pre := pre) (post := post) (x := x) (y := y)
  obtain ⟨g1, g2⟩ := split_take (pre := pre) (post := post) (x := x) (y := y)
  rw [Nat.add_sub_cancel, h1, h2, h3, h4, g1, show pre.length + 1 + 1 = pre.length + 2 from rfl, g2, List.append_assoc]
  rfl
theorem fall_split {pre post : Row} {x y : Int × Int} : fallR (pre ++ x :: y :: post) pre.length = pre ++ y :: (x.1 + y.2, x.2) :: post := by
  unfold fallR
  obtain ⟨h1, h2, h3, h4⟩ := sS_at (pre := pre) (post := post) (x := x) (y := y)
  obtain ⟨g1, g2⟩ := split_take (pre := pre) (post := post) (x := x) (y := y)
  rw [h1, h2, h3, h4, g1, g2, List.append_assoc]
  rfl
theorem lets_split {pre post : Row} {x y : Int × Int} : letsN (pre ++ x :: y :: post) (pre.length + 1) = decide (y.1 - x.2 > x.1) := by
  unfold letsN
  obtain ⟨h1, h2, h3, h4⟩ := sS_at (pre := pre) (post := post) (x := x) (y := y)
  rw [Nat.add_sub_cancel, h1, h2, h3, decide_eq_true (Nat.succ_pos _), Bool.true_and]
theorem falls_split {pre post : Row} {x y : Int × Int} : fallsN (pre ++ x :: y :: post) pre.length = decide (x.1 > y.1) := by
  unfold fallsN
  obtain ⟨h1, h2, h3, h4⟩ := sS_at (pre := pre) (post := post) (x := x) (y := y)
  rw [h1, h3]
def tsum : Row → Int
  | [] => 0
  | b :: r => b.2 + tsum r
end HH
set_option maxHeartbeats 4000000
namespace HH
abbrev Cow := Nat × (Int × Int)
def Chk (id : Nat) : Int → List Cow → Prop
  | _, [] => True
  | c, y :: r => (y.1 < id → y.2.1 < c) ∧ Chk id (if y.1 < id then c + y.2.2 else c) r
def PInv : List Cow → Prop
  | [] => True
  | x :: r => Chk x.1 (x.2.1 + x.2.2) r ∧ PInv r
def FChk (id : Nat) : Int → List Cow → Prop
  | _, [] => True
  | c, y :: r => (y.1 < id → c < y.2.1) ∧ FChk id (if id < y.1 then c + y.2.2 else c) r
def FInv : List Cow → Prop
  | [] => True
  | x :: r => FChk x.1 x.2.1 r ∧ FInv r
def tag : Nat → Row → List Cow
  | _, [] => []
  | k, b :: r => (k, b) :: tag (k + 1) r
theorem tag_snd : ∀ (k : Nat) (rs : Row), (tag k rs).map (·.2) = rs
  | _, [] => rfl
  | k, b :: r => by
    show b :: (tag (k + 1) r).map (·.2) = b :: r
    rw [tag_snd]
theorem tag_fst : ∀ (k : Nat) (rs : Row), (tag k rs).map (·.1) = (List.range rs.length).map (k + ·)
  | _, [] => rfl
  | k, b :: r => by
    show k :: (tag (k + 1) r).map (·.1) = (List.range (r.length + 1)).map (k + ·)
    rw [tag_fst, List.range_succ_eq_map, List.map_cons, List.map_map]
    have e : (List.range r.length).map (fun x => k + 1 + x) = (List.range r.length).map ((fun x => k + x) ∘ Nat.succ) := List.map_congr_left fun i _ => by
      show k + 1 + i = k + (i + 1)
      omega
    rw [e]
    rfl
theorem tag_len (k : Nat) (rs : Row) : (tag k rs).length = rs.length := by
  have := congrArg List.length (tag_snd k rs)
  rw [List.length_map] at this
  exact this
theorem chk_tag : ∀ (id k : Nat) (c : Int) (rs : Row), id ≤ k → Chk id c (tag k rs)
  | _, _, _, [], _ => True.intro
  | id, k, c, b :: r, h => by
    refine ⟨fun h1 => ?_, ?_⟩
    · have h2 : k < id := h1
      omega
    · rw [if_neg (show ¬ k < id by omega)]
      exact chk_tag id (k + 1) c r (by omega)
theorem fchk_tag : ∀ (id k : Nat) (c : Int) (rs : Row), id ≤ k → FChk id c (tag k rs)
  | _, _, _, [], _ => True.intro
  | id, k, c, b :: r, h => by
    refine ⟨fun h1 => ?_, fchk_tag id (k + 1) _ r (by omega)⟩
    have h2 : k < id := h1
    omega
theorem pinv_tag : ∀ (k : Nat) (rs : Row), PInv (tag k rs)
  | _, [] => True.intro
  | k, b :: r => ⟨chk_tag k (k + 1) _ r (by omega), pinv_tag (k + 1) r⟩
theorem finv_tag : ∀ (k : Nat) (rs : Row), FInv (tag k rs)
  | _, [] => True.intro
  | k, b :: r => ⟨fchk_tag k (k + 1) _ r (by omega), finv_tag (k + 1) r⟩
theorem pinv_tail : ∀ {pre post : List Cow}, PInv (pre ++ post) → PInv post
  | [], _, h => h
  | _ :: pre, _, h => pinv_tail (pre := pre) h.2
theorem finv_tail : ∀ {pre post : List Cow}, FInv (pre ++ post) → FInv post
  | [], _, h => h
  | _ :: pre, _, h => finv_tail (pre := pre) h.2
theorem pinv_lt {pre post : List Cow} {a b : Cow} (h : PInv (pre ++ a :: b :: post)) (hp : b.2.1 - a.2.2 > a.2.1) (hne : a.1 ≠ b.1) : a.1 < b.1 := by
  have h1 := (pinv_tail h).1.1
  rcases Nat.lt_or_ge a.1 b.1 with h2 | h2
  · exact h2
  · have := h1 (by omega)
    omega
theorem finv_lt {pre post : List Cow} {a b : Cow} (h : FInv (pre ++ a :: b :: post)) (hp : a.2.1 > b.2.1) (hne : a.1 ≠ b.1) : a.1 < b.1 := by
  have h1 := (finv_tail h).1.1
  rcases Nat.lt_or_ge a.1 b.1 with h2 | h2
  · exact h2
  · have := h1 (by omega)
    omega
theorem chk_pass {id : Nat} {a b : Cow} {post : List Cow} (hab : a.1 < b.1) (ht : 0 ≤ b.2.2) (hp : b.2.1 - a.2.2 > a.2.1) : ∀ {pre : List Cow} {c : Int}, Chk id c (pre ++ a :: b :: post) → Chk id c (pre ++ (b.1, (b.2.1 - a.2.2, b.2.2)) :: a :: post)
  | [], c, h => by
    obtain ⟨h1, h2, h3⟩ := h
    show (b.1 < id → b.2.1 - a.2.2 < c) ∧ (a.1 < id → a.2.1 < if b.1 < id then c + b.2.2 else c) ∧ Chk id _ post
    by_cases hb : b.1 < id
    · have ha : a.1 < id := by omega
      rw [if_pos ha] at h2 h3
      rw [if_pos hb] at h3 ⊢
      have g1 := h1 ha
      have g2 := h2 hb
      refine ⟨fun _ => by omega, fun _ => by omega, ?_⟩
      rw [if_pos ha]
      have e : c + b.2.2 + a.2.2 = c + a.2.2 + b.2.2 := by omega
      show Chk id (c + b.2.2 + a.2.2) post
      rw [e]
      exact h3
    · rw [if_neg hb] at h3 ⊢
      refine ⟨fun z => absurd z hb, h1, ?_⟩
      exact h3
  | x :: pre, c, h => ⟨h.1, chk_pass hab ht hp (pre := pre) h.2⟩
theorem fchk_fall {id : Nat} {a b : Cow} {post : List Cow} (hab : a.1 < b.1) (ht : 0 ≤ b.2.2) (hp : a.2.1 > b.2.1) : ∀ {pre : List Cow} {c : Int}, FChk id c (pre ++ a :: b :: post) → FChk id c (pre ++ b :: (a.1, (a.2.1 + b.2.2, a.2.2)) :: post)
  | [], c, h => by
    obtain ⟨h1, h2, h3⟩ := h
    show (b.1 < id → c < b.2.1) ∧ (a.1 < id → (if id < b.1 then c + b.2.2 else c) < a.2.1 + b.2.2) ∧ FChk id (if id < a.1 then (if id < b.1 then c + b.2.2 else c) + a.2.2 else (if id < b.1 then c + b.2.2 else c)) post
    by_cases ha : id < a.1
    · have hb : id < b.1 := by omega
      rw [if_pos ha] at h2 h3
      rw [if_pos hb] at h3
      rw [if_pos ha, if_pos hb]
      refine ⟨fun z => by omega, fun z => by omega, ?_⟩
      have e : c + b.2.2 + a.2.2 = c + a.2.2 + b.2.2 := by omega
      rw [e]
      exact h3
    · rw [if_neg ha] at h2 h3
      rw [if_neg ha]
      by_cases hb : id < b.1
      · rw [if_pos hb] at h3
        rw [if_pos hb]
        refine ⟨fun z => by omega, fun z => ?_, h3⟩
        have := h1 z
        omega
      · rw [if_neg hb] at h3
        rw [if_neg hb]
        refine ⟨h2, fun z => ?_, h3⟩
        have := h1 z
        omega
  | x :: pre, c, h => ⟨h.1, fchk_fall hab ht hp (pre := pre) h.2⟩
theorem pinv_pass {a b : Cow} {post : List Cow} (hab : a.1 < b.1) (ht : 0 ≤ b.2.2) (hp : b.2.1 - a.2.2 > a.2.1) : ∀ {pre : List Cow}, PInv (pre ++ a :: b :: post) → PInv (pre ++ (b.1, (b.2.1 - a.2.2, b.2.2)) :: a :: post)
  | [], h => by
    obtain ⟨⟨_, h1⟩, h2, h3⟩ := h
    rw [if_neg (show ¬ b.1 < a.1 by omega)] at h1
    refine ⟨⟨fun _ => ?_, ?_⟩, h1, h3⟩
    · show a.2.1 < b.2.1 - a.2.2 + b.2.2
      omega
    · show Chk b.1 (if a.1 < b.1 then b.2.1 - a.2.2 + b.2.2 + a.2.2 else _) post
      rw [if_pos hab]
      have e : b.2.1 - a.2.2 + b.2.2 + a.2.2 = b.2.1 + b.2.2 := by omega
      rw [e]
      exact h2
  | x :: pre, h => ⟨chk_pass hab ht hp h.1, pinv_pass hab ht hp (pre := pre) h.2⟩
theorem finv_fall {a b : Cow} {post : List Cow} (hab : a.1 < b.1) (ht : 0 ≤ b.2.2) (hp : a.2.1 > b.2.1) : ∀ {pre : List Cow}, FInv (pre ++ a :: b :: post) → FInv (pre ++ b :: (a.1, (a.2.1 + b.2.2, a.2.2)) :: post)
  | [], h => by
    obtain ⟨⟨_, h1⟩, h2, h3⟩ := h
    rw [if_pos hab] at h1
    refine ⟨⟨fun _ => ?_, ?_⟩, h1, h3⟩
    · show b.2.1 < a.2.1 + b.2.2
      omega
    · show FChk b.1 (if b.1 < a.1 then b.2.1 + a.2.2 else b.2.1) post
      rw [if_neg (by omega)]
      exact h2
  | x :: pre, h => ⟨fchk_fall hab ht hp h.1, finv_fall hab ht hp (pre := pre) h.2⟩
def cnt (a : Nat) : List Nat → Nat
  | [] => 0
  | y :: r => (if a < y then 1 else 0) + cnt a r
def asc : List Nat → Nat
  | [] => 0
  | a :: r => cnt a r + asc r
theorem cnt_swap {x a b : Nat} {post : List Nat} : ∀ pre : List Nat, cnt x (pre ++ a :: b :: post) = cnt x (pre ++ b :: a :: post)
  | [] => by
    show (if x < a then 1 else 0) + ((if x < b then 1 else 0) + cnt x post) = (if x < b then 1 else 0) + ((if x < a then 1 else 0) + cnt x post)
    omega
  | y :: pre => by
    show (if x < y then 1 else 0) + cnt x (pre ++ a :: b :: post) = (if x < y then 1 else 0) + cnt x (pre ++ b :: a :: post)
    rw [cnt_swap pre]
theorem asc_swap {a b : Nat} {post : List Nat} (h : a < b) : ∀ pre : List Nat, asc (pre ++ a :: b :: post) = asc (pre ++ b :: a :: post) + 1
  | [] => by
    show ((if a < b then 1 else 0) + cnt a post) + (cnt b post + asc post) = ((if b < a then 1 else 0) + cnt b post) + (cnt a post + asc post) + 1
    rw [if_pos h, if_neg (by omega)]
    omega
  | x :: pre => by
    show cnt x (pre ++ a :: b :: post) + asc (pre ++ a :: b :: post) = cnt x (pre ++ b :: a :: post) + asc (pre ++ b :: a :: post) + 1
    rw [cnt_swap pre, asc_swap h pre]
    omega
theorem cnt_le (a : Nat) : ∀ l : List Nat, cnt a l ≤ l.length
  | [] => Nat.le_refl _
  | y :: r => by
    show (if a < y then 1 else 0) + cnt a r ≤ r.length + 1
    have := cnt_le a r
    split <;> omega
theorem asc_le : ∀ l : List Nat, asc l ≤ l.length * l.length
  | [] => Nat.le_refl _
  | a :: r => by
    show cnt a r + asc r ≤ (r.length + 1) * (r.length + 1)
    have h1 := cnt_le a r
    have h2 := asc_le r
    have e : (r.length + 1) * (r.length + 1) = r.length * r.length + 2 * r.length + 1 := by
      rw [Nat.add_mul, Nat.mul_add]
      omega
    omega
inductive PRun (L0 : List Cow) : List Cow → List (Int × Int) → Prop
  | nil : PRun L0 L0 []
  | step {pre post : List Cow} {a b : Cow} {ps : List (Int × Int)} : PRun L0 (pre ++ a :: b :: post) ps → b.2.1 - a.2.2 > a.2.1 → PRun L0 (pre ++ (b.1, (b.2.1 - a.2.2, b.2.2)) :: a :: post) (ps ++ [((a.1 : Int), (b.1 : Int))])
inductive FRun (L0 : List Cow) : List Cow → List (Int × Int) → Prop
  | nil : FRun L0 L0 []
  | step {pre post : List Cow} {a b : Cow} {ps : List (Int × Int)} : FRun L0 (pre ++ a :: b :: post) ps → a.2.1 > b.2.1 → FRun L0 (pre ++ b :: (a.1, (a.2.1 + b.2.2, a.2.2)) :: post) (ps ++ [((a.1 : Int), (b.1 : Int))])
structure Facts (n : Nat) (L : List Cow) (ps : List (Int × Int)) : Prop where
  len : L.length = n
  tl : ∀ x ∈ L, 0 ≤ x.2.2
  nd : (L.map (·.1)).Nodup
  few : ps.length + asc (L.map (·.1)) ≤ n * n
theorem nd_ne {pre post : List Cow} {a b : Cow} (h : ((pre ++ a :: b :: post).map (·.1)).Nodup) : a.1 ≠ b.1 := by
  rw [List.map_append] at h
  have h1 := (List.nodup_append.mp h).2.1
  intro e
  have h2 := (List.nodup_cons.mp h1).1
  apply h2
  show a.1 ∈ b.1 :: post.map (·.1)
  rw [e]
  exact List.mem_cons_self ..
theorem nd_swap {pre post : List Cow} {a b : Cow} {u v : Int × Int} (h : ((pre ++ a :: b :: post).map (·.1)).Nodup) : ((pre ++ (b.1, u) :: (a.1, v) :: post).map (·.1)).Nodup := by
  rw [List.map_append] at h ⊢
  refine (List.Perm.nodup_iff ?_).mp h
  exact List.Perm.append_left _ (List.Perm.swap ..)
theorem asc_step {pre post : List Cow} {a b : Cow} {u v : Int × Int} (h : a.1 < b.1) : asc ((pre ++ a :: b :: post).map (·.1)) = asc ((pre ++ (b.1, u) :: (a.1, v) :: post).map (·.1)) + 1 := by
  rw [List.map_append, List.map_append]
  exact asc_swap h (pre.map (·.1))
theorem facts_tag {rs : Row} (h : ∀ b ∈ rs, 0 ≤ b.2) : Facts rs.length (tag 0 rs) [] := by
  refine ⟨tag_len 0 rs, fun x hx => ?_, ?_, ?_⟩
  · apply h
    rw [← tag_snd 0 rs]
    exact List.mem_map_of_mem (f := (·.2)) hx
  · rw [tag_fst]
    have e : (fun x => 0 + x) = (id : Nat → Nat) := by
      funext x
      exact Nat.zero_add x
    rw [e, List.map_id]
    exact List.nodup_range
  · have := asc_le ((tag 0 rs).map (·.1))
    rw [List.length_map, tag_len] at this
    show 0 + asc _ ≤ _
    omega
theorem facts_pass {n : Nat} {pre post : List Cow} {a b : Cow} {ps : List (Int × Int)} {q : Int × Int} (f : Facts n (pre ++ a :: b :: post) ps) (i : PInv (pre ++ a :: b :: post)) (hp : b.2.1 - a.2.2 > a.2.1) :
    Facts n (pre ++ (b.1, (b.2.1 - a.2.2, b.2.2)) :: a :: post) (ps ++ [q]) ∧ PInv (pre ++ (b.1, (b.2.1 - a.2.2, b.2.2)) :: a :: post) ∧ asc ((pre ++ (b.1, (b.2.1 - a.2.2, b.2.2)) :: a :: post).map (·.1)) < asc ((pre ++ a :: b :: post).map (·.1)) := by
  have hab := pinv_lt i hp (nd_ne f.nd)
  have hs := asc_step (pre := pre) (post := post) (a := a) (b := b) (u := (b.2.1 - a.2.2, b.2.2)) (v := a.2) hab
  have hb := f.tl b (by simp)
  have ha := f.tl a (by simp)
  refine ⟨⟨?_, fun x hx => ?_, nd_swap (v := a.2) f.nd, ?_⟩, pinv_pass hab hb hp i, ?_⟩
  · rw [← f.len, List.length_append, List.length_append]
    rfl
  · rcases List.mem_append.mp hx with h | h
    · exact f.tl x (List.mem_append_left _ h)
    · rcases List.mem_cons.mp h with rfl | h
      · exact hb
      · rcases List.mem_cons.mp h with rfl | h
        · exact ha
        · exact f.tl x (by simp [h])
  · have := f.few
    rw [List.length_append]
    show ps.length + 1 + asc ((pre ++ (b.1, (b.2.1 - a.2.2, b.2.2)) :: (a.1, a.2) :: post).map (·.1)) ≤ n * n
    omega
  · show asc ((pre ++ (b.1, (b.2.1 - a.2.2, b.2.2)) :: (a.1, a.2) :: post).map (·.1)) < _
    omega
theorem facts_fall {n : Nat} {pre post : List Cow} {a b : Cow} {ps : List (Int × Int)} {q : Int × Int} (f : Facts n (pre ++ a :: b :: post) ps) (i : FInv (pre ++ a :: b :: post)) (hp : a.2.1 > b.2.1) :
    Facts n (pre ++ b :: (a.1, (a.2.1 + b.2.2, a.2.2)) :: post) (ps ++ [q]) ∧ FInv (pre ++ b :: (a.1, (a.2.1 + b.2.2, a.2.2)) :: post) ∧ asc ((pre ++ b :: (a.1, (a.2.1 + b.2.2, a.2.2)) :: post).map (·.1)) < asc ((pre ++ a :: b :: post).map (·.1)) := by
  have hab := finv_lt i hp (nd_ne f.nd)
  have hs := asc_step (pre := pre) (post := post) (a := a) (b := b) (u := b.2) (v := (a.2.1 + b.2.2, a.2.2)) hab
  have hb := f.tl b (by simp)
  have ha := f.tl a (by simp)
  refine ⟨⟨?_, fun x hx => ?_, nd_swap (u := b.2) f.nd, ?_⟩, finv_fall hab hb hp i, ?_⟩
  · rw [← f.len, List.length_append, List.length_append]
    rfl
  · rcases List.mem_append.mp hx with h | h
    · exact f.tl x (List.mem_append_left _ h)
    · rcases List.mem_cons.mp h with rfl | h
      · exact hb
      · rcases List.mem_cons.mp h with rfl | h
        · exact ha
        · exact f.tl x (by simp [h])
  · have := f.few
    rw [List.length_append]
    show ps.length + 1 + asc ((pre ++ (b.1, b.2) :: (a.1, (a.2.1 + b.2.2, a.2.2)) :: post).map (·.1)) ≤ n * n
    omega
  · show asc ((pre ++ (b.1, b.2) :: (a.1, (a.2.1 + b.2.2, a.2.2)) :: post).map (·.1)) < _
    omega
end HH
set_option maxHeartbeats 4000000
namespace HH
open PySem PySem.Spec PyProof.Rows L2 Evl RZ
def rowsOf (L : List Cow) : HH.Row := L.map (·.2)
def ordL (L : List Cow) : List V := L.map fun x => V.int (x.1 : Int)
theorem RowAt.exL {K : PySem.W.Frag} {H H' : Hp} {v : V} {rs : HH.Row} {q : Addr} {ys : List V} (h : RowAt K H v rs) (e : ExB q H H') (hy : H q = some (.lst ys)) : RowAt K H' v rs := by
  obtain ⟨a, vs, h1, h2, h3⟩ := h
  exact ⟨a, vs, h1, e.t hy h2, h3.exB e hy⟩
theorem cow_len (L : List Cow) : (rowsOf L).length = L.length := List.length_map ..
theorem rows_mid (pre post : List Cow) (x y : Cow) : rowsOf (pre ++ x :: y :: post) = rowsOf pre ++ x.2 :: y.2 :: rowsOf post := by
  unfold rowsOf
  rw [List.map_append, List.map_cons, List.map_cons]
section
variable {K : PySem.W.Frag} {σ : L2.St} {H H' : Hp} {te to ta tc : TE} {D : Ends} {tz : TS}
end
structure EndAt (K : PySem.W.Frag) (H H' : Hp) (p : Addr) (q : Addr) (v' : V) (ot lp : Addr) (pvs : List V) (L : List Cow) (ps : List (Int × Int)) (n : Nat) : Prop where
  ex : ExB p H H'
  bx : Bx H' p (n + 1000)
  q : H' q = some (.tup [v', .ref ot, .ref lp])
  row : RowAt K H' v' (rowsOf L)
  ord : H' ot = some (.tup (ordL L))
  lst : H' lp = some (.lst pvs)
  prs : Beasts K H' pvs ps
end HH
set_option maxHeartbeats 4000000
namespace HH
open PySem PySem.Spec PyProof.Rows L2 Evl RZ
inductive All2 {α : Type} (R : V → α → Prop) : List V → List α → Prop
  | nil : All2 R [] []
  | cons {v : V} {x : α} {vs : List V} {xs : List α} : R v x → All2 R vs xs → All2 R (v :: vs) (x :: xs)
theorem All2.mono {α : Type} {R S : V → α → Prop} (h : ∀ v x, R v x → S v x) : ∀ {vs : List V} {xs : List α}, All2 R vs xs → All2 S vs xs
  | _, _, .nil => .nil
  | _, _, .cons a b => .cons (h _ _ a) (All2.mono h b)
theorem All2.app {α : Type} {R : V → α → Prop} : ∀ {vs : List V} {xs : List α} {us : List V} {ys : List α}, All2 R vs xs → All2 R us ys → All2 R (vs ++ us) (xs ++ ys)
  | _, _, _, _, .nil, h => h
  | _, _, _, _, .cons a b, h => .cons a (All2.app b h)
theorem All2.len {α : Type} {R : V → α → Prop} : ∀ {vs : List V} {xs : List α}, All2 R vs xs → vs.length = xs.length
  | _, _, .nil => rfl
  | _, _, .cons a b => by rw [List.length_cons, List.length_cons, All2.len b]
theorem All2.get {α : Type} {R : V → α → Prop} : ∀ {vs : List V} {xs : List α} {i : Nat} {v : V}, All2 R vs xs → vs[i]? = some v → ∃ x, xs[i]? = some x ∧ R v x
  | _, _, _, _, .nil, h => by simp at h
  | _, _, 0, _, .cons a b, h => by
    cases h
    exact ⟨_, rfl, a⟩
  | _, _, i + 1, _, .cons a b, h => All2.get (i := i) b h
abbrev Deed := Bool × Nat
def wordOf (b : Bool) : Str := if b then "pass" else "fall"
def DeedAt (K : PySem.W.Frag) (H : Hp) (v : V) (d : Deed) : Prop := ∃ p, v = .ref p ∧ SqT K H p [.str (wordOf d.1), .int (d.2 : Int)]
theorem deeds_ex {K : PySem.W.Frag} {H H' : Hp} {vs : List V} {ds : List Deed} (e : Ex H H') (h : All2 (DeedAt K H) vs ds) : All2 (DeedAt K H') vs ds := h.mono fun v d g => by
  obtain ⟨p, h1, h2⟩ := g
  exact ⟨p, h1, ex_t e h2⟩
theorem deeds_exB {K : PySem.W.Frag} {H H' : Hp} {vs : List V} {ds : List Deed} {q : Addr} {ys : List V} (e : ExB q H H') (hq : H q = some (.lst ys)) (h : All2 (DeedAt K H) vs ds) : All2 (DeedAt K H') vs ds := h.mono fun v d g => by
  obtain ⟨p, h1, h2⟩ := g
  exact ⟨p, h1, e.t hq h2⟩
def deedD (d : Deed) : PyData := .tuple [.str (wordOf d.1), .int (d.2 : Int)]
theorem deeds_dp {K : PySem.W.Frag} {H : Hp} : ∀ {vs : List V} {ds : List Deed}, All2 (DeedAt K H) vs ds → DpAll K H vs (ds.map deedD)
  | _, _, .nil => .nil
  | _, _, .cons a b => by
    obtain ⟨p, rfl, h2⟩ := a
    exact .cons (.tup h2 (.cons (.str _) (.cons (.int _) .nil))) (deeds_dp b)
section
variable {K : PySem.W.Frag} {σ : L2.St} {H H' : Hp} {t : TT}
end
inductive MRun (L0 : List Cow) : List Cow → List Deed → Prop
  | nil : MRun L0 L0 []
  | pass {pre post : List Cow} {a b : Cow} {ds : List Deed} : MRun L0 (pre ++ a :: b :: post) ds → b.2.1 - a.2.2 > a.2.1 → MRun L0 (pre ++ (b.1, (b.2.1 - a.2.2, b.2.2)) :: a :: post) (ds ++ [(true, pre.length + 1)])
  | fall {pre post : List Cow} {a b : Cow} {ds : List Deed} : MRun L0 (pre ++ a :: b :: post) ds → a.2.1 > b.2.1 → MRun L0 (pre ++ b :: (a.1, (a.2.1 + b.2.2, a.2.2)) :: post) (ds ++ [(false, pre.length)])
structure WanAt (K : PySem.W.Frag) (H H' : Hp) (p : Addr) (q : Addr) (v' : V) (ot lp : Addr) (us : List V) (L : List Cow) (ds : List Deed) (n m : Nat) : Prop where
  ex : ExB p H H'
  bx : Bx H' p (n + m)
  q : H' q = some (.tup [v', .ref ot, .ref lp])
  row : RowAt K H' v' (rowsOf L)
  ord : H' ot = some (.tup (ordL L))
  lst : H' lp = some (.lst us)
  prs : All2 (DeedAt K H') us ds
end HH
set_option maxHeartbeats 4000000
namespace HH
open PySem PySem.Spec PyProof.Rows L2 Evl RZ TL
section
variable {X : Cx}
theorem call_divmodW : CallR X (.builtin "divmod") (fun xs H Q => ∃ i j, xs = [.int i, .int j] ∧ CDivW i j ∧ ∀ p, H p = none → Q (.ref p) (upd H p (.tup [.int (i / j), .int (i % j)]))) := by
  intro pins s σ H xs us Q I r h
  obtain ⟨i, j, rfl, ⟨h1, h2⟩, q⟩ := h
  obtain ⟨u, w', rfl, ⟨t, rfl⟩, ⟨t', rfl⟩⟩ := vals2 r
  refine divmod_int (by omega) ?_ (.inl (PyProof.noPylong_of_log2 h2))
  rw [Int.fdiv_eq_ediv_of_nonneg i (by omega), Int.fmod_eq_emod_of_nonneg i (by omega)]
  have hn : H s.heap.objs.size = none := I.hok.fresh (Nat.le_refl _)
  refine ⟨.ref s.heap.objs.size, _, ?_, rfl, q _ hn⟩
  refine I.laid (fun b o e => Heap.get?_push_of_some _ e) (Nat.le_refl _) ⟨by simp only [List.length_cons, List.length_nil]; rw [sizeLine_eq]; decide, [.int (i / j) s.toks, .int (i % j) (s.toks + 1)], .cons ⟨_, rfl⟩ (.cons ⟨_, rfl⟩ .nil), ?_⟩
  exact ⟨_, Heap.get?_push_size s.heap rfl, rfl, 0, rfl⟩
def repS (z : Str) (n : Int) : Str := ⟨(List.replicate n.toNat z.cps).foldl (· ++ ·) #[]⟩
def rRepS : R2 := fun x y H Q => ∃ z n, x = .str z ∧ y = .int n ∧ 2 ≤ n ∧ n ≤ 1000 ∧ 1 ≤ z.length ∧ z.length ≤ 1000 ∧ Q (.str (repS z n)) H
theorem op_repS : OpR X (binaryOp .Mult) rRepS := by
  intro pins s σ H x y v u Q I rx ry h
  obtain ⟨z, n, rfl, rfl, n0, n1, z0, z1, q⟩ := h
  obtain ⟨t, rfl⟩ := rx
  obtain ⟨t', rfl⟩ := ry
  have hl : z.length * n.toNat ≤ 1000 * 1000 := Nat.mul_le_mul z1 (by omega)
  refine P.mul_str ?_ (fun _ _ => ?_) (fun _ _ => ?_) ?_
  · rw [decide_eq_false (by omega), decide_eq_false (by omega)]; rfl
  · have h2 : (1000 : Int) ≤ (2 ^ 63 - 1) / n := (Int.le_ediv_iff_mul_le (by omega)).mpr (by omega)
    omega
  · unfold Builtin.Str.tooLong
    rw [decide_eq_false]
    show ¬ (z.length * n.toNat > sizeLine)
    rw [sizeLine_eq]
    omega
  · rw [if_neg (by omega), if_neg (by rw [Bool.or_eq_true, beq_iff_eq, beq_iff_eq]; omega)]
    refine ⟨?_, .str (repS z n), H, I.tok _, ⟨_, rfl⟩, q⟩
    have e : ∀ (m : Nat) (a : Array Nat), ((List.replicate m z.cps).foldl (· ++ ·) a).size = a.size + z.cps.size * m := fun m => by
      induction m with
      | zero => intro a; rfl
      | succ m ih => intro a; rw [List.replicate_succ, List.foldl_cons, ih, Array.size_append, Nat.mul_succ]; omega
    show ((List.replicate n.toNat z.cps).foldl (· ++ ·) #[]).size ≤ sizeLine
    rw [e, sizeLine_eq]
    have : z.cps.size * n.toNat ≤ 1000 * 1000 := hl
    show 0 + z.cps.size * n.toNat ≤ _
    omega
theorem pe_gnum {x : Str} {i : Int} {p : Pos} (hg : Gl X x) (h : ∃ t, X.mg x = some (.int i t)) (hdb : (x == ("__debug__" : Str)) = false := by decide) : PE X (.Name x p) (tC (.int i)) := by
  obtain ⟨t, h⟩ := h
  exact pe_glob (v := .int i) hg h ⟨t, rfl⟩ hdb
theorem pe_gstr {x : Str} {z : Str} {p : Pos} (hg : Gl X x) (h : ∃ t, X.mg x = some (.str z t)) (hdb : (x == ("__debug__" : Str)) = false := by decide) : PE X (.Name x p) (tC (.str z)) := by
  obtain ⟨t, h⟩ := h
  exact pe_glob (v := .str z) hg h ⟨t, rfl⟩ hdb
end
end HH
set_option maxHeartbeats 4000000
namespace HH
open PySem PySem.Spec PyProof.Rows L2 Evl RZ TL NumText
def mkS (l : List Nat) : Str := ⟨l.toArray⟩
theorem tl_mkS (l : List Nat) : tl (mkS l) = l := rfl
theorem cps_mkS (l : List Nat) : (mkS l).cps.toList = l := rfl
theorem len_mkS (l : List Nat) : (mkS l).length = l.length := by rw [len_tl] <;> rfl
theorem mkS_tl (x : Str) : mkS (tl x) = x := mk_tl x
theorem mkS_inj {a b : List Nat} (h : mkS a = mkS b) : a = b := by
  have := congrArg tl h
  exact this
theorem mkS_app (a b : List Nat) : mkS a ++ mkS b = mkS (a ++ b) := ext_tl (by rw [tl_append] <;> rfl)
theorem mkS_dec (a b : List Nat) : decide (V.str (mkS a) = V.str (mkS b)) = decide (a = b) := decide_eq_decide.mpr ⟨fun h => by injection h with h; exact mkS_inj h, fun h => by rw [h]⟩
def digK : Nat → Nat → List Nat
  | 0, _ => []
  | k + 1, n => digK k (n / 10) ++ [48 + n % 10]
theorem digK_len : ∀ (k n : Nat), (digK k n).length = k
  | 0, _ => rfl
  | k + 1, n => by
    show (digK k (n / 10) ++ [48 + n % 10]).length = k + 1
    rw [List.length_append, digK_len k]
    rfl
theorem numL_cat : ∀ (k : Nat) {q r : Nat}, 0 < q → r < 10 ^ k → numL (q * 10 ^ k + r) = numL q ++ digK k r
  | 0, q, r, _, hr => by
    have : r = 0 := by rw [Nat.pow_zero] at hr; omega
    subst this
    rw [Nat.pow_zero, Nat.mul_one, Nat.add_zero]
    show _ = numL q ++ []
    rw [List.append_nil]
  | k + 1, q, r, hq, hr => by
    have hp : 10 ^ (k + 1) = 10 ^ k * 10 := Nat.pow_succ ..
    have h0 : 0 < 10 ^ k := Nat.pow_pos (by decide)
    rw [hp] at hr ⊢
    have hqk : 10 ^ k ≤ q * 10 ^ k := Nat.le_mul_of_pos_left _ hq
    have e0 : q * (10 ^ k * 10) = (q * 10 ^ k) * 10 := by rw [Nat.mul_assoc]
    rw [e0]
    generalize ek : q * 10 ^ k = m at hqk
    rw [numL_step (by omega)]
    have e1 : (m * 10 + r) / 10 = m + r / 10 := by omega
    have e2 : (m * 10 + r) % 10 = r % 10 := by omega
    rw [e1, e2, ← ek, numL_cat k hq (by omega), List.append_assoc]
    rfl
theorem digK_zero : ∀ k, digK k 0 = List.replicate k 48
  | 0 => rfl
  | k + 1 => by
    show digK k (0 / 10) ++ [48 + 0 % 10] = _
    rw [show 0 / 10 = 0 from rfl, digK_zero k, List.replicate_succ']
theorem dig_pad : ∀ (k : Nat) {r : Nat}, 0 < k → r < 10 ^ k → List.replicate (k - (numL r).length) 48 ++ numL r = digK k r
  | 0, _, h, _ => absurd h (by omega)
  | k + 1, r, _, hr => by
    by_cases h : r < 10
    · rw [numL_lt h]
      show List.replicate (k + 1 - 1) 48 ++ [48 + r] = digK k (r / 10) ++ [48 + r % 10]
      rw [show r / 10 = 0 by omega, show r % 10 = r by omega, digK_zero]
      rfl
    · have hp : 10 ^ (k + 1) = 10 ^ k * 10 := Nat.pow_succ ..
      rw [hp] at hr
      have k0 : 0 < k := by
        rcases Nat.eq_zero_or_pos k with z | z
        · subst z; rw [Nat.pow_zero] at hr; omega
        · exact z
      rw [numL_step (by omega), ← List.append_assoc, List.length_append]
      show List.replicate (k + 1 - ((numL (r / 10)).length + 1)) 48 ++ numL (r / 10) ++ [48 + r % 10] = digK k (r / 10) ++ [48 + r % 10]
      rw [show k + 1 - ((numL (r / 10)).length + 1) = k - (numL (r / 10)).length by omega, dig_pad k k0 (by omega)]
theorem zfill_num {k r : Nat} (hk : 0 < k) (hr : r < 10 ^ k) : Txt.zfill (mkS (numL r)) (k : Int) = mkS (digK k r) := by
  refine ext_tl ?_
  rw [tl_mkS, ← dig_pad k hk hr]
  have hl : (numL r).length ≤ k := numL_len hk hr
  unfold Txt.zfill
  rw [len_mkS]
  by_cases h : (k : Int) ≤ ((numL r).length : Nat)
  · rw [if_pos h, show k - (numL r).length = 0 by omega]
    rfl
  · rw [if_neg h]
    have hh : ∀ c, (mkS (numL r)).cps[0]? = some c → 48 ≤ c ∧ c ≤ 57 := fun c hc => by
      have : c ∈ numL r := by
        have h2 : (numL r)[0]? = some c := by
          have : (mkS (numL r)).cps[0]? = (numL r)[0]? := by simp [mkS]
          rw [← this]; exact hc
        exact List.mem_of_getElem? h2
      exact numL_digits r c this
    have ep : tl (Builtin.Str.padded (mkS (numL r)) (((k : Int).toNat) - (numL r).length) 0 48) = List.replicate (k - (numL r).length) 48 ++ numL r := by
      show (Builtin.Str.padded (mkS (numL r)) (((k : Int).toNat) - (numL r).length) 0 48).cps.toList = _
      rw [padded_list]
      show List.replicate ((k : Int).toNat - (numL r).length) 48 ++ numL r ++ [] = _
      rw [List.append_nil, Int.toNat_natCast]
    unfold zfilled
    split
    · rename_i h0
      have := hh _ h0
      omega
    · rename_i h0
      have := hh _ h0
      omega
    · exact ep
def numT (n : Int) : List Nat := (if n < 0 then [45] else []) ++ numL n.natAbs
def beastT (b : Int × Int) : List Nat := numT b.1 ++ ([58] ++ numT b.2)
def rowT (rs : List (Int × Int)) : List Nat := joinL [32] (rs.map beastT)
theorem digits_run : ∀ (b : List Nat) (a : Nat), b.foldl (fun acc c => acc * 10 + (c - 48)) a = a * 10 ^ b.length + b.foldl (fun acc c => acc * 10 + (c - 48)) 0
  | [], a => by show a = a * 10 ^ 0 + 0; rw [Nat.pow_zero]; omega
  | c :: r, a => by
    rw [List.foldl_cons, List.foldl_cons, digits_run r (a * 10 + (c - 48)), digits_run r (0 * 10 + (c - 48)), List.length_cons, Nat.pow_succ, Nat.zero_mul, Nat.zero_add, Nat.add_mul, Nat.mul_assoc, Nat.mul_comm 10]
    omega
theorem digitsVal_app (a b : List Nat) : digitsVal (a ++ b) = digitsVal a * 10 ^ b.length + digitsVal b := by
  unfold digitsVal
  rw [List.foldl_append, digits_run]
theorem digits_lt : ∀ {l : List Nat}, AllDigits l → ∀ a, l.foldl (fun acc c => acc * 10 + (c - 48)) a < (a + 1) * 10 ^ l.length
  | [], _, a => by show a < (a + 1) * 10 ^ 0; rw [Nat.pow_zero]; omega
  | c :: r, h, a => by
    have hc := h.head
    have i := digits_lt h.tail (a * 10 + (c - 48))
    rw [List.foldl_cons, List.length_cons, Nat.pow_succ]
    refine Nat.lt_of_lt_of_le i ?_
    rw [Nat.mul_comm (10 ^ r.length) 10, ← Nat.mul_assoc]
    exact Nat.mul_le_mul_right _ (by omega)
theorem digitsVal_lt {l : List Nat} (h : AllDigits l) : digitsVal l < 10 ^ l.length := by
  have := digits_lt h 0
  rw [Nat.zero_add, Nat.one_mul] at this
  exact this
theorem digitsVal_zero (l : List Nat) : digitsVal (48 :: l) = digitsVal l := by
  have := digitsVal_app [48] l
  rw [show digitsVal [48] = 0 from rfl, Nat.zero_mul, Nat.zero_add] at this
  exact this
def unS (l : List Nat) : List Nat := match l with
  | 45 :: r => r
  | _ => l
def negS (l : List Nat) : Bool := match l with
  | 45 :: _ => true
  | _ => false
def numV (l : List Nat) : Int := if negS l then -(digitsVal (unS l) : Int) else (digitsVal (unS l) : Int)
theorem numL_head {n : Nat} : ∀ {c r}, numL n = c :: r → c ≠ 45 := fun {c r} h e => by
  have := numL_digits n c (by rw [h]; exact List.mem_cons_self ..)
  omega
theorem unS_num (n : Nat) : unS (numL n) = numL n := by
  cases h : numL n with
  | nil => rfl
  | cons c r =>
    have := numL_head h
    unfold unS
    split
    · rename_i r' e
      injection e with e1 e2
      exact absurd e1 this
    · rfl
theorem negS_num (n : Nat) : negS (numL n) = false := by
  cases h : numL n with
  | nil => rfl
  | cons c r =>
    have := numL_head h
    unfold negS
    split
    · rename_i r' e
      injection e with e1 e2
      exact absurd e1 this
    · rfl
theorem unS_numT (n : Int) : unS (numT n) = numL n.natAbs := by
  unfold numT
  by_cases h : n < 0
  · rw [if_pos h]; rfl
  · rw [if_neg h]
    exact unS_num _
theorem negS_numT (n : Int) : negS (numT n) = decide (n < 0) := by
  unfold numT
  by_cases h : n < 0
  · rw [if_pos h, decide_eq_true h]; rfl
  · rw [if_neg h, decide_eq_false h]
    exact negS_num _
theorem numT_pos {n : Int} (h : 0 ≤ n) : numT n = numL n.natAbs := by
  unfold numT
  rw [if_neg (by omega)]
  rfl
def isFig (l : List Nat) : Bool := !decide (l = []) && l.all (fun c => decide (48 ≤ c ∧ c ≤ 57)) && (decide (l = [48]) || !decide (l.head? = some 48))
def isNumT (l : List Nat) : Bool := isFig (unS l) && !decide (l = [45, 48])
theorem numL_first : ∀ (n : Nat), 0 < n → (numL n).head? ≠ some 48 := fun n => by
  induction n using Nat.strongRecOn with
  | _ n ih =>
    intro h0
    by_cases h : n < 10
    · rw [numL_lt h]
      intro e
      injection e with e
      omega
    · rw [numL_step (by omega)]
      have := ih (n / 10) (by omega) (by omega)
      cases h2 : numL (n / 10) with
      | nil => exact absurd h2 (numL_ne _)
      | cons c r =>
        rw [h2] at this
        exact this
theorem isFig_num (n : Nat) : isFig (numL n) = true := by
  unfold isFig
  rw [Bool.and_eq_true, Bool.and_eq_true]
  refine ⟨⟨by rw [decide_eq_false (numL_ne n)]; rfl, List.all_eq_true.mpr fun c hc => decide_eq_true (numL_digits n c hc)⟩, ?_⟩
  rcases Nat.eq_zero_or_pos n with z | z
  · subst z; rfl
  · rw [decide_eq_false (numL_first n z)]
    cases decide (numL n = [48]) <;> rfl
theorem isFig_digits {l : List Nat} (h : isFig l = true) : AllDigits l ∧ l ≠ [] := by
  unfold isFig at h
  rw [Bool.and_eq_true, Bool.and_eq_true] at h
  refine ⟨fun c hc => of_decide_eq_true (List.all_eq_true.mp h.1.2 c hc), fun e => ?_⟩
  rw [e] at h
  exact absurd h.1.1 (by decide)
theorem isNumT_num (n : Int) : isNumT (numT n) = true := by
  unfold isNumT
  rw [unS_numT, isFig_num, decide_eq_false]
  · rfl
  · intro e
    have h := congrArg unS e
    rw [unS_numT] at h
    have h3 := congrArg negS e
    rw [negS_numT] at h3
    have : n < 0 := of_decide_eq_true h3
    have h4 : numL n.natAbs = numL 0 := by rw [h]; rfl
    have := numL_inj h4
    omega
end HH
set_option maxHeartbeats 4000000
namespace HH
open PySem PySem.Spec PyProof.Rows L2 Evl RZ
section
variable {X : Cx}
end
section
variable {K : PySem.W.Frag} {σ : L2.St} {H H' : Hp} {te : TE} {D : Ends} {tz tu : TS} {g : TG}
theorem et_yes : EvT tYes σ H true := fun H1 _ _ q => q H1 (Ex.refl H1)
theorem given_all (n : Nat) (f : Nat → Bool) : given n (fun _ => true) (fun i => V.bl (f i)) = ((List.range n).map f).map V.bl := by
  unfold given
  rw [List.filter_eq_self.mpr (fun _ _ => rfl), List.map_map]
  rfl
end
def spRight : Sp := fun vs H Q _ => ∃ (p : Addr), vs = [.ref p] ∧ Bx H p 0 ∧ ∀ H', ExB p H H' → Q (.bl true) H'
def spLaw (K : PySem.W.Frag) : Sp := fun vs H Q _ => ∃ (a : Addr) (ns : List Int), vs = [.ref a] ∧ SqL K H a (ns.map V.int) ∧ ns.length ≤ 63 ∧ ∀ H', Q (.bl true) H'
theorem lim_ok {n : Nat} (h : n ≤ 100000000) : n < Lim := by
  have h1 : (2 : Nat) ^ 100 ≤ 2 ^ 4000 := Nat.pow_le_pow_right (by decide) (by decide)
  have h2 : (2 : Nat) ^ 100 = 1267650600228229401496703205376 := by decide
  have h3 : Lim = 2 ^ 4000 := rfl
  rw [h3]
  generalize (2 : Nat) ^ 4000 = L at *
  rw [h2] at h1
  omega
section
variable {K : PySem.W.Frag} {σ : L2.St} {H H' : Hp} {te t1 t2 : TE}
end
theorem q_call {sp : Sp} {dvs : List V} {E : XK} {ta : TA} {i : Nat} {D : Ends} {tz : TS} {σ : L2.St} {H : Hp} (h : ta σ H fun vs H1 => sp (vs ++ dvs) H1 (fun x H2 => tz D (σ.set i (some x)) H2) E) : tSeq (tAsg (tCall sp dvs E ta) (gName i)) tz D σ H := h
end HH
set_option maxHeartbeats 4000000
namespace HH
open PySem PySem.Spec PyProof.Rows L2 Evl RZ
structure FnG (P : Program) (w : World) (K : PySem.W.Frag) (mg : Str → Option Value) (base : Heap) (k : Nat) (f : Addr) (fd : FuncData) (ps : List Str) (sp : Sp) : Prop where
  len : ∀ vs H Q E, sp vs H Q E → vs.length = ps.length
  run : ∀ (A : Around) (outer : List Env) (s : Shared) (H : Hp) (args : Args) (us : List Value) (vs : List V) (Q : VK) (E : XK), A.guards = some [] → Room k A → Env0 P w K mg base A outer s H → BindsTo s fd args (ps.zip us) → Vals vs us → sp vs H Q E →
    codeAny (model P w) A (.call (.ref f) args) (CR CX0 outer P w H s Q E) s
theorem FnG.of {P : Program} {w : World} {K : PySem.W.Frag} {mg : Str → Option Value} {base : Heap} {k : Nat} {f : Addr} {x qual : Str} {params : Arguments} {body : List Stmt} {scope : Scope} {kws : List (Str × V)} {fd : FuncData} {N ps : List Str} {sp : Sp}
    (F : FunD K x qual params body scope [] kws f fd) (S : FnScope N ps scope) (len : ∀ vs H Q E, sp vs H Q E → vs.length = ps.length)
    (hbody : ∀ (cdv : Value) (A : Around) (outer : List Env) (s : Shared) (H : Hp) (vs : List V) (Q : VK) (E : XK), (A.deeper (envOfC qual scope s.heap.objs.size f cdv)).guards = some [] → Room k (A.deeper (envOfC qual scope s.heap.objs.size f cdv)) → sp vs H Q E →
      ∃ t, PSs (cxOf CX0 P w K mg base N qual scope f cdv A outer s H E) body t ∧ t { nx := fun _ H' => Q .non H', rt := Q } (start N vs) H) : FnG P w K mg base (k + 1) f fd ps sp := by
  obtain ⟨oc, od, dV, kV, doc, pm, an, cdv, ct, osl, rfl, lk, hcd, _, _⟩ := F.ex
  refine ⟨len, fun A outer s H args us vs Q E hg hr e0 hb r hsp => ?_⟩
  have inK : K.In s.heap := e0.mod.kin.keeps fun c o z => (e0.bs c o z).1
  have noL : s.heap.NoLimit := e0.mod.nolimit.keeps fun c o z => (e0.bs c o z).1
  have kinds : ∀ y ∈ ps.zip us, scope.names.lookup y.1 = some .local ∨ (scope.names.lookup y.1 = some .cell ∧ ((cellsFrom (s.heap.objs.size + 1) scope.names []).lookup y.1).isSome = true) := fun ⟨nm, v⟩ hy =>
    (S.par nm (List.of_mem_zip hy).1).elim .inl fun z => .inr ⟨z, PySem.W.cellsFrom_some _ _ _ (.inl z)⟩
  refine codeAny_call_function hr.depth (inK _ _ lk) rfl S.co S.gen rfl (PySem.W.codeRec_of inK hcd) (hb _ _ _ _ (wpAny_newFunctionEnv_cells S.kind kinds fun env he s1 x => ?_))
  subst he
  refine ⟨noL.keeps x.toInCall.keep, codeAny_func ?_⟩
  obtain ⟨t, ht, hq⟩ := hbody cdv A outer s H vs Q E hg (hr.deeper _) hsp
  have I0 := inv_start (CX := CX0) (E := E) S hr.hd e0 (len _ _ _ _ hsp) r x
  refine wpAny_mono (ht.run [] s1 (start N vs) H _ I0 hq) (fun fl s' hs => ?_) fun e s' hs => hs
  cases fl with
  | ret u =>
    obtain ⟨v, σ', H', J, rv, q⟩ := hs
    exact ⟨v, H', J.os, J.bare, J.base, J.hok, rv, q⟩
  | next =>
    obtain ⟨σ', H', J, q⟩ := hs
    exact ⟨.non, H', J.os, J.bare, J.base, J.hok, rfl, q⟩
  | brk => exact hs.elim fun _ z => z.elim fun _ z => z.2.elim
  | cont => exact hs.elim fun _ z => z.elim fun _ z => z.2.elim
structure HasG (P : Program) (w : World) (K : PySem.W.Frag) (mg : Str → Option Value) (base : Heap) (k : Nat) (x : Str) (ps : List Str) (sp : Sp) (f : Addr) (fd : FuncData) : Prop where
  G : FnG P w K mg base k f fd ps sp
  g : mg x = some (.ref f)
  kp : PySem.W.keepIn K (.ref f) = true
  b : Binds K fd ps []
section
variable {X : Cx}
end
end HH
set_option maxHeartbeats 4000000
namespace HH
open PySem PySem.Spec PyProof.Rows L2 Evl RZ
end HH
set_option maxHeartbeats 4000000
namespace HH
open PySem PySem.Spec PyProof.Rows L2 Evl RZ
section
variable {X : Cx}
end
def Step (L M : List Cow) : Prop := ∃ (pre post : List Cow) (a b : Cow), L = pre ++ a :: b :: post ∧ b.2.1 - a.2.2 > a.2.1 ∧ M = pre ++ (b.1, (b.2.1 - a.2.2, b.2.2)) :: a :: post
inductive Steps : List Cow → List Cow → Prop
  | refl (L : List Cow) : Steps L L
  | head {L M N : List Cow} : Step L M → Steps M N → Steps L N
theorem Steps.trans {L M N : List Cow} (h : Steps L M) (g : Steps M N) : Steps L N := by
  induction h with
  | refl => exact g
  | head s _ ih => exact .head s (ih g)
theorem Steps.one {L M : List Cow} (h : Step L M) : Steps L M := .head h (.refl M)
def Nf (L : List Cow) : Prop := ∀ M, ¬ Step L M
theorem Step.under {L M : List Cow} (pre post : List Cow) (h : Step L M) : Step (pre ++ L ++ post) (pre ++ M ++ post) := by
  obtain ⟨p, q, a, b, rfl, hp, rfl⟩ := h
  exact ⟨pre ++ p, q ++ post, a, b, by simp, hp, by simp⟩
theorem Steps.under {L M : List Cow} (pre post : List Cow) (h : Steps L M) : Steps (pre ++ L ++ post) (pre ++ M ++ post) := by
  induction h with
  | refl => exact .refl _
  | head s _ ih => exact .head (s.under pre post) ih
theorem three {a b c : Cow} (ta : 0 ≤ a.2.2) (tb : 0 ≤ b.2.2) (h1 : b.2.1 - a.2.2 > a.2.1) (h2 : c.2.1 - b.2.2 > b.2.1) :
    Steps [(b.1, (b.2.1 - a.2.2, b.2.2)), a, c] [(c.1, (c.2.1 - a.2.2 - b.2.2, c.2.2)), (b.1, (b.2.1 - a.2.2, b.2.2)), a] ∧ Steps [a, (c.1, (c.2.1 - b.2.2, c.2.2)), b] [(c.1, (c.2.1 - a.2.2 - b.2.2, c.2.2)), (b.1, (b.2.1 - a.2.2, b.2.2)), a] := by
  constructor
  · refine .head (M := [(b.1, (b.2.1 - a.2.2, b.2.2)), (c.1, (c.2.1 - a.2.2, c.2.2)), a]) ⟨[(b.1, (b.2.1 - a.2.2, b.2.2))], [], a, c, rfl, by omega, rfl⟩ (.one ⟨[], [a], (b.1, (b.2.1 - a.2.2, b.2.2)), (c.1, (c.2.1 - a.2.2, c.2.2)), rfl, by dsimp only; omega, rfl⟩)
  · have e : c.2.1 - a.2.2 - b.2.2 = c.2.1 - b.2.2 - a.2.2 := by omega
    rw [e]
    exact .head (M := [(c.1, (c.2.1 - b.2.2 - a.2.2, c.2.2)), a, b]) ⟨[], [b], a, (c.1, (c.2.1 - b.2.2, c.2.2)), rfl, by dsimp only; omega, rfl⟩ (.one ⟨[(c.1, (c.2.1 - b.2.2 - a.2.2, c.2.2))], [], a, b, rfl, h1, rfl⟩)
theorem splits {α : Type} : ∀ {p p' : List α} {a b a' b' : α} {q q' : List α}, p ++ a :: b :: q = p' ++ a' :: b' :: q' →
    (p = p' ∧ a = a' ∧ b = b' ∧ q = q') ∨ (∃ c, p' = p ++ [a] ∧ a' = b ∧ b' = c ∧ q = c :: q') ∨ (∃ c, p = p' ++ [a'] ∧ a = b' ∧ b = c ∧ q' = c :: q) ∨ (∃ m, p' = p ++ a :: b :: m ∧ q = m ++ a' :: b' :: q') ∨ (∃ m, p = p' ++ a' :: b' :: m ∧ q' = m ++ a :: b :: q)
  | [], [], _, _, _, _, _, _, h => by
    simp only [List.nil_append, List.cons.injEq] at h
    exact .inl ⟨rfl, h.1, h.2.1, h.2.2⟩
  | [], [x], a, b, a', b', q, q', h => by
    simp only [List.nil_append, List.cons_append, List.cons.injEq] at h
    exact .inr (.inl ⟨b', by simp [h.1], h.2.1.symm, rfl, h.2.2⟩)
  | [], x :: y :: m, a, b, a', b', q, q', h => by
    simp only [List.nil_append, List.cons_append, List.cons.injEq] at h
    exact .inr (.inr (.inr (.inl ⟨m, by simp [h.1, h.2.1], h.2.2⟩)))
  | [x], [], a, b, a', b', q, q', h => by
    simp only [List.nil_append, List.cons_append, List.cons.injEq] at h
    exact .inr (.inr (.inl ⟨b, by simp [h.1], h.2.1, rfl, h.2.2.symm⟩))
  | x :: y :: m, [], a, b, a', b', q, q', h => by
    simp only [List.nil_append, List.cons_append, List.cons.injEq] at h
    exact .inr (.inr (.inr (.inr ⟨m, by simp [h.1, h.2.1], h.2.2.symm⟩)))
  | x :: p, y :: p', a, b, a', b', q, q', h => by
    simp only [List.cons_append, List.cons.injEq] at h
    obtain ⟨rfl, h⟩ := h
    rcases splits h with ⟨rfl, k⟩ | ⟨c, rfl, k⟩ | ⟨c, rfl, k⟩ | ⟨m, rfl, k⟩ | ⟨m, rfl, k⟩
    · exact .inl ⟨rfl, k⟩
    · exact .inr (.inl ⟨c, rfl, k⟩)
    · exact .inr (.inr (.inl ⟨c, rfl, k⟩))
    · exact .inr (.inr (.inr (.inl ⟨m, rfl, k⟩)))
    · exact .inr (.inr (.inr (.inr ⟨m, rfl, k⟩)))
theorem near {L M N : List Cow} (ht : ∀ x ∈ L, 0 ≤ x.2.2) (h : Step L M) (g : Step L N) : ∃ J, Steps M J ∧ Steps N J := by
  obtain ⟨p, q, a, b, rfl, h1, rfl⟩ := h
  obtain ⟨p', q', a', b', e, h2, rfl⟩ := g
  rcases splits e with ⟨rfl, rfl, rfl, rfl⟩ | ⟨c, rfl, rfl, rfl, rfl⟩ | ⟨c, rfl, rfl, rfl, rfl⟩ | ⟨m, rfl, rfl⟩ | ⟨m, rfl, rfl⟩
  · exact ⟨_, .refl _, .refl _⟩
  · obtain ⟨s1, s2⟩ := three (a := a) (b := a') (c := b') (ht a (by simp)) (ht a' (by simp)) h1 h2
    refine ⟨p ++ [(b'.1, (b'.2.1 - a.2.2 - a'.2.2, b'.2.2)), (a'.1, (a'.2.1 - a.2.2, a'.2.2)), a] ++ q', ?_, ?_⟩
    · have := s1.under p q'
      simpa using this
    · have := s2.under p q'
      simpa using this
  · obtain ⟨s1, s2⟩ := three (a := a') (b := a) (c := b) (ht a' (by simp)) (ht a (by simp)) h2 h1
    refine ⟨p' ++ [(b.1, (b.2.1 - a'.2.2 - a.2.2, b.2.2)), (a.1, (a.2.1 - a'.2.2, a.2.2)), a'] ++ q, ?_, ?_⟩
    · have := s2.under p' q
      simpa using this
    · have := s1.under p' q
      simpa using this
  · refine ⟨p ++ (b.1, (b.2.1 - a.2.2, b.2.2)) :: a :: (m ++ (b'.1, (b'.2.1 - a'.2.2, b'.2.2)) :: a' :: q'), .one ⟨p ++ (b.1, (b.2.1 - a.2.2, b.2.2)) :: a :: m, q', a', b', by simp, h2, by simp⟩, .one ⟨p, m ++ (b'.1, (b'.2.1 - a'.2.2, b'.2.2)) :: a' :: q', a, b, by simp, h1, by simp⟩⟩
  · refine ⟨p' ++ (b'.1, (b'.2.1 - a'.2.2, b'.2.2)) :: a' :: (m ++ (b.1, (b.2.1 - a.2.2, b.2.2)) :: a :: q), .one ⟨p', m ++ (b.1, (b.2.1 - a.2.2, b.2.2)) :: a :: q, a', b', by simp, h2, by simp⟩, .one ⟨p' ++ (b'.1, (b'.2.1 - a'.2.2, b'.2.2)) :: a' :: m, q, a, b, by simp, h1, by simp⟩⟩
structure Good (L : List Cow) : Prop where
  tl : ∀ x ∈ L, 0 ≤ x.2.2
  nd : (L.map (·.1)).Nodup
  iv : PInv L
theorem Good.step {L M : List Cow} (g : Good L) (h : Step L M) : Good M ∧ asc (M.map (·.1)) < asc (L.map (·.1)) := by
  obtain ⟨p, q, a, b, rfl, h1, rfl⟩ := h
  obtain ⟨f1, f2, f3⟩ := facts_pass (n := (p ++ a :: b :: q).length) (ps := []) (q := (0, 0)) ⟨rfl, g.tl, g.nd, by
    have := asc_le ((p ++ a :: b :: q).map (·.1))
    rw [List.length_map] at this
    show 0 + _ ≤ _
    omega⟩ g.iv h1
  exact ⟨⟨f1.tl, f1.nd, f2⟩, f3⟩
theorem Good.steps {L M : List Cow} (g : Good L) (h : Steps L M) : Good M := by
  induction h with
  | refl => exact g
  | head s _ ih => exact ih (g.step s).1
theorem some_nf : ∀ (n : Nat) {L : List Cow}, Good L → asc (L.map (·.1)) ≤ n → ∃ N, Steps L N ∧ Nf N
  | n, L, g, h => by
    by_cases z : Nf L
    · exact ⟨L, .refl L, z⟩
    · have z' : ∃ M, Step L M := Classical.byContradiction fun e => z fun M s => e ⟨M, s⟩
      obtain ⟨M, s⟩ := z'
      obtain ⟨g2, lt⟩ := g.step s
      cases n with
      | zero => omega
      | succ n =>
        obtain ⟨N, s2, nf⟩ := some_nf n g2 (by omega)
        exact ⟨N, .head s s2, nf⟩
theorem one_nf : ∀ (n : Nat) {L N N' : List Cow}, Good L → asc (L.map (·.1)) ≤ n → Steps L N → Nf N → Steps L N' → Nf N' → N = N'
  | n, L, N, N', g, h, s, nf, s', nf' => by
    cases s with
    | refl =>
      cases s' with
      | refl => rfl
      | head t _ => exact (nf _ t).elim
    | @head _ M _ t u =>
      cases s' with
      | refl => exact (nf' _ t).elim
      | @head _ M' _ t' u' =>
        obtain ⟨J, j1, j2⟩ := near g.tl t t'
        obtain ⟨g2, l2⟩ := g.step t
        obtain ⟨g3, l3⟩ := g.step t'
        cases n with
        | zero => omega
        | succ n =>
          obtain ⟨O, so, nfo⟩ := some_nf _ (g2.steps j1) (Nat.le_refl _)
          have e1 := one_nf n g2 (by omega) u nf (j1.trans so) nfo
          have e2 := one_nf n g3 (by omega) u' nf' (j2.trans so) nfo
          rw [e1, e2]
theorem good_tag {rs : HH.Row} (h : ∀ b ∈ rs, 0 ≤ b.2) : Good (tag 0 rs) := ⟨(facts_tag h).tl, (facts_tag h).nd, pinv_tag 0 rs⟩
theorem Steps.snoc {L M N : List Cow} (h : Steps L M) (s : Step M N) : Steps L N := h.trans (.one s)
theorem PRun.steps {L0 L : List Cow} {ps : List (Int × Int)} (h : PRun L0 L ps) : Steps L0 L := by
  induction h with
  | nil => exact .refl _
  | step _ hp ih => exact ih.snoc ⟨_, _, _, _, rfl, hp, rfl⟩
end HH
set_option maxHeartbeats 4000000
namespace HH
open PySem PySem.Spec PyProof.Rows L2 Evl RZ
def NfR : List Cow → Prop
  | [] => True
  | [_] => True
  | a :: b :: r => ¬ (b.2.1 - a.2.2 > a.2.1) ∧ NfR (b :: r)
theorem nfr_tail {a : Cow} {r : List Cow} (h : NfR (a :: r)) : NfR r := by
  cases r with
  | nil => exact True.intro
  | cons b r => exact h.2
theorem nfr_in {w : Cow} : ∀ {A B : List Cow}, NfR (A ++ B) → (∀ x, A.getLast? = some x → ¬ (w.2.1 - x.2.2 > x.2.1)) → (∀ b r, B = b :: r → ¬ (b.2.1 - w.2.2 > w.2.1)) → NfR (A ++ w :: B)
  | [], [], _, _, _ => True.intro
  | [], b :: r, h, _, g => ⟨g b r rfl, h⟩
  | [x], B, h, f, g => ⟨f x rfl, by
    have := nfr_in (w := w) (A := []) (B := B) (nfr_tail h) (fun _ z => by cases z) g
    exact this⟩
  | x :: y :: A, B, h, f, g => ⟨h.1, nfr_in (A := y :: A) (B := B) h.2 (fun z hz => f z (by rw [List.getLast?_cons_cons]; exact hz)) g⟩
structure Kept (S T : List Int) (N : List Cow) : Prop where
  s : ∀ x ∈ N, S[x.1]? = some x.2.1
  t : ∀ x ∈ N, T[x.1]? = some x.2.2
def ExB2 (a b : Addr) (H H' : Hp) : Prop := ∀ c o, c ≠ a → c ≠ b → H c = some o → H' c = some o
structure LastAt (K : PySem.W.Frag) (H : Hp) (q : Addr) (L : List Cow) : Prop where
  ex : ∃ (v : V) (ot : Addr), H q = some (.tup [v, .ref ot]) ∧ RowAt K H v (rowsOf L) ∧ H ot = some (.tup (ordL L))
theorem LastAt.mono {K : PySem.W.Frag} {H H' : Hp} {q : Addr} {L : List Cow} (h : LastAt K H q L) (e : Ex H H') : LastAt K H' q L := by
  obtain ⟨v, ot, h1, h2, h3⟩ := h.ex
  exact ⟨v, ot, e _ _ h1, h2.ex e, e _ _ h3⟩
section
variable {K : PySem.W.Frag} {σ : L2.St} {H H' : Hp} {te : TE} {v : V}
end
end HH
set_option maxHeartbeats 4000000
namespace HH
open PySem PySem.Spec PyProof.Rows L2 Evl RZ
section
variable {K : PySem.W.Frag} {σ : L2.St} {p : Addr} {ta tb te : TE} {D : Ends} {tz : TS}
end
end HH
set_option maxHeartbeats 4000000
namespace HH
open PySem PySem.Spec PyProof.Rows L2 Evl RZ
def beastD (b : Int × Int) : PyData := .tuple [.int b.1, .int b.2]
def rowD (rs : HH.Row) : PyData := .tuple (rs.map beastD)
theorem Beasts.uncons {K : PySem.W.Frag} {H : Hp} {v : V} {vs : List V} {b : Int × Int} {rs : HH.Row} (h : Beasts K H (v :: vs) (b :: rs)) : BeastAt K H v b ∧ Beasts K H vs rs := by
  refine ⟨?_, Nat.succ.inj h.1, fun i c hi => ?_⟩
  · obtain ⟨u, hu, g⟩ := h.2 0 b rfl
    cases hu
    exact g
  · obtain ⟨u, hu, g⟩ := h.2 (i + 1) c hi
    exact ⟨u, hu, g⟩
theorem beasts_dp {K : PySem.W.Frag} {H : Hp} : ∀ {vs : List V} {rs : HH.Row}, Beasts K H vs rs → DpAll K H vs (rs.map beastD)
  | [], [], _ => .nil
  | [], _ :: _, h => by cases h.1
  | _ :: _, [], h => by cases h.1
  | v :: vs, b :: rs, h => by
    obtain ⟨⟨p, rfl, hp⟩, h2⟩ := h.uncons
    exact .cons (.tup hp (.cons (.int _) (.cons (.int _) .nil))) (beasts_dp h2)
theorem RowAt.dp {K : PySem.W.Frag} {H : Hp} {v : V} {rs : HH.Row} (h : RowAt K H v rs) : ∃ a, v = .ref a ∧ Dp K H (.ref a) (rowD rs) := by
  obtain ⟨a, vs, rfl, h1, h2⟩ := h
  exact ⟨a, rfl, .tup h1 (beasts_dp h2)⟩
def Low (b : Int × Int) : Prop := b.1.natAbs < 10 ^ 18 ∧ b.2.natAbs < 10 ^ 18
theorem Tame.low {b : Int × Int} (h : Tame b) : Low b := by
  unfold Tame at h
  have e : (10 : Int) ^ 12 = 1000000000000 := by decide
  have e2 : (10 : Nat) ^ 18 = 1000000000000000000 := by decide
  rw [e] at h
  unfold Low
  rw [e2]
  omega
section
variable {K : PySem.W.Frag} {σ : L2.St} {H H' : Hp} {te : TE} {v : V}
end
theorem Alike.up {K : PySem.W.Frag} {H : Hp} : ∀ {d : Nat} {x y : V}, Alike K H d x y → Alike K H (d + 1) x y
  | 0, _, _, h => h.elim
  | d + 1, x, y, h => by
    rcases h with h | ⟨a, b, xs, ys, h1, h2, h3, h4, h5, h6⟩
    · exact .inl h
    · exact .inr ⟨a, b, xs, ys, h1, h2, h3, h4, h5, fun i u v hu hv => (h6 i u v hu hv).up⟩
def lastD (L : List Cow) : PyData := .tuple [rowD (rowsOf L), .tuple ((L.map fun x => (x.1 : Int)).map PyData.int)]
theorem LastAt.dp {K : PySem.W.Frag} {H : Hp} {p : Addr} {L : List Cow} (h : LastAt K H p L) : Dp K H (.ref p) (lastD L) := by
  obtain ⟨v, ot, h1, h2, h3⟩ := h.ex
  obtain ⟨a, rfl, hd⟩ := h2.dp
  have e : ordL L = (L.map fun x => (x.1 : Int)).map V.int := by
    unfold ordL
    rw [List.map_map]
    rfl
  rw [e] at h3
  exact .tup (st_of h1) (.cons hd (.cons (.tup (st_of h3) (dp_ints _)) .nil))
end HH
set_option maxHeartbeats 4000000
namespace HH
open PySem PySem.Spec PyProof.Rows L2 Evl RZ
def FStep (L M : List Cow) : Prop := ∃ (pre post : List Cow) (a b : Cow), L = pre ++ a :: b :: post ∧ a.2.1 > b.2.1 ∧ M = pre ++ b :: (a.1, (a.2.1 + b.2.2, a.2.2)) :: post
inductive FSteps : List Cow → List Cow → Prop
  | refl (L : List Cow) : FSteps L L
  | head {L M N : List Cow} : FStep L M → FSteps M N → FSteps L N
theorem FSteps.trans {L M N : List Cow} (h : FSteps L M) (g : FSteps M N) : FSteps L N := by
  induction h with
  | refl => exact g
  | head s _ ih => exact .head s (ih g)
theorem FSteps.one {L M : List Cow} (h : FStep L M) : FSteps L M := .head h (.refl M)
def Ff (L : List Cow) : Prop := ∀ M, ¬ FStep L M
theorem FStep.under {L M : List Cow} (pre post : List Cow) (h : FStep L M) : FStep (pre ++ L ++ post) (pre ++ M ++ post) := by
  obtain ⟨p, q, a, b, rfl, hp, rfl⟩ := h
  exact ⟨pre ++ p, q ++ post, a, b, by simp, hp, by simp⟩
theorem FSteps.under {L M : List Cow} (pre post : List Cow) (h : FSteps L M) : FSteps (pre ++ L ++ post) (pre ++ M ++ post) := by
  induction h with
  | refl => exact .refl _
  | head s _ ih => exact .head (s.under pre post) ih
theorem threeF {a b c : Cow} (tb : 0 ≤ b.2.2) (tc : 0 ≤ c.2.2) (h1 : a.2.1 > b.2.1) (h2 : b.2.1 > c.2.1) :
    FSteps [b, (a.1, (a.2.1 + b.2.2, a.2.2)), c] [c, (b.1, (b.2.1 + c.2.2, b.2.2)), (a.1, (a.2.1 + b.2.2 + c.2.2, a.2.2))] ∧ FSteps [a, c, (b.1, (b.2.1 + c.2.2, b.2.2))] [c, (b.1, (b.2.1 + c.2.2, b.2.2)), (a.1, (a.2.1 + b.2.2 + c.2.2, a.2.2))] := by
  constructor
  · exact .head (M := [b, c, (a.1, (a.2.1 + b.2.2 + c.2.2, a.2.2))]) ⟨[b], [], (a.1, (a.2.1 + b.2.2, a.2.2)), c, rfl, by dsimp only; omega, rfl⟩ (.one ⟨[], [(a.1, (a.2.1 + b.2.2 + c.2.2, a.2.2))], b, c, rfl, h2, rfl⟩)
  · have e : a.2.1 + b.2.2 + c.2.2 = a.2.1 + c.2.2 + b.2.2 := by omega
    rw [e]
    exact .head (M := [c, (a.1, (a.2.1 + c.2.2, a.2.2)), (b.1, (b.2.1 + c.2.2, b.2.2))]) ⟨[], [(b.1, (b.2.1 + c.2.2, b.2.2))], a, c, rfl, by omega, rfl⟩ (.one ⟨[c], [], (a.1, (a.2.1 + c.2.2, a.2.2)), (b.1, (b.2.1 + c.2.2, b.2.2)), rfl, by dsimp only; omega, rfl⟩)
theorem nearF {L M N : List Cow} (ht : ∀ x ∈ L, 0 ≤ x.2.2) (h : FStep L M) (g : FStep L N) : ∃ J, FSteps M J ∧ FSteps N J := by
  obtain ⟨p, q, a, b, rfl, h1, rfl⟩ := h
  obtain ⟨p', q', a', b', e, h2, rfl⟩ := g
  rcases splits e with ⟨rfl, rfl, rfl, rfl⟩ | ⟨c, rfl, rfl, rfl, rfl⟩ | ⟨c, rfl, rfl, rfl, rfl⟩ | ⟨m, rfl, rfl⟩ | ⟨m, rfl, rfl⟩
  · exact ⟨_, .refl _, .refl _⟩
  · obtain ⟨s1, s2⟩ := threeF (a := a) (b := a') (c := b') (ht a' (by simp)) (ht b' (by simp)) h1 h2
    refine ⟨p ++ [b', (a'.1, (a'.2.1 + b'.2.2, a'.2.2)), (a.1, (a.2.1 + a'.2.2 + b'.2.2, a.2.2))] ++ q', ?_, ?_⟩
    · have := s1.under p q'
      simpa using this
    · have := s2.under p q'
      simpa using this
  · obtain ⟨s1, s2⟩ := threeF (a := a') (b := a) (c := b) (ht a (by simp)) (ht b (by simp)) h2 h1
    refine ⟨p' ++ [b, (a.1, (a.2.1 + b.2.2, a.2.2)), (a'.1, (a'.2.1 + a.2.2 + b.2.2, a'.2.2))] ++ q, ?_, ?_⟩
    · have := s2.under p' q
      simpa using this
    · have := s1.under p' q
      simpa using this
  · refine ⟨p ++ b :: (a.1, (a.2.1 + b.2.2, a.2.2)) :: (m ++ b' :: (a'.1, (a'.2.1 + b'.2.2, a'.2.2)) :: q'), .one ⟨p ++ b :: (a.1, (a.2.1 + b.2.2, a.2.2)) :: m, q', a', b', by simp, h2, by simp⟩, .one ⟨p, m ++ b' :: (a'.1, (a'.2.1 + b'.2.2, a'.2.2)) :: q', a, b, by simp, h1, by simp⟩⟩
  · refine ⟨p' ++ b' :: (a'.1, (a'.2.1 + b'.2.2, a'.2.2)) :: (m ++ b :: (a.1, (a.2.1 + b.2.2, a.2.2)) :: q), .one ⟨p', m ++ b :: (a.1, (a.2.1 + b.2.2, a.2.2)) :: q, a', b', by simp, h2, by simp⟩, .one ⟨p' ++ b' :: (a'.1, (a'.2.1 + b'.2.2, a'.2.2)) :: m, q, a, b, by simp, h1, by simp⟩⟩
structure FGood (L : List Cow) : Prop where
  tl : ∀ x ∈ L, 0 ≤ x.2.2
  nd : (L.map (·.1)).Nodup
  iv : FInv L
theorem FGood.step {L M : List Cow} (g : FGood L) (h : FStep L M) : FGood M ∧ asc (M.map (·.1)) < asc (L.map (·.1)) := by
  obtain ⟨p, q, a, b, rfl, h1, rfl⟩ := h
  obtain ⟨f1, f2, f3⟩ := facts_fall (n := (p ++ a :: b :: q).length) (ps := []) (q := (0, 0)) ⟨rfl, g.tl, g.nd, by
    have := asc_le ((p ++ a :: b :: q).map (·.1))
    rw [List.length_map] at this
    show 0 + _ ≤ _
    omega⟩ g.iv h1
  exact ⟨⟨f1.tl, f1.nd, f2⟩, f3⟩
theorem FGood.steps {L M : List Cow} (g : FGood L) (h : FSteps L M) : FGood M := by
  induction h with
  | refl => exact g
  | head s _ ih => exact ih (g.step s).1
theorem some_ff : ∀ (n : Nat) {L : List Cow}, FGood L → asc (L.map (·.1)) ≤ n → ∃ N, FSteps L N ∧ Ff N
  | n, L, g, h => by
    by_cases z : Ff L
    · exact ⟨L, .refl L, z⟩
    · have z' : ∃ M, FStep L M := Classical.byContradiction fun e => z fun M s => e ⟨M, s⟩
      obtain ⟨M, s⟩ := z'
      obtain ⟨g2, lt⟩ := g.step s
      cases n with
      | zero => omega
      | succ n =>
        obtain ⟨N, s2, nf⟩ := some_ff n g2 (by omega)
        exact ⟨N, .head s s2, nf⟩
theorem one_ff : ∀ (n : Nat) {L N N' : List Cow}, FGood L → asc (L.map (·.1)) ≤ n → FSteps L N → Ff N → FSteps L N' → Ff N' → N = N'
  | n, L, N, N', g, h, s, nf, s', nf' => by
    cases s with
    | refl =>
      cases s' with
      | refl => rfl
      | head t _ => exact (nf _ t).elim
    | @head _ M _ t u =>
      cases s' with
      | refl => exact (nf' _ t).elim
      | @head _ M' _ t' u' =>
        obtain ⟨J, j1, j2⟩ := nearF g.tl t t'
        obtain ⟨g2, l2⟩ := g.step t
        obtain ⟨g3, l3⟩ := g.step t'
        cases n with
        | zero => omega
        | succ n =>
          obtain ⟨O, so, nfo⟩ := some_ff _ (g2.steps j1) (Nat.le_refl _)
          have e1 := one_ff n g2 (by omega) u nf (j1.trans so) nfo
          have e2 := one_ff n g3 (by omega) u' nf' (j2.trans so) nfo
          rw [e1, e2]
theorem fgood_tag {rs : HH.Row} (h : ∀ b ∈ rs, 0 ≤ b.2) : FGood (tag 0 rs) := ⟨(facts_tag h).tl, (facts_tag h).nd, finv_tag 0 rs⟩
theorem FSteps.snoc {L M N : List Cow} (h : FSteps L M) (s : FStep M N) : FSteps L N := h.trans (.one s)
theorem FRun.steps {L0 L : List Cow} {ps : List (Int × Int)} (h : FRun L0 L ps) : FSteps L0 L := by
  induction h with
  | nil => exact .refl _
  | step _ hp ih => exact ih.snoc ⟨_, _, _, _, rfl, hp, rfl⟩
def FfR : List Cow → Prop
  | [] => True
  | [_] => True
  | a :: b :: r => ¬ (a.2.1 > b.2.1) ∧ FfR (b :: r)
section
variable {K : PySem.W.Frag} {σ : L2.St} {H : Hp} {D : Ends} {tz tu : TS}
end
end HH
set_option maxHeartbeats 4000000
namespace PySem
open Sem (wp)
open AutoSeq1 (wpAny_loadPart')
section
variable {prog : Program} {w : World} {A : Around} {E : Value → Shared → Prop} {s : Shared}
end
end PySem
namespace HH
open PySem PySem.Spec PyProof.Rows L2 Evl RZ
end HH
set_option maxHeartbeats 4000000
namespace HH
open PySem PySem.Spec PyProof.Rows L2 Evl RZ
def bef : List Nat → Nat → Nat → Bool
  | [], _, _ => false
  | x :: r, j, i => (decide (x = j) && decide (i ∈ r)) || bef r j i
theorem bef_cons {x : Nat} {r : List Nat} {j i : Nat} : bef (x :: r) j i = true ↔ (x = j ∧ i ∈ r) ∨ bef r j i = true := by
  simp [bef]
theorem bef_mem : ∀ {l : List Nat} {j i : Nat}, bef l j i = true → j ∈ l ∧ i ∈ l
  | [], _, _, h => by cases h
  | x :: r, j, i, h => by
    rcases bef_cons.mp h with ⟨rfl, h1⟩ | h1
    · exact ⟨List.mem_cons_self .., List.mem_cons_of_mem _ h1⟩
    · exact ⟨List.mem_cons_of_mem _ (bef_mem h1).1, List.mem_cons_of_mem _ (bef_mem h1).2⟩
theorem bef_swap {a b i j : Nat} {B : List Nat} (hab : a < b) (hij : i < j) : ∀ A : List Nat, bef (A ++ b :: a :: B) j i = true ↔ bef (A ++ a :: b :: B) j i = true ∨ (i = a ∧ j = b)
  | [] => by
    rw [List.nil_append, List.nil_append, bef_cons, bef_cons, bef_cons, bef_cons, List.mem_cons, List.mem_cons]
    constructor
    · rintro (⟨h1, h2 | h2⟩ | ⟨h1, h2⟩ | h)
      · exact .inr ⟨h2, h1.symm⟩
      · exact .inl (.inr (.inl ⟨h1, h2⟩))
      · exact .inl (.inl ⟨h1, .inr h2⟩)
      · exact .inl (.inr (.inr h))
    · rintro ((⟨h1, h2 | h2⟩ | ⟨h1, h2⟩ | h) | ⟨h1, h2⟩)
      · omega
      · exact .inr (.inl ⟨h1, h2⟩)
      · exact .inl ⟨h1, .inr h2⟩
      · exact .inr (.inr h)
      · exact .inl ⟨h2.symm, .inl h1⟩
  | x :: A => by
    rw [List.cons_append, List.cons_append, bef_cons, bef_cons, bef_swap hab hij A]
    have e : i ∈ A ++ b :: a :: B ↔ i ∈ A ++ a :: b :: B := by
      rw [List.mem_append, List.mem_append, List.mem_cons, List.mem_cons, List.mem_cons, List.mem_cons]
      constructor
      · rintro (h | h | h | h)
        · exact .inl h
        · exact .inr (.inr (.inl h))
        · exact .inr (.inl h)
        · exact .inr (.inr (.inr h))
      · rintro (h | h | h | h)
        · exact .inl h
        · exact .inr (.inr (.inl h))
        · exact .inr (.inl h)
        · exact .inr (.inr (.inr h))
    rw [e]
    constructor
    · rintro (h | h | h)
      · exact .inl (.inl h)
      · exact .inl (.inr h)
      · exact .inr h
    · rintro ((h | h) | h)
      · exact .inl h
      · exact .inr (.inl h)
      · exact .inr (.inr h)
theorem bef_lt : ∀ {l : List Nat} {p q j i : Nat}, l[p]? = some j → l[q]? = some i → p < q → bef l j i = true
  | [], p, q, j, i, h, _, _ => by cases h
  | x :: r, 0, 0, j, i, _, _, h => absurd h (Nat.lt_irrefl 0)
  | x :: r, 0, q + 1, j, i, h1, h2, _ => by
    have e : x = j := Option.some.inj h1
    exact bef_cons.mpr (.inl ⟨e, List.mem_of_getElem? (i := q) h2⟩)
  | x :: r, p + 1, 0, j, i, _, _, h => absurd h (Nat.not_lt_zero _)
  | x :: r, p + 1, q + 1, j, i, h1, h2, h => bef_cons.mpr (.inr (bef_lt (l := r) (p := p) (q := q) h1 h2 (by omega)))
theorem bef_get : ∀ {l : List Nat} {j i : Nat}, bef l j i = true → ∃ p q : Nat, p < q ∧ l[p]? = some j ∧ l[q]? = some i
  | [], _, _, h => by cases h
  | x :: r, j, i, h => by
    rcases bef_cons.mp h with ⟨rfl, h1⟩ | h1
    · obtain ⟨q, hq⟩ := List.getElem?_of_mem h1
      exact ⟨0, q + 1, by omega, rfl, hq⟩
    · obtain ⟨p, q, h2, h3, h4⟩ := bef_get h1
      exact ⟨p + 1, q + 1, by omega, h3, h4⟩
theorem nd_at {l : List Nat} (nd : l.Nodup) {p q j : Nat} (h1 : l[p]? = some j) (h2 : l[q]? = some j) : p = q := by
  have hp := (List.getElem?_eq_some_iff.mp h1).1
  exact (List.getElem?_inj hp nd).mp (h1.trans h2.symm)
theorem bef_iff {l : List Nat} (nd : l.Nodup) {p q j i : Nat} (h1 : l[p]? = some j) (h2 : l[q]? = some i) : bef l j i = decide (p < q) := by
  by_cases h : p < q
  · rw [decide_eq_true h]
    exact bef_lt h1 h2 h
  · rw [decide_eq_false h]
    cases hb : bef l j i with
    | false => rfl
    | true =>
      obtain ⟨p', q', h3, h4, h5⟩ := bef_get hb
      have := nd_at nd h1 h4
      have := nd_at nd h2 h5
      omega
def inP (l : List Nat) (i : Nat) (k : Nat) : Bool := bef l (i + 1 + k) i
def tabR (l : List Nat) (n i m : Nat) : List (Int × Int) := ((List.range m).filter (inP l i)).map fun k => ((i : Int), ((i + 1 + k : Nat) : Int))
def tab (l : List Nat) (n m : Nat) : List (Int × Int) := (List.range m).flatMap fun i => tabR l n i (n - (i + 1))
theorem tab_succ (l : List Nat) (n m : Nat) : tab l n (m + 1) = tab l n m ++ tabR l n m (n - (m + 1)) := by
  unfold tab
  rw [List.range_succ, List.flatMap_append]
  simp
theorem mem_tab {l : List Nat} {n : Nat} {p : Int × Int} : p ∈ tab l n n ↔ ∃ i j : Nat, i < j ∧ j < n ∧ p = ((i : Int), (j : Int)) ∧ bef l j i = true := by
  unfold tab tabR
  rw [List.mem_flatMap]
  constructor
  · rintro ⟨i, hi, h⟩
    obtain ⟨k, hk, rfl⟩ := List.mem_map.mp h
    obtain ⟨h1, h2⟩ := List.mem_filter.mp hk
    have h3 := List.mem_range.mp h1
    exact ⟨i, i + 1 + k, by omega, by omega, rfl, h2⟩
  · rintro ⟨i, j, h1, h2, rfl, h3⟩
    refine ⟨i, List.mem_range.mpr (by omega), List.mem_map.mpr ⟨j - (i + 1), List.mem_filter.mpr ⟨List.mem_range.mpr (by omega), ?_⟩, ?_⟩⟩
    · unfold inP
      rw [show i + 1 + (j - (i + 1)) = j by omega]
      exact h3
    · rw [show i + 1 + (j - (i + 1)) = j by omega]
def lexL (p q : Int × Int) : Prop := p.1 < q.1 ∨ (p.1 = q.1 ∧ p.2 < q.2)
theorem pw_tabR (l : List Nat) (n i m : Nat) : (tabR l n i m).Pairwise lexL := by
  unfold tabR
  rw [List.pairwise_map]
  refine List.Pairwise.filter _ ?_
  refine List.pairwise_lt_range.imp fun {a b} h => .inr ⟨rfl, ?_⟩
  show ((i + 1 + a : Nat) : Int) < ((i + 1 + b : Nat) : Int)
  omega
theorem pw_tab (l : List Nat) (n : Nat) : ∀ m, (tab l n m).Pairwise lexL
  | 0 => .nil
  | m + 1 => by
    rw [tab_succ]
    refine List.pairwise_append.mpr ⟨pw_tab l n m, pw_tabR l n m _, fun p hp q hq => ?_⟩
    obtain ⟨i, hi, h⟩ := List.mem_flatMap.mp hp
    obtain ⟨k, _, rfl⟩ := List.mem_map.mp h
    obtain ⟨k', _, rfl⟩ := List.mem_map.mp hq
    have := List.mem_range.mp hi
    exact .inl (by show (i : Int) < (m : Int); omega)
theorem lex_irr (p : Int × Int) : ¬ lexL p p := fun h => by
  rcases h with h | h
  · omega
  · omega
theorem nd_tab (l : List Nat) (n m : Nat) : (tab l n m).Nodup := (pw_tab l n m).imp fun {a b} h (e : a = b) => lex_irr b (by rw [e] at h; exact h)
structure Told (n : Nat) (l : List Nat) (ps : List (Int × Int)) : Prop where
  mem : ∀ p, p ∈ ps ↔ ∃ i j : Nat, i < j ∧ p = ((i : Int), (j : Int)) ∧ bef l j i = true
  nd : ps.Nodup
theorem told_swap {n a b : Nat} {A B : List Nat} {ps : List (Int × Int)} (t : Told n (A ++ a :: b :: B) ps) (hab : a < b) (nd : (A ++ a :: b :: B).Nodup) : Told n (A ++ b :: a :: B) (ps ++ [((a : Int), (b : Int))]) := by
  refine ⟨fun p => ?_, ?_⟩
  · rw [List.mem_append, List.mem_singleton, t.mem]
    constructor
    · rintro (⟨i, j, h1, h2, h3⟩ | rfl)
      · exact ⟨i, j, h1, h2, (bef_swap hab h1 A).mpr (.inl h3)⟩
      · exact ⟨a, b, hab, rfl, (bef_swap hab hab A).mpr (.inr ⟨rfl, rfl⟩)⟩
    · rintro ⟨i, j, h1, h2, h3⟩
      rcases (bef_swap hab h1 A).mp h3 with h4 | ⟨rfl, rfl⟩
      · exact .inl ⟨i, j, h1, h2, h4⟩
      · exact .inr h2
  · refine List.nodup_append.mpr ⟨t.nd, by simp, fun x hx y hy e => ?_⟩
    rw [List.mem_singleton] at hy
    subst e hy
    obtain ⟨i, j, h1, h2, h3⟩ := (t.mem _).mp hx
    have e1 : a = i := by
      have := congrArg Prod.fst h2
      have : (a : Int) = (i : Int) := this
      omega
    have e2 : b = j := by
      have := congrArg Prod.snd h2
      have : (b : Int) = (j : Int) := this
      omega
    subst e1 e2
    have g1 : (A ++ a :: b :: B)[A.length]? = some a := by simp
    have g2 : (A ++ a :: b :: B)[A.length + 1]? = some b := by
      rw [List.getElem?_append_right (by omega), show A.length + 1 - A.length = 1 by omega]
      rfl
    rw [bef_iff nd g2 g1] at h3
    have := of_decide_eq_true h3
    omega
theorem bef_range' : ∀ (k n : Nat) {j i : Nat}, bef (List.range' k n) j i = true → j < i
  | k, 0, _, _, h => by cases h
  | k, n + 1, j, i, h => by
    rw [List.range'_succ] at h
    rcases bef_cons.mp h with ⟨rfl, h1⟩ | h1
    · have := (List.mem_range'_1.mp h1).1
      omega
    · exact bef_range' _ n h1
theorem told_nil (n : Nat) : Told n (List.range n) [] := by
  refine ⟨fun p => ⟨(fun h => by cases h), ?_⟩, .nil⟩
  rintro ⟨i, j, h1, _, h2⟩
  rw [List.range_eq_range'] at h2
  have := bef_range' 0 n h2
  omega
theorem told_tab {n : Nat} {l : List Nat} {ps : List (Int × Int)} (t : Told n l ps) (hl : ∀ x ∈ l, x < n) : ps.Perm (tab l n n) := by
  refine (List.perm_ext_iff_of_nodup t.nd (nd_tab l n n)).mpr fun p => ?_
  rw [t.mem, mem_tab]
  constructor
  · rintro ⟨i, j, h1, h2, h3⟩
    exact ⟨i, j, h1, hl _ (bef_mem h3).1, h2, h3⟩
  · rintro ⟨i, j, h1, h2, h3, h4⟩
    exact ⟨i, j, h1, h3, h4⟩
end HH
set_option maxHeartbeats 4000000
namespace HH
open PySem PySem.Spec PyProof.Rows L2 Evl RZ
theorem in_it {J : It} {n : Nat} {G : Hp → Prop} {Y : Nat → Hp → V → Hp → Prop} (w : Walk J n G Y) {Step : V → Hp → (Hp → Prop) → Prop} {H1 : Hp} {Qd : Hp → Prop} (Pv : Nat → Hp → Prop) (h0 : Pv 0 H1) (hG : ∀ i H, i ≤ n → Pv i H → G H)
    (hs : ∀ i x H H', i < n → Pv i H → Y i H x H' → Step x H' (Pv (i + 1))) (hd : ∀ H, Pv n H → Qd H) :
    ∃ W : Nat → Nat → Hp → Prop, (∃ m, W 0 m H1) ∧ ∀ i m H, W i m H →
      (J.stop i H ∧ Qd H) ∨ (J.go i H ∧ ∃ Nx : Hp → Prop, (∀ H', Nx H' → ∃ m', m' < m ∧ W (i + 1) m' H') ∧ ∀ x H', J.yld i H x H' → Step x H' Nx) := by
  refine ⟨fun i m H => m = n - i ∧ i ≤ n ∧ Pv i H, ⟨n, by simp, Nat.zero_le _, h0⟩, ?_⟩
  rintro i m H ⟨rfl, hi, p⟩
  have q := hG i H hi p
  by_cases hlt : i < n
  · refine .inr ⟨w.goes i H hlt q, Pv (i + 1), fun H' p' => ⟨n - (i + 1), by omega, rfl, hlt, p'⟩, fun x H' y => hs i x H H' hlt p (w.yields i H x H' hlt q y)⟩
  · have e : i = n := by omega
    subst e
    exact .inl ⟨w.stops H q, hd H p⟩
theorem PRun.told {rs : HH.Row} {L : List Cow} {ps : List (Int × Int)} (r : PRun (tag 0 rs) L ps) (ht : ∀ b ∈ rs, 0 ≤ b.2) : Told rs.length (L.map (·.1)) ps ∧ Facts rs.length L ps ∧ PInv L := by
  induction r with
  | nil =>
    refine ⟨?_, facts_tag ht, pinv_tag 0 rs⟩
    have e : (tag 0 rs).map (·.1) = List.range rs.length := by
      rw [tag_fst]
      have e : (fun x => 0 + x) = (id : Nat → Nat) := by
        funext x
        exact Nat.zero_add x
      rw [e, List.map_id]
    rw [e]
    exact told_nil _
  | step r hp ih =>
    rename_i pre post a b ps
    obtain ⟨t, f, i⟩ := ih
    have hab := pinv_lt i hp (nd_ne f.nd)
    obtain ⟨f1, f2, f3⟩ := facts_pass (q := ((a.1 : Int), (b.1 : Int))) f i hp
    refine ⟨?_, f1, f2⟩
    have e1 : (pre ++ a :: b :: post).map (·.1) = pre.map (·.1) ++ a.1 :: b.1 :: post.map (·.1) := by simp
    have e2 : (pre ++ (b.1, (b.2.1 - a.2.2, b.2.2)) :: a :: post).map (·.1) = pre.map (·.1) ++ b.1 :: a.1 :: post.map (·.1) := by simp
    have nd := f.nd
    rw [e1] at t nd
    rw [e2]
    exact told_swap t hab nd
theorem FRun.told {rs : HH.Row} {L : List Cow} {ps : List (Int × Int)} (r : FRun (tag 0 rs) L ps) (ht : ∀ b ∈ rs, 0 ≤ b.2) : Told rs.length (L.map (·.1)) ps ∧ Facts rs.length L ps ∧ FInv L := by
  induction r with
  | nil =>
    refine ⟨?_, facts_tag ht, finv_tag 0 rs⟩
    have e : (tag 0 rs).map (·.1) = List.range rs.length := by
      rw [tag_fst]
      have e : (fun x => 0 + x) = (id : Nat → Nat) := by
        funext x
        exact Nat.zero_add x
      rw [e, List.map_id]
    rw [e]
    exact told_nil _
  | step r hp ih =>
    rename_i pre post a b ps
    obtain ⟨t, f, i⟩ := ih
    have hab := finv_lt i hp (nd_ne f.nd)
    obtain ⟨f1, f2, f3⟩ := facts_fall (q := ((a.1 : Int), (b.1 : Int))) f i hp
    refine ⟨?_, f1, f2⟩
    have e1 : (pre ++ a :: b :: post).map (·.1) = pre.map (·.1) ++ a.1 :: b.1 :: post.map (·.1) := by simp
    have e2 : (pre ++ b :: (a.1, (a.2.1 + b.2.2, a.2.2)) :: post).map (·.1) = pre.map (·.1) ++ b.1 :: a.1 :: post.map (·.1) := by simp
    have nd := f.nd
    rw [e1] at t nd
    rw [e2]
    exact told_swap t hab nd
theorem Step.ids {L M : List Cow} (h : Step L M) : (M.map (·.1)).Perm (L.map (·.1)) := by
  obtain ⟨pre, post, a, b, rfl, _, rfl⟩ := h
  rw [List.map_append, List.map_append]
  exact List.Perm.append_left _ (List.Perm.swap ..)
theorem FStep.ids {L M : List Cow} (h : FStep L M) : (M.map (·.1)).Perm (L.map (·.1)) := by
  obtain ⟨pre, post, a, b, rfl, _, rfl⟩ := h
  rw [List.map_append, List.map_append]
  exact List.Perm.append_left _ (List.Perm.swap ..)
theorem Steps.ids {L M : List Cow} (h : Steps L M) : (M.map (·.1)).Perm (L.map (·.1)) := by
  induction h with
  | refl => exact .refl _
  | head s _ ih => exact ih.trans s.ids
theorem FSteps.ids {L M : List Cow} (h : FSteps L M) : (M.map (·.1)).Perm (L.map (·.1)) := by
  induction h with
  | refl => exact .refl _
  | head s _ ih => exact ih.trans s.ids
theorem tag_ids (rs : HH.Row) : (tag 0 rs).map (·.1) = List.range rs.length := by
  rw [tag_fst]
  have e : (fun x => 0 + x) = (id : Nat → Nat) := by
    funext x
    exact Nat.zero_add x
  rw [e, List.map_id]
def natsV (l : List Nat) : List V := l.map fun (x : Nat) => V.int (x : Int)
structure PlacesD (l : List Nat) (k : Nat) (kvs : List (Key × V)) : Prop where
  at' : ∀ i x : Nat, i < k → l[i]? = some x → valV kvs (.inl (x : Int)) = some (.int (i : Int))
  few : kvs.length ≤ k
theorem t_ev {t : TT} {σ : L2.St} {H : Hp} {b : Bool} {Q : Bool → Hp → Prop} (h : EvT t σ H b) (k : ∀ H1, Ex H H1 → Q b H1) : t σ H Q := h H (Ex.refl H) _ k
theorem t_yes {σ : L2.St} {H : Hp} {Q R : Hp → Prop} (h : Q H) : tYes σ H (fun b H1 => if b = true then Q H1 else R H1) := by
  show if true = true then Q H else R H
  rw [if_pos rfl]
  exact h
end HH
set_option maxHeartbeats 4000000
namespace HH
open PySem PySem.Spec PyProof.Rows L2 Evl RZ TL NumText
def parS (l : List Nat) : List Nat × List Nat := match par [58] [] l with | some p => p | none => (l, [])
def isBeast (l : List Nat) : Bool := isNumT (parS l).1 && isFig (parS l).2
def beastV (l : List Nat) : Int × Int := (numV (parS l).1, numV (parS l).2)
def wordsS (l : List Nat) : List (List Nat) := spl [32] 0 [] l
theorem numT_free {s : Nat} {n : Int} (h : s ≠ 45) (h2 : s < 48 ∨ 57 < s) : s ∉ numT n := fun hm => by
  unfold numT at hm
  rcases List.mem_append.mp hm with z | z
  · by_cases hn : n < 0
    · rw [if_pos hn] at z
      exact h (List.mem_singleton.mp z)
    · rw [if_neg hn] at z
      nomatch z
  · exact numL_free h2 z
theorem parS_beast (b : Int × Int) : parS (beastT b) = (numT b.1, numT b.2) := by
  unfold parS beastT
  have := par_part1 (S := []) (rest := numT b.2) (acc := []) (numT_free (s := 58) (n := b.1) (by decide) (by decide))
  rw [show ([58] : List Nat) ++ numT b.2 = 58 :: [] ++ numT b.2 from rfl, this]
  rfl
theorem isBeast_beast {b : Int × Int} (h : 0 ≤ b.2) : isBeast (beastT b) = true := by
  unfold isBeast
  rw [parS_beast]
  show (isNumT (numT b.1) && isFig (numT b.2)) = true
  rw [isNumT_num, numT_pos h, isFig_num]
  rfl
theorem beastT_free (b : Int × Int) : 32 ∉ beastT b := fun h => by
  unfold beastT at h
  rcases List.mem_append.mp h with z | z
  · exact numT_free (by decide) (by decide) z
  · rcases List.mem_append.mp z with z | z
    · exact absurd (List.mem_singleton.mp z) (by decide)
    · exact numT_free (by decide) (by decide) z
theorem words_row {rs : List (Int × Int)} (h : rs ≠ []) : wordsS (rowT rs) = rs.map beastT :=
  spl_join (fun e => h (List.map_eq_nil_iff.mp e)) fun p hp => by
    obtain ⟨b, _, rfl⟩ := List.mem_map.mp hp
    exact beastT_free b
theorem split_words (l : List Nat) : Txt.split (mkS l) (mkS [32]) = (wordsS l).map mkS := by
  refine map_tl_inj ?_
  rw [split_spl _ _ (by decide) (kind_ok (by rw [← Array.all_toList]; decide)), List.map_map]
  show spl [32] 0 [] l = (wordsS l).map (fun x => x)
  rw [List.map_id']
  rfl
theorem part_par (l : List Nat) : Txt.partition (mkS l) (mkS [58]) = (mkS (parS l).1, (if (par [58] [] l).isSome then mkS [58] else mkS []), mkS (parS l).2) := by
  rw [partition_par _ _ (by decide)]
  unfold parS
  show (match par [58] [] l with | some (a, b) => ((mkS a, mkS [58], mkS b) : Str × Str × Str) | none => (mkS l, Str.empty, Str.empty)) = _
  cases par [58] [] l with
  | none => rfl
  | some p => rfl
theorem rem_un (l : List Nat) : Txt.removeprefix (mkS l) (mkS [45]) = mkS (unS l) := by
  refine ext_tl ?_
  unfold Txt.removeprefix
  have hs : PySem.Builtin.Str.subAt (mkS l) (mkS [45]) 0 = negS l := by
    rw [PySem.StrLaws.subAt_eq]
    show ((l.drop 0).take 1 == [45]) = negS l
    cases l with
    | nil => rfl
    | cons c r =>
      show ([c] == [45]) = negS (c :: r)
      by_cases h : c = 45
      · subst h; rfl
      · have e1 : ([c] == [45]) = false := by
          rw [beq_eq_false_iff_ne]
          intro e
          injection e with e
          exact h e
        rw [e1]
        unfold negS
        split
        · rename_i e
          injection e with e
          exact absurd e h
        · rfl
  rw [hs]
  cases l with
  | nil => rfl
  | cons c r =>
    by_cases h : c = 45
    · subst h
      show tl (Txt.affix (mkS (45 :: r)) (some (1, (mkS (45 :: r)).length))) = r
      unfold Txt.affix
      rw [len_mkS]
      have e2 : ((45 :: r).length - 1 == (45 :: r).length) = false := by
        rw [beq_eq_false_iff_ne, List.length_cons]; omega
      show tl (if ((45 :: r).length - 1 == (45 :: r).length) = true then mkS (45 :: r) else PySem.Builtin.Str.strSub (mkS (45 :: r)) 1 (45 :: r).length) = r
      rw [e2, if_neg (by decide), tl_strSub]
      show ((45 :: r).drop 1).take ((45 :: r).length - 1) = r
      exact List.take_of_length_le (by rw [List.length_drop]; exact Nat.le_refl _)
    · have e1 : negS (c :: r) = false := by
        unfold negS
        split
        · rename_i e
          injection e with e
          exact absurd e h
        · rfl
      have e2 : unS (c :: r) = c :: r := by
        unfold unS
        split
        · rename_i e
          injection e with e
          exact absurd e h
        · rfl
      rw [e1, e2]
      rfl
theorem starts_neg (l : List Nat) : Txt.startswith (mkS l) (mkS [45]) = negS l := by
  unfold Txt.startswith
  rw [PySem.StrLaws.subAt_eq, len_mkS, len_mkS]
  show (decide (0 + 1 ≤ l.length) && ((l.drop 0).take 1 == [45])) = negS l
  cases l with
  | nil => rfl
  | cons c r =>
    show (decide (0 + 1 ≤ r.length + 1) && ([c] == [45])) = _
    rw [decide_eq_true (by omega), Bool.true_and]
    by_cases h : c = 45
    · subst h; rfl
    · have e1 : ([c] == [45]) = false := by
        rw [beq_eq_false_iff_ne]
        intro e
        injection e with e
        exact h e
      rw [e1]
      unfold negS
      split
      · rename_i e
        injection e with e
        exact absurd e h
      · rfl
theorem starts_one (l : List Nat) (s : Nat) : Txt.startswith (mkS l) (mkS [s]) = decide (l.head? = some s) := by
  unfold Txt.startswith
  rw [PySem.StrLaws.subAt_eq, len_mkS, len_mkS]
  show (decide (0 + 1 ≤ l.length) && ((l.drop 0).take 1 == [s])) = _
  cases l with
  | nil => rfl
  | cons c r =>
    show (decide (0 + 1 ≤ r.length + 1) && ([c] == [s])) = decide (some c = some s)
    rw [decide_eq_true (by omega), Bool.true_and]
    by_cases h : c = s
    · subst h; simp
    · simp [h]
theorem join_mk (s : List Nat) (ls : List (List Nat)) : Txt.join (mkS s) (ls.map mkS) = mkS (joinL s ls) := by
  refine ext_tl ?_
  rw [join_eq, tl_join, List.map_map, tl_mkS, tl_mkS]
  show joinL s (ls.map fun x => x) = joinL s ls
  rw [List.map_id']
theorem joinL_nil : ∀ ls : List (List Nat), joinL [] ls = ls.flatten
  | [] => rfl
  | [p] => by show p = p ++ []; rw [List.append_nil]
  | p :: q :: r => by
    show p ++ ([] ++ joinL [] (q :: r)) = p ++ (q :: r).flatten
    rw [joinL_nil (q :: r), List.nil_append]
theorem joinL_len (s : List Nat) : ∀ ls : List (List Nat), (joinL s ls).length ≤ (ls.map List.length).sum + ls.length * s.length
  | [] => Nat.zero_le _
  | [p] => by show p.length ≤ p.length + 0 + 1 * s.length; omega
  | p :: q :: r => by
    have i := joinL_len s (q :: r)
    show (p ++ (s ++ joinL s (q :: r))).length ≤ p.length + ((q :: r).map List.length).sum + ((q :: r).length + 1) * s.length
    rw [List.length_append, List.length_append, Nat.add_mul]
    omega
theorem cutS_take {l : List Nat} {k : Nat} (h : k ≤ l.length) : cutS (mkS l) none (some (k : Int)) = mkS (l.take k) := by
  unfold cutS
  rw [HT.sIx_none, HT.sIx_nat, len_mkS, Nat.min_eq_left h]
  show mkS ((l.drop 0).take (k - 0)) = _
  rw [List.drop_zero, Nat.sub_zero]
theorem cutS_mid {l : List Nat} {a b : Nat} (h : a ≤ b) (hb : b ≤ l.length) : cutS (mkS l) (some (a : Int)) (some (b : Int)) = mkS ((l.drop a).take (b - a)) := by
  unfold cutS
  rw [HT.sIx_nat, HT.sIx_nat, len_mkS, Nat.min_eq_left hb, Nat.min_eq_left (Nat.le_trans h hb)]
  rfl
def strsV (ls : List (List Nat)) : List V := ls.map fun l => V.str (mkS l)
section
variable {K : PySem.W.Frag} {σ : L2.St} {H : Hp} {te to ta tb : TE} {l m : List Nat}
theorem strs_map (ls : List (List Nat)) : (ls.map mkS).map V.str = strsV ls := by rw [List.map_map]; rfl
theorem ev_m1 {r : V → List V → Hp → VK → Prop} {x y z : V} (h1 : Ev to σ H x) (h2 : ∀ H1, Ex H H1 → Ev te σ H1 y) (hx : ∃ a, x = .str a) (hr : ∀ H1, Ex H H1 → ∀ Q : VK, Q z H1 → r x [y] H1 Q) : Ev (tM1 r to te) σ H z := fun H1 e Q q =>
  h1 H1 e _ fun H2 e2 => ⟨hx, h2 H2 (e.trans e2) H2 (Ex.refl _) _ fun H3 e3 => hr H3 ((e.trans e2).trans e3) _ (q H3 (e2.trans e3))⟩
theorem ev_remS (h1 : Ev to σ H (.str (mkS l))) (hl : l.length ≤ 100000) : Ev (tM1 (fun x xs H Q => ∃ a b, x = .str a ∧ xs = [.str b] ∧ a.length ≤ sizeLine ∧ Q (.str (Txt.removeprefix a b)) H) to (tC (.str "-"))) σ H (.str (mkS (unS l))) :=
  ev_is (ev_m1 (y := .str (mkS [45])) h1 (fun _ _ => ev_c) ⟨_, rfl⟩ fun H1 e Q q => ⟨_, _, rfl, rfl, by rw [len_mkS]; exact sz_of hl, q⟩) (by rw [rem_un])
theorem ev_startN (h1 : Ev to σ H (.str (mkS l))) : Ev (tM1 (fun x xs H Q => ∃ a b, x = .str a ∧ xs = [.str b] ∧ Q (.bl (Txt.startswith a b)) H) to (tC (.str "-"))) σ H (.bl (negS l)) :=
  ev_is (ev_m1 (y := .str (mkS [45])) h1 (fun _ _ => ev_c) ⟨_, rfl⟩ fun H1 e Q q => ⟨_, _, rfl, rfl, q⟩) (by rw [starts_neg])
theorem ev_start0 (h1 : Ev to σ H (.str (mkS l))) : Ev (tM1 (fun x xs H Q => ∃ a b, x = .str a ∧ xs = [.str b] ∧ Q (.bl (Txt.startswith a b)) H) to (tC (.str "0"))) σ H (.bl (decide (l.head? = some 48))) :=
  ev_is (ev_m1 (y := .str (mkS [48])) h1 (fun _ _ => ev_c) ⟨_, rfl⟩ fun H1 e Q q => ⟨_, _, rfl, rfl, q⟩) (by rw [starts_one])
theorem ev_zfillS {r : Nat} (h1 : Ev to σ H (.str (mkS (numL r)))) (h2 : ∀ H1, Ex H H1 → Ev te σ H1 (.int 18)) (hr : r < 10 ^ 18) : Ev (tM1 (fun x xs H Q => ∃ (a : Str) (i : Int), x = .str a ∧ xs = [.int i] ∧ PySem.PadOk i = true ∧ Q (.str (Txt.zfill a i)) H) to te) σ H (.str (mkS (digK 18 r))) :=
  ev_is (ev_m1 h1 h2 ⟨_, rfl⟩ fun H1 e Q q => ⟨_, _, rfl, rfl, by decide, q⟩) (by rw [← zfill_num (by decide) hr]; rfl)
theorem eu_parS (h1 : Ev to σ H (.str (mkS l))) (hl : l.length ≤ 100000) : ∃ c, EvU (tM1 (fun x xs H Q => ∃ a b, x = .str a ∧ xs = [.str b] ∧ (b.length == 0) = false ∧ a.length ≤ sizeLine ∧
    ∀ p, H p = none → Q (.ref p) (upd H p (.tup [.str (Txt.partition a b).1, .str (Txt.partition a b).2.1, .str (Txt.partition a b).2.2]))) to (tC (.str ":"))) σ H [.str (mkS (parS l).1), .str c, .str (mkS (parS l).2)] :=
  ⟨(if (par [58] [] l).isSome then mkS [58] else mkS []), fun H1 e Q q => h1 H1 e _ fun H2 e2 => ⟨⟨_, rfl⟩, mkS l, mkS [58], rfl, rfl, by decide, by rw [len_mkS]; exact sz_of hl, fun p hp => by
    rw [part_par]
    exact q p _ (fresh_back e2 hp) (e2.trans (Ex.new hp)) upd_same⟩⟩
theorem el_words (h1 : Ev to σ H (.str (mkS l))) (hl : l.length ≤ 50000) : EvL (tM1 (fun x xs H Q => ∃ a b, x = .str a ∧ xs = [.str b] ∧ (b.length == 0) = false ∧ a.length + 2 ≤ sizeLine ∧ rNewStrs (Txt.split a b) H Q) to (tC (.str " "))) σ H (strsV (wordsS l)) := fun H1 e Q q =>
  h1 H1 e _ fun H2 e2 => ⟨⟨_, rfl⟩, mkS l, mkS [32], rfl, rfl, by decide, by rw [len_mkS]; exact sz_of (by omega), fun p hp => by
    rw [split_words, strs_map]
    exact q p _ (fresh_back e2 hp) (e2.trans (Ex.new hp)) upd_same⟩
theorem ev_joinS {s : List Nat} {ls : List (List Nat)} (h1 : Ev to σ H (.str (mkS s))) (h2 : ∀ H1, Ex H H1 → EvL te σ H1 (strsV ls)) (hz : (ls.map List.length).sum + ls.length * s.length ≤ 100000) :
    Ev (tM1 (fun x xs H Q => ∃ a p, ∃ ys : List Str, x = .str a ∧ xs = [.ref p] ∧ (SqL K H p (ys.map V.str) ∨ SqT K H p (ys.map V.str)) ∧ (ys.map (·.length)).sum + ys.length * a.length ≤ 16777216 ∧ Q (.str (Txt.join a ys)) H) to te) σ H (.str (mkS (joinL s ls))) := fun H1 e Q q =>
  h1 H1 e _ fun H2 e2 => ⟨⟨_, rfl⟩, h2 H2 (e.trans e2) H2 (Ex.refl _) _ fun p H3 hp e3 g3 => ⟨mkS s, p, ls.map mkS, rfl, rfl, .inl (by rw [strs_map]; exact sq_of g3), by
    have e1 : ((ls.map mkS).map fun (x : Str) => x.length) = ls.map List.length := by
      rw [List.map_map]
      exact List.map_congr_left fun x _ => len_mkS x
    rw [e1, List.length_map, len_mkS]
    omega, by
    rw [join_mk]
    exact q H3 (e2.trans e3)⟩⟩
theorem ev_catS (h1 : Ev ta σ H (.str (mkS l))) (h2 : Ev tb σ H (.str (mkS m))) (hl : l.length + m.length ≤ 100000) : Ev (tOp (fun x y H Q => ∃ i j, x = .str i ∧ y = .str j ∧ i.length + j.length ≤ sizeLine ∧ Q (.str (i ++ j)) H) ta tb) σ H (.str (mkS (l ++ m))) := by
  rw [← mkS_app]
  exact ev_op h1 h2 fun H1 e Q q => ⟨_, _, rfl, rfl, by rw [len_mkS, len_mkS]; exact sz_of hl, q H1 (Ex.refl _)⟩
theorem ev_eqS (h1 : Ev ta σ H (.str (mkS l))) (h2 : Ev tb σ H (.str (mkS m))) : Ev (tOp rEq ta tb) σ H (.bl (decide (l = m))) := by
  rw [← mkS_dec]
  exact ev_op h1 h2 (rv_eq rfl)
theorem ev_neS (h1 : Ev ta σ H (.str (mkS l))) (h2 : Ev tb σ H (.str (mkS m))) : Ev (tOp rNe ta tb) σ H (.bl (!decide (l = m))) := by
  rw [← mkS_dec]
  exact ev_op h1 h2 (rv_ne rfl)
theorem ev_slS {tl' th : TO} {lo hi : Option Int} {z : Str} (h : Ev te σ H (.str (mkS l))) (h1 : EvO tl' σ H lo) (h2 : EvO th σ H hi) (hl : l.length ≤ 100000) (hz : cutS (mkS l) lo hi = z) : Ev (tSl rSlS te tl' th) σ H (.str z) := fun H1 e Q q =>
  h H1 e _ fun H2 e2 => h1 H2 (e.trans e2) _ fun H3 e3 => h2 H3 ((e.trans e2).trans e3) _ fun H4 e4 => ⟨mkS l, rfl, by rw [len_mkS]; exact sz_of hl, by
    rw [hz]
    exact q H4 ((e2.trans e3).trans e4)⟩
theorem ev_lenS (h : Ev te σ H (.str (mkS l))) (hl : l.length ≤ 100000) : Ev (tCB (fun xs H Q => ∃ z, xs = [.str z] ∧ z.length ≤ sizeLine ∧ Q (.int z.length) H) (tCons te tNil)) σ H (.int (l.length : Int)) :=
  ev_cb (ea_cons h ea_nil) fun H1 e Q q => ⟨mkS l, rfl, by rw [len_mkS]; exact sz_of hl, by rw [len_mkS]; exact q H1 (Ex.refl _)⟩
theorem ev_strN {n : Nat} (h : Ev te σ H (.int (n : Int))) (hn : n.log2 < 1920) : Ev (tCB (fun xs H Q => ∃ i : Int, xs = [.int i] ∧ i.natAbs.log2 < 1920 ∧ Q (.str (toString i)) H) (tCons te tNil)) σ H (.str (mkS (numL n))) :=
  ev_is (ev_cb (ea_cons h ea_nil) fun H1 e Q q => ⟨(n : Int), rfl, hn, q H1 (Ex.refl _)⟩) (by
    congr 1
    exact ext_tl (tl_num n))
theorem ev_intS (h : Ev te σ H (.str (mkS l))) (hd : AllDigits l) (h0 : l ≠ []) (hl : l.length ≤ 640) : Ev (tCB (fun xs H Q => ∃ a n, xs = [.str a] ∧ PySem.intText? a = some n ∧ a.length ≤ 640 ∧ Q (.int n) H) (tCons te tNil)) σ H (.int (digitsVal l : Nat)) :=
  ev_cb (ea_cons h ea_nil) fun H1 e Q q => ⟨mkS l, (digitsVal l : Nat), rfl, intText_digits (x := mkS l) hd h0 (by rw [len_mkS]; omega), by rw [len_mkS]; exact hl, q H1 (Ex.refl _)⟩
theorem el_signs {j : Nat} {vs : List Nat} (g : Nat → V) (h : Ev ta σ H (.str (mkS l))) (hl : l.length ≤ 50000) (hw : ∀ x, wipe ((wipe σ vs).set j (some x)) vs = wipe σ vs)
    (he : ∀ c ∈ l, ∀ H1, Ex H H1 → Ev te ((wipe σ vs).set j (some (.str ⟨#[c]⟩))) H1 (g c)) : EvL (tLc (iStr ta) (gName j) tYes te vs) σ H (l.map g) := fun H0 e Q q =>
  h H0 e _ fun H1 e1 => ⟨mkS l, rfl, fun Dl hD => by
    have sz : (mkS l).cps.size = l.length := len_mkS l
    refine in_it (walk_str (z := mkS l)) (fun k H2 => Ex H1 H2 ∧ H2 Dl = some (.lst ((l.take k).map g))) ⟨Ex.new hD, upd_same⟩ (fun _ _ _ _ => True.intro) (fun k x H2 H3 hk p y => ?_) (fun H2 p => ?_)
    · obtain ⟨rfl, c, hc, rfl⟩ := y
      obtain ⟨p1, p2⟩ := p
      have hc2 : l[k]? = some c := by
        have : (mkS l).cps[k]? = l[k]? := by simp [mkS]
        rw [← this]; exact hc
      rw [sz] at hk
      refine ⟨?_, ?_⟩
      · exact hw _
      · refine et_yes H3 (Ex.refl _) _ fun H4 e4 => ?_
        rw [if_pos rfl]
        refine he c (List.mem_of_getElem? hc2) H4 (((e.trans e1).trans p1).trans e4) H4 (Ex.refl _) _ fun H5 e5 => ⟨(l.take k).map g, e5 _ _ (e4 _ _ p2), by rw [List.length_map, List.length_take]; exact sz_lt (by omega), ?_⟩
        have ek : (l.take (k + 1)).map g = (l.take k).map g ++ [g c] := by
          rw [List.take_succ, hc2, List.map_append]
          rfl
        rw [ek]
        exact ⟨((p1.trans e4).trans e5).mut hD, upd_same⟩
    · obtain ⟨p1, p2⟩ := p
      rw [sz, List.take_length] at p2
      exact q Dl H2 (fresh_back e1 hD) (e1.trans p1) p2⟩
theorem ev_signIn {c : Nat} {z : Str} (h1 : Ev ta σ H (.str ⟨#[c]⟩)) (h2 : Ev tb σ H (.str z)) : Ev (tOp (fun x y H Q => ∃ (c : Nat) (z : Str), x = .str ⟨#[c]⟩ ∧ y = .str z ∧ Q (.bl (decide (c ∈ z.cps.toList))) H) ta tb) σ H (.bl (decide (c ∈ z.cps.toList))) :=
  ev_op h1 h2 fun H1 e Q q => ⟨c, z, rfl, rfl, q H1 (Ex.refl _)⟩
end
end HH
set_option maxHeartbeats 4000000
namespace HH
open PySem PySem.Spec PyProof.Rows L2 Evl RZ
theorem step_back {L M : List Cow} (h : Step L M) : FStep M L := by
  obtain ⟨pre, post, a, b, rfl, hp, rfl⟩ := h
  refine ⟨pre, post, _, a, rfl, hp, ?_⟩
  obtain ⟨bi, bs, bt⟩ := b
  show pre ++ a :: (bi, (bs, bt)) :: post = pre ++ a :: (bi, (bs - a.2.2 + a.2.2, bt)) :: post
  rw [Int.sub_add_cancel]
theorem fstep_back {L M : List Cow} (h : FStep L M) : Step M L := by
  obtain ⟨pre, post, a, b, rfl, hp, rfl⟩ := h
  refine ⟨pre, post, b, _, rfl, ?_, ?_⟩
  · show a.2.1 + b.2.2 - b.2.2 > b.2.1
    omega
  · obtain ⟨ai, as, at'⟩ := a
    show pre ++ (ai, (as, at')) :: b :: post = pre ++ (ai, (as + b.2.2 - b.2.2, at')) :: b :: post
    rw [Int.add_sub_cancel]
theorem FSteps.back {L M : List Cow} (h : FSteps L M) : Steps M L := by
  induction h with
  | refl => exact .refl _
  | head s _ ih => exact ih.snoc (fstep_back s)
theorem Steps.back {L M : List Cow} (h : Steps L M) : FSteps M L := by
  induction h with
  | refl => exact .refl _
  | head s _ ih => exact ih.snoc (step_back s)
def rl (f : Nat → Nat) (x : Cow) : Cow := (f x.1, x.2)
def rlL (f : Nat → Nat) (L : List Cow) : List Cow := L.map (rl f)
theorem rl_rows (f : Nat → Nat) (L : List Cow) : rowsOf (rlL f L) = rowsOf L := by
  unfold rowsOf rlL
  rw [List.map_map]
  rfl
theorem Step.map {L M : List Cow} (f : Nat → Nat) (h : Step L M) : Step (rlL f L) (rlL f M) := by
  obtain ⟨pre, post, a, b, rfl, hp, rfl⟩ := h
  exact ⟨rlL f pre, rlL f post, rl f a, rl f b, by simp [rlL], hp, by simp [rlL, rl]⟩
theorem Step.unmap {f : Nat → Nat} {L0 M : List Cow} (h : Step (rlL f L0) M) : ∃ M0, Step L0 M0 ∧ M = rlL f M0 := by
  obtain ⟨pre, post, a, b, h1, hp, rfl⟩ := h
  obtain ⟨p0, r0, rfl, rfl, h2⟩ := List.map_eq_append_iff.mp h1
  obtain ⟨a0, r1, rfl, rfl, h3⟩ := List.map_eq_cons_iff.mp h2
  obtain ⟨b0, r2, rfl, rfl, rfl⟩ := List.map_eq_cons_iff.mp h3
  exact ⟨_, ⟨p0, r2, a0, b0, rfl, hp, rfl⟩, by simp [rlL, rl]⟩
theorem FStep.map {L M : List Cow} (f : Nat → Nat) (h : FStep L M) : FStep (rlL f L) (rlL f M) := step_back ((fstep_back h).map f)
theorem Steps.map {L M : List Cow} (f : Nat → Nat) (h : Steps L M) : Steps (rlL f L) (rlL f M) := by
  induction h with
  | refl => exact .refl _
  | head s _ ih => exact .head (s.map f) ih
theorem FSteps.map {L M : List Cow} (f : Nat → Nat) (h : FSteps L M) : FSteps (rlL f L) (rlL f M) := by
  induction h with
  | refl => exact .refl _
  | head s _ ih => exact .head (s.map f) ih
theorem FStep.unmap {f : Nat → Nat} {L0 M : List Cow} (h : FStep (rlL f L0) M) : ∃ M0, FStep L0 M0 ∧ M = rlL f M0 := by
  obtain ⟨pre, post, a, b, h1, hp, rfl⟩ := h
  obtain ⟨p0, r0, rfl, rfl, h2⟩ := List.map_eq_append_iff.mp h1
  obtain ⟨a0, r1, rfl, rfl, h3⟩ := List.map_eq_cons_iff.mp h2
  obtain ⟨b0, r2, rfl, rfl, rfl⟩ := List.map_eq_cons_iff.mp h3
  exact ⟨_, ⟨p0, r2, a0, b0, rfl, hp, rfl⟩, by simp [rlL, rl]⟩
theorem Steps.unmap {f : Nat → Nat} {L M : List Cow} (h : Steps L M) : ∀ {L0 : List Cow}, L = rlL f L0 → ∃ M0, Steps L0 M0 ∧ M = rlL f M0 := by
  induction h with
  | refl => exact fun e => ⟨_, .refl _, e⟩
  | head s _ ih =>
    intro L0 e
    subst e
    obtain ⟨M1, s1, e1⟩ := s.unmap
    obtain ⟨M0, s0, e0⟩ := ih e1
    exact ⟨M0, .head s1 s0, e0⟩
theorem FSteps.unmap {f : Nat → Nat} {L M : List Cow} (h : FSteps L M) : ∀ {L0 : List Cow}, L = rlL f L0 → ∃ M0, FSteps L0 M0 ∧ M = rlL f M0 := by
  induction h with
  | refl => exact fun e => ⟨_, .refl _, e⟩
  | head s _ ih =>
    intro L0 e
    subst e
    obtain ⟨M1, s1, e1⟩ := s.unmap
    obtain ⟨M0, s0, e0⟩ := ih e1
    exact ⟨M0, .head s1 s0, e0⟩
theorem nf_un {f : Nat → Nat} {L : List Cow} (h : Nf (rlL f L)) : Nf L := fun M s => h _ (s.map f)
theorem ff_un {f : Nat → Nat} {L : List Cow} (h : Ff (rlL f L)) : Ff L := fun M s => h _ (s.map f)
theorem nf_map {f : Nat → Nat} {L : List Cow} (h : Nf L) : Nf (rlL f L) := fun M s => by
  obtain ⟨M0, s0, _⟩ := s.unmap
  exact h _ s0
theorem ff_map {f : Nat → Nat} {L : List Cow} (h : Ff L) : Ff (rlL f L) := fun M s => by
  obtain ⟨M0, s0, _⟩ := s.unmap
  exact h _ s0
def ixN (l : List Nat) (i : Nat) : Nat := (l[i]?).getD 0
theorem tag_at : ∀ (k i : Nat) (rs : HH.Row), (tag k rs)[i]? = (rs[i]?).map fun b => (k + i, b)
  | _, _, [] => rfl
  | k, 0, b :: r => rfl
  | k, i + 1, b :: r => by
    show (tag (k + 1) r)[i]? = (r[i]?).map _
    rw [tag_at (k + 1) i r]
    rw [show k + 1 + i = k + (i + 1) by omega]
theorem rl_tag (L : List Cow) : rlL (ixN (L.map (·.1))) (tag 0 (rowsOf L)) = L := by
  refine List.ext_getElem? fun i => ?_
  unfold rlL
  rw [List.getElem?_map, tag_at]
  unfold rowsOf
  rw [List.getElem?_map]
  cases h : L[i]? with
  | none => rfl
  | some x =>
    show some (rl (ixN (L.map (·.1))) (0 + i, x.2)) = some x
    unfold rl ixN
    rw [Nat.zero_add, List.getElem?_map, h]
    rfl
theorem tolls_rows {L : List Cow} (h : ∀ x ∈ L, 0 ≤ x.2.2) : ∀ b ∈ rowsOf L, 0 ≤ b.2 := fun b hb => by
  obtain ⟨x, hx, rfl⟩ := List.mem_map.mp hb
  exact h x hx
theorem nf_any {L N N' : List Cow} (ht : ∀ x ∈ L, 0 ≤ x.2.2) (s : Steps L N) (n : Nf N) (s' : Steps L N') (n' : Nf N') : N = N' := by
  obtain ⟨M, t, rfl⟩ := s.unmap (rl_tag L).symm
  obtain ⟨M', t', rfl⟩ := s'.unmap (rl_tag L).symm
  rw [one_nf _ (good_tag (tolls_rows ht)) (Nat.le_refl _) t (nf_un n) t' (nf_un n')]
theorem ff_any {L N N' : List Cow} (ht : ∀ x ∈ L, 0 ≤ x.2.2) (s : FSteps L N) (n : Ff N) (s' : FSteps L N') (n' : Ff N') : N = N' := by
  obtain ⟨M, t, rfl⟩ := s.unmap (rl_tag L).symm
  obtain ⟨M', t', rfl⟩ := s'.unmap (rl_tag L).symm
  rw [one_ff _ (fgood_tag (tolls_rows ht)) (Nat.le_refl _) t (ff_un n) t' (ff_un n')]
theorem nf_is {L : List Cow} (ht : ∀ x ∈ L, 0 ≤ x.2.2) : ∃ N, Steps L N ∧ Nf N := by
  obtain ⟨N, s, n⟩ := some_nf _ (good_tag (tolls_rows ht)) (Nat.le_refl _)
  have s' := s.map (ixN (L.map (·.1)))
  rw [rl_tag] at s'
  exact ⟨_, s', nf_map n⟩
theorem ff_is {L : List Cow} (ht : ∀ x ∈ L, 0 ≤ x.2.2) : ∃ N, FSteps L N ∧ Ff N := by
  obtain ⟨N, s, n⟩ := some_ff _ (fgood_tag (tolls_rows ht)) (Nat.le_refl _)
  have s' := s.map (ixN (L.map (·.1)))
  rw [rl_tag] at s'
  exact ⟨_, s', ff_map n⟩
theorem step_tl {L M : List Cow} (h : Step L M) (ht : ∀ x ∈ L, 0 ≤ x.2.2) : ∀ x ∈ M, 0 ≤ x.2.2 := by
  obtain ⟨pre, post, a, b, rfl, hp, rfl⟩ := h
  intro x hx
  simp only [List.mem_append, List.mem_cons] at hx
  rcases hx with h | h | h | h
  · exact ht x (by simp [h])
  · subst h
    exact ht b (by simp)
  · exact ht x (by simp [h])
  · exact ht x (by simp [h])
theorem fstep_tl {L M : List Cow} (h : FStep L M) (ht : ∀ x ∈ L, 0 ≤ x.2.2) : ∀ x ∈ M, 0 ≤ x.2.2 := by
  obtain ⟨pre, post, a, b, rfl, hp, rfl⟩ := h
  intro x hx
  simp only [List.mem_append, List.mem_cons] at hx
  rcases hx with h | h | h | h
  · exact ht x (by simp [h])
  · exact ht x (by simp [h])
  · subst h
    exact ht a (by simp)
  · exact ht x (by simp [h])
theorem Steps.tl {L M : List Cow} (h : Steps L M) (ht : ∀ x ∈ L, 0 ≤ x.2.2) : ∀ x ∈ M, 0 ≤ x.2.2 := by
  induction h with
  | refl => exact ht
  | head s _ ih => exact ih (step_tl s ht)
theorem FSteps.tl {L M : List Cow} (h : FSteps L M) (ht : ∀ x ∈ L, 0 ≤ x.2.2) : ∀ x ∈ M, 0 ≤ x.2.2 := by
  induction h with
  | refl => exact ht
  | head s _ ih => exact ih (fstep_tl s ht)
theorem ends_fstep {L M E : List Cow} (ht : ∀ x ∈ L, 0 ≤ x.2.2) (s : FStep L M) (h : FSteps L E) (n : Ff E) : FSteps M E := by
  obtain ⟨N, s1, n1⟩ := ff_is (fstep_tl s ht)
  rw [ff_any ht h n (.head s s1) n1]
  exact s1
theorem ends_step {L M E : List Cow} (ht : ∀ x ∈ L, 0 ≤ x.2.2) (s : Step L M) (h : Steps L E) (n : Nf E) : Steps M E := by
  obtain ⟨N, s1, n1⟩ := nf_is (step_tl s ht)
  rw [nf_any ht h n (.head s s1) n1]
  exact s1
theorem MRun.both {L0 L E B : List Cow} {ds : List Deed} (r : MRun L0 L ds) (ht : ∀ x ∈ L0, 0 ≤ x.2.2) (hE : Steps L0 E) (nE : Nf E) (hB : FSteps L0 B) (nB : Ff B) : (∀ x ∈ L, 0 ≤ x.2.2) ∧ Steps L E ∧ FSteps L B := by
  induction r with
  | nil => exact ⟨ht, hE, hB⟩
  | pass r hp ih =>
    rename_i pre post a b ds
    have s : Step (pre ++ a :: b :: post) (pre ++ (b.1, (b.2.1 - a.2.2, b.2.2)) :: a :: post) := ⟨_, _, _, _, rfl, hp, rfl⟩
    exact ⟨step_tl s ih.1, ends_step ih.1 s ih.2.1 nE, .head (step_back s) ih.2.2⟩
  | fall r hp ih =>
    rename_i pre post a b ds
    have s : FStep (pre ++ a :: b :: post) (pre ++ b :: (a.1, (a.2.1 + b.2.2, a.2.2)) :: post) := ⟨_, _, _, _, rfl, hp, rfl⟩
    exact ⟨fstep_tl s ih.1, .head (fstep_back s) ih.2.1, ends_fstep ih.1 s ih.2.2 nB⟩
end HH
set_option maxHeartbeats 4000000
namespace HH
open PySem PySem.Spec PyProof.Rows L2 Evl RZ
structure Thru (n : Nat) (l1 l2 y : List Nat) : Prop where
  p1 : l1.Perm (List.range n)
  p2 : l2.Perm (List.range n)
  py : y.Perm (List.range n)
  e : l2 = y.map (ixN l1)
  no : ∀ {a b : Nat}, a < b → bef l1 b a = true → bef l2 b a = true → False
end HH
set_option maxHeartbeats 4000000
namespace SrtO
open PySem PySem.Spec PyProof.Rows L2
section
variable {prog : Program} {w : World} {A : Around} {E : Value → Shared → Prop} {s : Shared}
end
end SrtO
namespace HH
open PySem PySem.Spec PyProof.Rows L2 Evl RZ
section
variable {X : Cx}
end
end HH
set_option maxHeartbeats 4000000
namespace HH
open PySem PySem.Spec PyProof.Rows L2 Evl RZ
def natsD (l : List Nat) : PyData := .tuple ((l.map fun (x : Nat) => (x : Int)).map PyData.int)
theorem natsV_ints (l : List Nat) : natsV l = (l.map fun (x : Nat) => (x : Int)).map V.int := by
  unfold natsV
  rw [List.map_map]
  rfl
section
variable {K : PySem.W.Frag} {σ : L2.St} {H H' : Hp} {ta tb te : TE} {x y v : V}
theorem dp_nats {a : Addr} {l : List Nat} (h : SqT K H a (natsV l)) : Dp K H (.ref a) (natsD l) := by
  rw [natsV_ints] at h
  exact .tup h (dp_ints _)
end
end HH
set_option maxHeartbeats 4000000
namespace HH
open PySem PySem.Spec PyProof.Rows L2 Evl RZ
theorem FSteps.len {L M : List Cow} (h : FSteps L M) : M.length = L.length := by
  have := h.ids.length_eq
  rw [List.length_map, List.length_map] at this
  exact this
theorem Steps.len {L M : List Cow} (h : Steps L M) : M.length = L.length := by
  have := h.ids.length_eq
  rw [List.length_map, List.length_map] at this
  exact this
theorem FSteps.idsT {rs : HH.Row} {M : List Cow} (h : FSteps (tag 0 rs) M) : (M.map (·.1)).Perm (List.range rs.length) := by
  rw [← tag_ids]
  exact h.ids
theorem Steps.idsT {rs : HH.Row} {M : List Cow} (h : Steps (tag 0 rs) M) : (M.map (·.1)).Perm (List.range rs.length) := by
  rw [← tag_ids]
  exact h.ids
section
variable {K : PySem.W.Frag} {σ : L2.St} {H H' : Hp} {ta tb te : TE} {x y v : V} {t : TT} {tu tz : TS} {D : Ends}
end
end HH
namespace HH
open PySem PySem.Spec PyProof.Rows L2 Evl RZ
section
variable {X : Cx} {K : PySem.W.Frag}
end
end HH
namespace HH
open PySem PySem.Spec PyProof.Rows L2 Evl RZ
section
variable {K : PySem.W.Frag} {σ : L2.St} {H H' : Hp} {ta tb te : TE} {x y v : V} {Q : VK}
end
end HH
namespace HH
open PySem PySem.Spec PyProof.Rows L2 Evl RZ
section
variable {K : PySem.W.Frag} {σ : L2.St} {H H' : Hp} {ta tb te : TE} {x y v : V} {Q : VK}
end
end HH
set_option maxHeartbeats 4000000
namespace HH
open PySem PySem.Spec PyProof.Rows L2 Evl RZ
section
variable {K : PySem.W.Frag} {σ : L2.St} {H H' : Hp} {ta tb te : TE} {x y v : V} {Q : VK}
end
end HH
namespace HH
open PySem PySem.Spec PyProof.Rows L2 Evl RZ
end HH
namespace HH
open PySem PySem.Spec PyProof.Rows L2 Evl RZ
end HH
set_option maxHeartbeats 4000000
namespace HH
open PySem PySem.Spec PyProof.Rows L2 Evl RZ
theorem s_at {ts : TS} {D : Ends} {σ : L2.St} {H : Hp} (σ' : L2.St) (e : σ = σ') (k : ts D σ' H) : ts D σ H := by
  rw [e]
  exact k
end HH
set_option maxHeartbeats 4000000
namespace HH
open PySem PySem.Spec PyProof.Rows L2 Evl RZ
def barN (rs : HH.Row) (i : Nat) : Nat → Int
  | 0 => sS rs i + tS rs i
  | m + 1 => if sS rs (i + 1 + m) ≤ barN rs i m then barN rs i m + tS rs (i + 1 + m) else barN rs i m
def tsumC : List Cow → Int
  | [] => 0
  | x :: r => x.2.2 + tsumC r
def BarI (rs : HH.Row) (m : Nat) : List Cow → Prop
  | [] => True
  | x :: r => x.2.1 + x.2.2 + tsumC r = barN rs x.1 (m - x.1 - 1) ∧ BarI rs m r
def PB (s : Int) : List Cow → Prop
  | [] => True
  | x :: r => x.2.1 + x.2.2 + tsumC r < s ∧ PB s r
theorem tag_app : ∀ (k : Nat) (a b : HH.Row), tag k (a ++ b) = tag k a ++ tag (k + a.length) b
  | k, [], b => rfl
  | k, x :: a, b => by
    show (k, x) :: tag (k + 1) (a ++ b) = (k, x) :: (tag (k + 1) a ++ tag (k + (a.length + 1)) b)
    rw [tag_app (k + 1) a b, show k + 1 + a.length = k + (a.length + 1) by omega]
structure EndP (rs : HH.Row) (m : Nat) (N : List Cow) : Prop where
  st : Steps (tag 0 (rs.take m)) N
  nf : NfR N
  ba : BarI rs m N
  ids : (N.map (·.1)).Perm (List.range m)
  by' : ∀ i j : Nat, i < j → j < m → (bef (N.map (·.1)) j i = true ↔ barN rs i (j - i - 1) < sS rs j)
def nevP (rs : HH.Row) (i m : Nat) : Bool := decide (sS rs (i + 1 + m) ≤ barN rs i m)
def nevL (rs : HH.Row) (i n : Nat) : List Nat := ((List.range n).filter (nevP rs i)).map (i + 1 + ·)
end HH
set_option maxHeartbeats 4000000
namespace HH
open PySem PySem.Spec PyProof.Rows L2 Evl RZ
section
variable {K : PySem.W.Frag} {σ : L2.St} {H H' : Hp} {ta tb te : TE} {x y v : V}
end
def LowN (n : Nat) (b : Int × Int) : Prop := b.1.natAbs ≤ 10 ^ 12 * (n + 1) ∧ 0 ≤ b.2 ∧ b.2 < 10 ^ 12
theorem MRun.low {L0 L : List Cow} {ds : List Deed} (r : MRun L0 L ds) (h : ∀ x ∈ L0, LowN 0 x.2) : ∀ x ∈ L, LowN ds.length x.2 := by
  have e : (10 : Int) ^ 12 = 1000000000000 := by decide
  have e2 : (10 : Nat) ^ 12 = 1000000000000 := by decide
  induction r with
  | nil => exact h
  | pass r hp ih =>
    rename_i pre post a b ds
    intro x hx
    rw [List.length_append]
    show LowN (ds.length + 1) x.2
    have up : ∀ y, LowN ds.length y → LowN (ds.length + 1) y := fun y hy => by
      unfold LowN at hy ⊢
      rw [e2] at hy ⊢
      omega
    simp only [List.mem_append, List.mem_cons] at hx
    rcases hx with hx | hx | hx | hx
    · exact up _ (ih x (by simp [hx]))
    · subst hx
      have ha := ih a (by simp)
      have hb := ih b (by simp)
      unfold LowN at ha hb ⊢
      rw [e, e2] at ha hb ⊢
      dsimp only
      omega
    · exact up _ (ih x (by simp [hx]))
    · exact up _ (ih x (by simp [hx]))
  | fall r hp ih =>
    rename_i pre post a b ds
    intro x hx
    rw [List.length_append]
    show LowN (ds.length + 1) x.2
    have up : ∀ y, LowN ds.length y → LowN (ds.length + 1) y := fun y hy => by
      unfold LowN at hy ⊢
      rw [e2] at hy ⊢
      omega
    simp only [List.mem_append, List.mem_cons] at hx
    rcases hx with hx | hx | hx | hx
    · exact up _ (ih x (by simp [hx]))
    · exact up _ (ih x (by simp [hx]))
    · subst hx
      have ha := ih a (by simp)
      have hb := ih b (by simp)
      unfold LowN at ha hb ⊢
      rw [e, e2] at ha hb ⊢
      dsimp only
      omega
    · exact up _ (ih x (by simp [hx]))
theorem LowN.low {n : Nat} {b : Int × Int} (h : LowN n b) (hn : n ≤ 1000) : Low b := by
  unfold LowN at h
  unfold Low
  have e : (10 : Int) ^ 12 = 1000000000000 := by decide
  have e2 : (10 : Nat) ^ 12 = 1000000000000 := by decide
  have e3 : (10 : Nat) ^ 18 = 1000000000000000000 := by decide
  rw [e, e2] at h
  rw [e3]
  omega
end HH
set_option maxHeartbeats 4000000
namespace HH
open PySem PySem.Spec PyProof.Rows L2 Evl RZ
section
variable {K : PySem.W.Frag} {σ : L2.St} {H H' : Hp} {ta tb te : TE} {x y v : V}
end
end HH
set_option maxHeartbeats 4000000
namespace HH
open PySem PySem.Spec PyProof.Rows L2 Evl RZ
section
variable {X : Cx}
end
def stopAt (l : List Nat) (j : Nat) : V := if j = 0 then .non else .int (ixN l (j - 1) : Int)
structure InsR (w : Cow) (N A B : List Cow) : Prop where
  e : N = A ++ B
  st : Steps (N ++ [w]) (A ++ (w.1, (w.2.1 - tsumC B, w.2.2)) :: B)
  pb : PB w.2.1 B
theorem InsR.start (w : Cow) (N : List Cow) : InsR w N N [] := by
  refine ⟨(List.append_nil N).symm, ?_, True.intro⟩
  have e : (w.1, (w.2.1 - tsumC [], w.2.2)) = w := by
    show (w.1, (w.2.1 - 0, w.2.2)) = w
    rw [Int.sub_zero]
  rw [e]
  exact .refl _
theorem InsR.next {w a : Cow} {N A B : List Cow} (h : InsR w N (A ++ [a]) B) (hp : w.2.1 - tsumC B - a.2.2 > a.2.1) : InsR w N A (a :: B) := by
  refine ⟨by rw [h.e, List.append_assoc]; rfl, h.st.snoc ⟨A, B, a, (w.1, (w.2.1 - tsumC B, w.2.2)), by rw [List.append_assoc]; rfl, hp, ?_⟩, ⟨by omega, h.pb⟩⟩
  have e2 : w.2.1 - tsumC (a :: B) = w.2.1 - tsumC B - a.2.2 := by
    show w.2.1 - (a.2.2 + tsumC B) = _
    omega
  rw [e2]
theorem InsR.stop {w : Cow} {N A B : List Cow} (h : InsR w N A B) (n : NfR N) (t : 0 ≤ w.2.2) (la : ∀ x, A.getLast? = some x → ¬ (w.2.1 - tsumC B - x.2.2 > x.2.1)) : NfR (A ++ (w.1, (w.2.1 - tsumC B, w.2.2)) :: B) := by
  have hn := n
  rw [h.e] at hn
  refine nfr_in hn la fun b r eb => ?_
  have hb := h.pb
  subst eb
  have := hb.1
  show ¬ (b.2.1 - w.2.2 > w.2.1 - (b.2.2 + tsumC r))
  omega
end HH
set_option maxHeartbeats 4000000
namespace HH
open PySem PySem.Spec PyProof.Rows L2 Evl RZ
def MixSt (z TI TO i1 i2 a b : Addr) (i : Nat) (h : Heap) : Prop := IsZip h z TI TO .none ∧ IsTupOf2 h TI (.ref i1) (.ref i2) ∧ (∃ x y, IsTupOf2 h TO x y) ∧ h.IsListIter i1 a i ∧ h.IsTupleIter i2 b i
theorem five {c z TI TO i1 i2 : Addr} (h : c ∈ [z, TI, TO, i1, i2]) : c = z ∨ c = TI ∨ c = TO ∨ c = i1 ∨ c = i2 := by simpa using h
theorem MixSt.objs {z TI TO i1 i2 a b : Addr} {i : Nat} {h : Heap} (m : MixSt z TI TO i1 i2 a b i h) : ∀ c ∈ [z, TI, TO, i1, i2], ∃ ob, h.get? c = some ob ∧ ∀ v, ob.data ≠ .cell v := fun c hc => by
  obtain ⟨m1, m2, ⟨_, _, m3⟩, ⟨p1, g1, _, d1⟩, ⟨p2, g2, _, d2⟩⟩ := m
  rcases five hc with rfl | rfl | rfl | rfl | rfl
  · exact ⟨_, m1, fun v q => by cases q⟩
  · exact ⟨_, m2, fun v q => by cases q⟩
  · exact ⟨_, m3, fun v q => by cases q⟩
  · exact ⟨p1, g1, fun v q => by rw [d1] at q; cases q⟩
  · exact ⟨p2, g2, fun v q => by rw [d2] at q; cases q⟩
end HH
set_option maxHeartbeats 4000000
namespace HH
open PySem PySem.Spec PyProof.Rows L2 Evl RZ
def tp (rs : HH.Row) (k : Nat) : Int := tsum (rs.take k)
def wt (rs : HH.Row) (k : Nat) : Int := sS rs k - tp rs k
section
variable {K : PySem.W.Frag} {σ : L2.St} {H H' : Hp} {ta tb te : TE} {x y v : V} {t : TT}
end
section
variable {X : Cx}
end
end HH
set_option maxHeartbeats 4000000
namespace HH
open PySem PySem.Spec PyProof.Rows L2 Evl RZ
structure ListsF (H0 H : Hp) (us : List V) (ll : List (List Nat)) : Prop where
  len : us.length = ll.length
  at' : ∀ (i : Nat) (l : List Nat), ll[i]? = some l → ∃ p, us[i]? = some (.ref p) ∧ H0 p = none ∧ H p = some (.lst (natsV l))
theorem ListsF.nil {H0 H : Hp} : ListsF H0 H [] [] := ⟨rfl, fun i l h => by cases h⟩
theorem ListsF.ex {H0 H H' : Hp} {us : List V} {ll : List (List Nat)} (h : ListsF H0 H us ll) (e : Ex H H') : ListsF H0 H' us ll := ⟨h.len, fun i l hl => by
  obtain ⟨p, h1, h2, h3⟩ := h.at' i l hl
  exact ⟨p, h1, h2, e _ _ h3⟩⟩
theorem ListsF.low {H00 H0 H : Hp} {us : List V} {ll : List (List Nat)} (h : ListsF H0 H us ll) (e : Ex H00 H0) : ListsF H00 H us ll := ⟨h.len, fun i l hl => by
  obtain ⟨p, h1, h2, h3⟩ := h.at' i l hl
  exact ⟨p, h1, fresh_back e h2, h3⟩⟩
theorem ListsF.mut {H0 H : Hp} {us : List V} {ll : List (List Nat)} {D : Addr} {o o' : HO} (h : ListsF H0 H us ll) (hD : H0 D = some o) : ListsF H0 (upd H D o') us ll := ⟨h.len, fun i l hl => by
  obtain ⟨p, h1, h2, h3⟩ := h.at' i l hl
  refine ⟨p, h1, h2, ?_⟩
  rw [upd_ne (Ne.symm (ne_of_none hD h2))]
  exact h3⟩
theorem ListsF.app {H0 H : Hp} {us : List V} {ll : List (List Nat)} {p : Addr} {l : List Nat} (h : ListsF H0 H us ll) (hp : H0 p = none) (hl : H p = some (.lst (natsV l))) : ListsF H0 H (us ++ [.ref p]) (ll ++ [l]) := by
  refine ⟨by rw [List.length_append, List.length_append, h.len]; rfl, fun i m hm => ?_⟩
  by_cases hi : i < ll.length
  · rw [List.getElem?_append_left hi] at hm
    rw [List.getElem?_append_left (by rw [h.len]; exact hi)]
    exact h.at' i m hm
  · rw [List.getElem?_append_right (by omega)] at hm
    rw [List.getElem?_append_right (by rw [h.len]; omega), h.len]
    match e : i - ll.length, hm with
    | 0, hm =>
      cases hm
      exact ⟨p, rfl, hp, hl⟩
    | k + 1, hm => cases hm
def nevT (rs : HH.Row) : List (List Nat) := (List.range rs.length).map fun i => nevL rs i (rs.length - i - 1)
section
variable {X : Cx}
end
section
variable {K : PySem.W.Frag} {σ : L2.St} {H : Hp} {v : V}
end
end HH
set_option maxHeartbeats 4000000
namespace HH
open PySem PySem.Spec PyProof.Rows L2 Evl RZ
def PlainT (o : Obj) : Prop := o.cls = .type "tuple" ∧ o.dict = none
section
variable {X : Cx}
end
structure LastAtF (K : PySem.W.Frag) (H : Hp) (q : Addr) (L : List Cow) : Prop where
  ex : ∃ (v : V) (ot : Addr) (o : Obj), H q = some (.tup [v, .ref ot]) ∧ RowAt K H v (rowsOf L) ∧ H ot = some (.frz o (.tup (ordL L))) ∧ PlainT o
end HH
set_option maxHeartbeats 4000000
namespace HH
open PySem PySem.Spec PyProof.Rows L2 Evl RZ
inductive StepsN : Nat → List Cow → List Cow → Prop
  | refl (L : List Cow) : StepsN 0 L L
  | head {k : Nat} {L M N : List Cow} : Step L M → StepsN k M N → StepsN (k + 1) L N
theorem StepsN.trans {a b : Nat} {L M N : List Cow} (h : StepsN a L M) (g : StepsN b M N) : StepsN (a + b) L N := by
  induction h with
  | refl => rw [Nat.zero_add]; exact g
  | head s _ ih =>
    rename_i k L M N _
    rw [show k + 1 + b = k + b + 1 by omega]
    exact .head s (ih g)
theorem StepsN.steps {a : Nat} {L M : List Cow} (h : StepsN a L M) : Steps L M := by
  induction h with
  | refl => exact .refl _
  | head s _ ih => exact .head s ih
theorem StepsN.under {a : Nat} {L M : List Cow} (pre post : List Cow) (h : StepsN a L M) : StepsN a (pre ++ L ++ post) (pre ++ M ++ post) := by
  induction h with
  | refl => exact .refl _
  | head s _ ih => exact .head (s.under pre post) ih
theorem StepsN.map {a : Nat} {L M : List Cow} (f : Nat → Nat) (h : StepsN a L M) : StepsN a (rlL f L) (rlL f M) := by
  induction h with
  | refl => exact .refl _
  | head s _ ih => exact .head (s.map f) ih
theorem StepsN.run {a : Nat} {L0 L M : List Cow} (h : StepsN a L M) : ∀ {ps : List (Int × Int)}, PRun L0 L ps → ∃ qs, PRun L0 M qs ∧ qs.length = ps.length + a := by
  induction h with
  | refl => exact fun r => ⟨_, r, rfl⟩
  | head s _ ih =>
    intro ps r
    obtain ⟨pre, post, x, y, rfl, hp, rfl⟩ := s
    obtain ⟨qs, g1, g2⟩ := ih (r.step hp)
    refine ⟨qs, g1, ?_⟩
    rw [g2, List.length_append]
    show ps.length + 1 + _ = _
    omega
theorem StepsN.tab {a : Nat} {rs : HH.Row} {L : List Cow} (ht : ∀ b ∈ rs, 0 ≤ b.2) (h : StepsN a (tag 0 rs) L) : (tab (L.map (·.1)) rs.length rs.length).length = a := by
  obtain ⟨qs, r, e⟩ := h.run (PRun.nil)
  obtain ⟨td, _, _⟩ := r.told ht
  have ids := h.steps.ids
  rw [tag_ids] at ids
  rw [← (told_tab td fun x hx => List.mem_range.mp (ids.mem_iff.mp hx)).length_eq, e]
  show 0 + a = a
  omega
theorem tag_rl (k b : Nat) : ∀ rs : HH.Row, tag (b + k) rs = rlL (b + ·) (tag k rs) := by
  intro rs
  refine List.ext_getElem? fun i => ?_
  unfold rlL
  rw [List.getElem?_map, tag_at, tag_at]
  cases rs[i]? with
  | none => rfl
  | some x =>
    show some (b + k + i, x) = some (b + (k + i), x)
    rw [Nat.add_assoc]
end HH
set_option maxHeartbeats 4000000
namespace HH
open PySem PySem.Spec PyProof.Rows L2 Evl RZ
section
variable {X : Cx}
end
def EvP (K : PySem.W.Frag) (te : TE) (σ : L2.St) (H : Hp) (ps : HH.Row) : Prop := ∀ H1, Ex H H1 → ∀ Q : VK, (∀ (q : Addr) (us : List V) (H2 : Hp), H1 q = none → Ex H1 H2 → H2 q = some (.lst us) → Beasts K H2 us ps → Q (.ref q) H2) → te σ H1 Q
section
variable {K : PySem.W.Frag} {σ : L2.St} {H H' : Hp} {ta tb tc te : TE} {x y v : V} {Q : VK}
theorem g_at {i : Nat} {x : V} {k : L2.St → Hp → Prop} (σ' : L2.St) (e : σ.set i (some x) = σ') (h : k σ' H) : gName i x σ H k := by
  show k (σ.set i (some x)) H
  rw [e]
  exact h
end
end HH
set_option maxHeartbeats 4000000
namespace HH
open PySem PySem.Spec PyProof.Rows L2 Evl RZ
abbrev RowsA (K : PySem.W.Frag) (H : Hp) : List V → List HH.Row → Prop := All2 (RowAt K H)
theorem RowsA.ex' {K : PySem.W.Frag} {H H' : Hp} {us : List V} {rr : List HH.Row} (h : RowsA K H us rr) (e : Ex H H') : RowsA K H' us rr := All2.mono (fun _ _ r => r.ex e) h
theorem RowsA.exB' {K : PySem.W.Frag} {H H' : Hp} {us : List V} {rr : List HH.Row} {q : Addr} {ys : List V} (h : RowsA K H us rr) (e : ExB q H H') (hq : H q = some (.lst ys)) : RowsA K H' us rr := All2.mono (fun _ _ r => r.exL e hq) h
section
variable {K : PySem.W.Frag} {σ : L2.St} {H : Hp} {ta tb tc tx : TE} {Q : VK}
end
end HH
set_option maxHeartbeats 4000000
namespace HH
open PySem PySem.Spec PyProof.Rows L2 Evl RZ
section
variable {X : Cx}
end
end HH
set_option maxHeartbeats 4000000
namespace HH
open PySem PySem.Spec PyProof.Rows L2 Evl RZ
def doR (rs : HH.Row) (d : Deed) : HH.Row := if d.1 then passR rs d.2 else fallR rs d.2
def okD (rs : HH.Row) (d : Deed) : Prop := if d.1 then d.2 < rs.length ∧ letsN rs d.2 = true else d.2 + 1 < rs.length ∧ fallsN rs d.2 = true
theorem MRun.rows {L0 L : List Cow} {ds : List Deed} (r : MRun L0 L ds) : rowsOf L = ds.foldl doR (rowsOf L0) ∧ ∀ k d, ds[k]? = some d → okD ((ds.take k).foldl doR (rowsOf L0)) d := by
  induction r with
  | nil => exact ⟨rfl, fun k d h => by cases h⟩
  | pass r hp ih =>
    rename_i pre post a b ds
    obtain ⟨i1, i2⟩ := ih
    have el : pre.length = (rowsOf pre).length := (cow_len pre).symm
    refine ⟨?_, fun k d hk => ?_⟩
    · rw [List.foldl_append, ← i1]
      show _ = passR (rowsOf (pre ++ a :: b :: post)) (pre.length + 1)
      rw [rows_mid, rows_mid, el, pass_split]
    · by_cases hlt : k < ds.length
      · rw [List.getElem?_append_left hlt] at hk
        rw [List.take_append_of_le_length (by omega)]
        exact i2 k d hk
      · rw [List.getElem?_append_right (by omega)] at hk
        have e0 : k = ds.length := by
          have := (List.getElem?_eq_some_iff.mp hk).1
          simp at this
          omega
        subst e0
        rw [Nat.sub_self] at hk
        cases hk
        rw [List.take_left, ← i1]
        refine ⟨by rw [cow_len, List.length_append, List.length_cons, List.length_cons]; omega, ?_⟩
        show letsN (rowsOf (pre ++ a :: b :: post)) (pre.length + 1) = true
        rw [rows_mid, el, lets_split]
        exact decide_eq_true hp
  | fall r hp ih =>
    rename_i pre post a b ds
    obtain ⟨i1, i2⟩ := ih
    have el : pre.length = (rowsOf pre).length := (cow_len pre).symm
    refine ⟨?_, fun k d hk => ?_⟩
    · rw [List.foldl_append, ← i1]
      show _ = fallR (rowsOf (pre ++ a :: b :: post)) pre.length
      rw [rows_mid, rows_mid, el, fall_split]
    · by_cases hlt : k < ds.length
      · rw [List.getElem?_append_left hlt] at hk
        rw [List.take_append_of_le_length (by omega)]
        exact i2 k d hk
      · rw [List.getElem?_append_right (by omega)] at hk
        have e0 : k = ds.length := by
          have := (List.getElem?_eq_some_iff.mp hk).1
          simp at this
          omega
        subst e0
        rw [Nat.sub_self] at hk
        cases hk
        rw [List.take_left, ← i1]
        refine ⟨by rw [cow_len, List.length_append, List.length_cons, List.length_cons]; omega, ?_⟩
        show fallsN (rowsOf (pre ++ a :: b :: post)) pre.length = true
        rw [rows_mid, el, falls_split]
        exact decide_eq_true hp
end HH
set_option maxHeartbeats 4000000
namespace HH
open PySem PySem.Spec PyProof.Rows L2 Evl RZ
section
variable {K : PySem.W.Frag} {σ : L2.St} {H H' : Hp} {ta tb tc te tl : TE} {x y v : V} {Q : VK} {D : Ends} {tz tu : TS} {g : TG}
theorem q_forEv {xs : List V} {c : Addr} (h : Ev tl σ H (.ref c)) (hx : SqL K H c xs) (Pv : Nat → L2.St → Hp → Prop) (h0 : ∀ H1, Ex H H1 → Pv 0 σ H1) (hl : ∀ i σ' H', i ≤ xs.length → Pv i σ' H' → SqL K H' c xs)
    (hs : ∀ i x σ' H' T, xs[i]? = some x → Pv i σ' H' → H' T = none → g (.ref T) σ' (upd H' T (.tup [.int (i : Nat), x])) fun σ2 H2 => tu { D with nx := Pv (i + 1), ct := Pv (i + 1), bk := tz D } σ2 H2) (hd : ∀ σ' H', Pv xs.length σ' H' → tz D σ' H') : tSeq (tFor (iEnum K (tCons tl tNil)) g tu) tz D σ H :=
  h H (Ex.refl H) _ fun H1 e => ⟨c, xs, rfl, ex_l e hx, for_it (walk_enum (xs := xs)) (D := { D with nx := tz D }) Pv (h0 H1 e) hl (fun i x σ' H' H2 hi p y => by
    obtain ⟨T, u, z, rfl, nT, rfl, hu, hz⟩ := y
    cases hu
    exact hs i z σ' H' T hz p nT) hd⟩
end
theorem DeedAt.ex' {K : PySem.W.Frag} {H H' : Hp} {v : V} {d : Deed} (h : DeedAt K H v d) (e : Ex H H') : DeedAt K H' v d := by
  obtain ⟨p, h1, h2⟩ := h
  exact ⟨p, h1, ex_t e h2⟩
section
variable {K : PySem.W.Frag} {σ : L2.St} {H H' : Hp} {ta tb tc te tl : TE} {v : V} {D : Ends}
end
section
variable {K : PySem.W.Frag} {σ : L2.St} {H H' : Hp} {ta tb tc te tl : TE} {v : V} {D : Ends}
end
end HH
set_option maxHeartbeats 4000000
namespace HH
open PySem PySem.Spec PyProof.Rows L2 Evl RZ
end HH
set_option maxHeartbeats 4000000
namespace HH
open PySem PySem.Spec PyProof.Rows L2 Evl RZ
def PairT (H : Hp) (v : V) (b : Int × Int) : Prop := ∃ p, v = .ref p ∧ H p = some (.tup [.int b.1, .int b.2])
abbrev BeastsT (H : Hp) : List V → HH.Row → Prop := All2 (PairT H)
theorem PairT.ex {H H' : Hp} {v : V} {b : Int × Int} (h : PairT H v b) (e : Ex H H') : PairT H' v b := by
  obtain ⟨p, rfl, hp⟩ := h
  exact ⟨p, rfl, e _ _ hp⟩
theorem PairT.exB {H H' : Hp} {v : V} {b : Int × Int} {q : Addr} {ys : List V} (h : PairT H v b) (e : ExB q H H') (hq : H q = some (.lst ys)) : PairT H' v b := by
  obtain ⟨p, rfl, hp⟩ := h
  exact ⟨p, rfl, e _ _ (ne_of hp hq fun z => nomatch z) hp⟩
theorem BeastsT.ex' {H H' : Hp} {us : List V} {ps : HH.Row} (h : BeastsT H us ps) (e : Ex H H') : BeastsT H' us ps := All2.mono (fun _ _ r => r.ex e) h
theorem BeastsT.exB' {H H' : Hp} {us : List V} {ps : HH.Row} {q : Addr} {ys : List V} (h : BeastsT H us ps) (e : ExB q H H') (hq : H q = some (.lst ys)) : BeastsT H' us ps := All2.mono (fun _ _ r => r.exB e hq) h
theorem BeastsT.be {K : PySem.W.Frag} {H : Hp} : ∀ {us : List V} {ps : HH.Row}, BeastsT H us ps → Beasts K H us ps
  | _, _, .nil => Beasts.nil
  | _, _, .cons a b => by
    obtain ⟨p, rfl, hp⟩ := a
    exact Beasts.app (vs := [_]) (rs := [_]) (Beasts.one ⟨p, rfl, st_of hp⟩) (BeastsT.be b)
theorem BeastsT.at' {H : Hp} {us : List V} {ps : HH.Row} (h : BeastsT H us ps) {k : Nat} {x : V} (hx : us[k]? = some x) : ∃ b, ps[k]? = some b ∧ PairT H x b := h.get hx
def keyP (b : Int × Int) : List Key := [.inl b.1, .inl b.2]
structure PairsD (kvs : List (List Key × V)) (ps : HH.Row) : Prop where
  has : ∀ b : Int × Int, (valV kvs (keyP b)).isSome = decide (b ∈ ps)
  few : kvs.length ≤ ps.length
theorem PairsD.nil : PairsD [] [] := ⟨fun b => by rw [valV_nil]; simp, Nat.le_refl _⟩
section
variable {K : PySem.W.Frag} {σ : L2.St} {H : Hp} {ta tb te : TE} {Q : VK}
def EvPT (te : TE) (σ : L2.St) (H : Hp) (ps : HH.Row) : Prop := ∀ H1, Ex H H1 → ∀ Q : VK, (∀ (q : Addr) (us : List V) (H2 : Hp), H1 q = none → Ex H1 H2 → H2 q = some (.lst us) → BeastsT H2 us ps → Q (.ref q) H2) → te σ H1 Q
theorem EvPT.ep {ps : HH.Row} (h : EvPT te σ H ps) : EvP K te σ H ps := fun H1 e1 Q q => h H1 e1 Q fun a us H2 ha e2 g2 bs => q a us H2 ha e2 g2 bs.be
end
section
variable {K : PySem.W.Frag} {σ : L2.St} {H : Hp} {ta : TE} {v : V} {E : XK}
end
theorem q_run {te : TE} {i : Nat} {tz : TS} {D : Ends} {σ : L2.St} {H : Hp} (h : te σ H fun x H1 => tz D (σ.set i (some x)) H1) : tSeq (tAsg te (gName i)) tz D σ H := h
end HH
set_option maxHeartbeats 4000000
namespace HH
open PySem PySem.Spec PyProof.Rows L2 Evl RZ
def tabPR (p : Nat → Nat → Bool) (i m : Nat) : HH.Row := ((List.range m).filter (p i)).map fun k => ((i : Int), ((i + 1 + k : Nat) : Int))
def tabP (p : Nat → Nat → Bool) (n m : Nat) : HH.Row := (List.range m).flatMap fun i => tabPR p i (n - (i + 1))
def keepP (e b : List Nat) (i k : Nat) : Bool := !inP e i k && !inP b i k
end HH
set_option maxHeartbeats 4000000
namespace HH
open PySem PySem.Spec PyProof.Rows L2 Evl RZ
abbrev PrT := Hp → V → Int × Int → Prop
structure Stb (R : PrT) : Prop where
  ex : ∀ {H H' : Hp} {x : V} {b : Int × Int}, Ex H H' → R H x b → R H' x b
  ls : ∀ {H : Hp} {D : Addr} {xs ys : List V} {x : V} {b : Int × Int}, H D = some (.lst xs) → R H x b → R (upd H D (.lst ys)) x b
theorem Stb.all {R : PrT} (s : Stb R) {H H' : Hp} (e : Ex H H') {us : List V} {ps : HH.Row} (h : All2 (R H) us ps) : All2 (R H') us ps := All2.mono (fun _ _ r => s.ex e r) h
theorem beasts_2 {K : PySem.W.Frag} {H : Hp} : ∀ {us : List V} {ps : HH.Row}, Beasts K H us ps → All2 (BeastAt K H) us ps
  | [], [], _ => .nil
  | [], _ :: _, h => by cases h.1
  | _ :: _, [], h => by cases h.1
  | v :: vs, b :: rs, h => .cons h.uncons.1 (beasts_2 h.uncons.2)
section
variable {K : PySem.W.Frag} {σ : L2.St} {H : Hp} {ta tb te : TE} {t : TT} {R : PrT}
end
end HH
set_option maxHeartbeats 4000000
namespace HH
open PySem PySem.Spec PyProof.Rows L2 Evl
def ZipA (H : Hp) (us : List V) (ps : List (V × V)) : Prop := All2 (fun u p => ∃ T, u = .ref T ∧ H T = some (.tup [p.1, p.2])) us ps
theorem ZipA.ex {H H' : Hp} {us : List V} {ps : List (V × V)} (h : ZipA H us ps) (e : Ex H H') : ZipA H' us ps := All2.mono (fun _ _ ⟨T, a, b⟩ => ⟨T, a, e _ _ b⟩) h
def ZS (h : Heap) (H : Hp) (z TI TO i1 i2 a b : Addr) (i : Nat) : Prop := IsPair h TI (.ref i1) (.ref i2) ∧ h.IsListIter i1 a i ∧ h.IsListIter i2 b i ∧
  ((IsZip h z TI TO .none ∧ ∃ x y, IsPair h TO x y) ∨ ∃ (T : Addr) (f : Bool) (p q : V), IsZipHeld h z TI TO T f ∧ H T = some (.tup [p, q]) ∧ ∃ o, h.get? TO = some o)
section
variable {X : Cx} {pins : List (Addr × Obj)} {σ : L2.St} {H H0 : Hp} {s : Shared} {z TI TO i1 i2 a b q : Addr} {xs ys : List V} {A A1 : Around} {E : Value → Shared → Prop}
abbrev FpL (X : Cx) (pins : List (Addr × Obj)) (H : Hp) (l : List Addr) : Prop := ∀ c ∈ l, FpOk X pins H c
theorem FpL.up {l : List Addr} {T : Addr} {o : HO} (h : FpL X pins H l) (ne : ∀ c ∈ l, c ≠ T) : FpL X pins (upd H T o) l := fun c hc => by
  obtain ⟨f0, f1⟩ := h c hc
  exact ⟨by rw [upd_ne (ne c hc)]; exact f0, f1⟩
theorem ZS.type {i : Nat} (h : ZS s.heap H z TI TO i1 i2 a b i) : s.TypeIs (.ref z) "zip" := by
  obtain ⟨_, _, _, h | h⟩ := h
  · exact ⟨_, h.1, rfl⟩
  · obtain ⟨_, _, _, _, h, _⟩ := h
    exact ⟨_, h, rfl⟩
theorem ZS.keep {h h' : Heap} {H' : Hp} {i : Nat} (st : ZS h H z TI TO i1 i2 a b i) (k : ∀ c ∈ [z, TI, TO, i1, i2], ∀ o, h.get? c = some o → h'.get? c = some o) (kH : ∀ T p q, H T = some (.tup [p, q]) → H' T = some (.tup [p, q])) : ZS h' H' z TI TO i1 i2 a b i := by
  obtain ⟨t, a1, a2, g⟩ := st
  refine ⟨k TI (by simp) _ t, a1.at fun o e => k i1 (by simp) o e, a2.at fun o e => k i2 (by simp) o e, ?_⟩
  rcases g with ⟨g1, x, y, g2⟩ | ⟨T, f, p, q, g1, g2, o, g3⟩
  · exact .inl ⟨k z (by simp) _ g1, x, y, k TO (by simp) _ g2⟩
  · exact .inr ⟨T, f, p, q, k z (by simp) _ g1, kH _ _ _ g2, o, k TO (by simp) _ g3⟩
end
end HH
set_option maxHeartbeats 4000000
namespace HH
open PySem PySem.Spec PyProof.Rows L2 Evl
structure Went (K : PySem.W.Frag) (H : Hp) (v : V) (o : Addr) (rs : HH.Row) (L : List Cow) : Prop where
  row : RowAt K H v rs
  len : rs.length ≤ 30
  tl : ∀ b ∈ rs, 0 ≤ b.2
  ord : SqT K H o (natsV (L.map (·.1)))
  run : ∃ ds, MRun (tag 0 rs) L ds
theorem Went.ex {K : PySem.W.Frag} {H H' : Hp} {v : V} {o : Addr} {rs : HH.Row} {L : List Cow} (h : Went K H v o rs L) (e : Ex H H') : Went K H' v o rs L := ⟨h.row.ex e, h.len, h.tl, ex_t e h.ord, h.run⟩
theorem run_ids {rs : HH.Row} {L : List Cow} {ds : List Deed} (tl : ∀ b ∈ rs, 0 ≤ b.2) (r : MRun (tag 0 rs) L ds) : (L.map (·.1)).Perm (List.range rs.length) := by
  obtain ⟨E, sE, nE⟩ := nf_is (good_tag tl).tl
  obtain ⟨B, sB, nB⟩ := ff_is (good_tag tl).tl
  exact ((r.both (good_tag tl).tl sE nE sB nB).2.1).ids.symm.trans sE.idsT
theorem Went.ids {K : PySem.W.Frag} {H : Hp} {v : V} {o : Addr} {rs : HH.Row} {L : List Cow} (h : Went K H v o rs L) : (L.map (·.1)).Perm (List.range rs.length) := by
  obtain ⟨ds, r⟩ := h.run
  exact run_ids h.tl r
theorem Went.nd {K : PySem.W.Frag} {H : Hp} {v : V} {o : Addr} {rs : HH.Row} {L : List Cow} (h : Went K H v o rs L) : (L.map (·.1)).Nodup := h.ids.nodup_iff.mpr List.nodup_range
theorem Went.lenL {K : PySem.W.Frag} {H : Hp} {v : V} {o : Addr} {rs : HH.Row} {L : List Cow} (h : Went K H v o rs L) : (L.map (·.1)).length = rs.length := by rw [h.ids.length_eq, List.length_range]
theorem Went.all {K : PySem.W.Frag} {H : Hp} {v : V} {o : Addr} {rs : HH.Row} {L : List Cow} (h : Went K H v o rs L) (x : Nat) (hx : x < (L.map (·.1)).length) : x ∈ L.map (·.1) := h.ids.mem_iff.mpr (List.mem_range.mpr (by rw [← h.lenL]; exact hx))
end HH
set_option maxHeartbeats 4000000
namespace HH
open PySem PySem.Spec PyProof.Rows Srt SrtO
def IsDeed (h : Heap) (v : Value) (b : Bool) (y : Int) : Prop := ∃ a o t u n, v = .ref a ∧ h.get? a = some o ∧ o.cls = .type "tuple" ∧ o.data = .seq #[.str (wordOf b) t, .int y u] n
theorem IsDeed.keeps {h h' : Heap} {v : Value} {b : Bool} {y : Int} (p : IsDeed h v b y) (k : ∀ b o, h.get? b = some o → o.cls = .type "tuple" → h'.get? b = some o) : IsDeed h' v b y := by
  obtain ⟨a, o, t, u, n, e, ho, hc, hd⟩ := p
  exact ⟨a, o, t, u, n, e, k _ _ ho hc, hc, hd⟩
section
variable {prog : Program} {w : World} {A : Around} {E : Value → Shared → Prop} {s : Shared}
end
open L2 Evl
open Classical in
section
variable {X : Cx}
end
end HH
set_option maxHeartbeats 4000000
namespace HH
open PySem PySem.Spec PyProof.Rows L2 Evl
end HH
set_option maxHeartbeats 4000000
namespace HH
open PySem PySem.Spec PyProof.Rows Srt SrtO
def IsInts (h : Heap) (v : Value) (ns : List Int) : Prop := ∃ a o its n, v = .ref a ∧ h.get? a = some o ∧ o.cls = .type "tuple" ∧ o.data = .seq its n ∧ IntsAre its.toList ns ∧ ns ≠ []
theorem IsInts.keeps {h h' : Heap} {v : Value} {ns : List Int} (p : IsInts h v ns) (k : ∀ b o, h.get? b = some o → o.cls = .type "tuple" → h'.get? b = some o) : IsInts h' v ns := by
  obtain ⟨a, o, t, n, e, ho, hc, hd, hi⟩ := p
  exact ⟨a, o, t, n, e, k _ _ ho hc, hc, hd, hi⟩
section
variable {prog : Program} {w : World} {A : Around} {E : Value → Shared → Prop} {s : Shared}
end
end HH
set_option maxHeartbeats 4000000
namespace HH
open PySem PySem.Spec PyProof.Rows Srt SrtO L2
open Classical in
def keyI (ns : List Int) : List Key := ns.map Sum.inl
theorem keyI_V (ns : List Int) : (keyI ns).map kV = ns.map V.int := by
  unfold keyI
  rw [List.map_map]
  rfl
end HH
set_option maxHeartbeats 4000000
namespace HH
open PySem PySem.Spec PyProof.Rows L2 Evl
section
variable {e : List Nat} {rs ps : HH.Row} {i j n : Nat}
end
end HH
set_option maxHeartbeats 4000000
namespace HH
open PySem PySem.Spec PyProof.Rows L2 Evl
structure Keeps (rs : HH.Row) (o : List Nat) : Prop where
  ids : o.Perm (List.range rs.length)
  kp : ∀ E B, Steps (tag 0 rs) E → Nf E → FSteps (tag 0 rs) B → Ff B → ∀ i j, i < j → j < rs.length → bef (E.map (·.1)) j i = false → bef (B.map (·.1)) j i = false → bef o j i = false
theorem Keeps.nd {rs : HH.Row} {o : List Nat} (k : Keeps rs o) : o.Nodup := k.ids.nodup_iff.mpr List.nodup_range
theorem Keeps.len {rs : HH.Row} {o : List Nat} (k : Keeps rs o) : o.length = rs.length := by rw [k.ids.length_eq, List.length_range]
end HH
set_option maxHeartbeats 4000000
namespace HH
open PySem PySem.Spec PyProof.Rows L2 Evl
structure CellP (H0 H : Hp) (as : List Addr) (t p : Nat → Int) : Prop where
  nd : as.Nodup
  old : ∀ a ∈ as, H0 a = none
  at' : ∀ (i : Nat) (a : Addr), as[i]? = some a → H a = some (.lst [.int (t i), .int (p i)])
theorem CellP.ex {H0 H H' : Hp} {as : List Addr} {t p : Nat → Int} (h : CellP H0 H as t p) (e : Ex H H') : CellP H0 H' as t p := ⟨h.nd, h.old, fun i a ha => e _ _ (h.at' i a ha)⟩
theorem CellP.off {H0 H : Hp} {as : List Addr} {t p : Nat → Int} {D : Addr} {o : HO} (h : CellP H0 H as t p) (n : D ∉ as) : CellP H0 (upd H D o) as t p := ⟨h.nd, h.old, fun i a ha => by
  rw [upd_ne (fun z => n (by rw [← z]; exact List.mem_of_getElem? ha))]
  exact h.at' i a ha⟩
theorem CellP.app {H0 H : Hp} {as : List Addr} {T : Addr} (h : CellP H0 H as (fun _ => 0) (fun _ => 0)) (h0 : H0 T = none) (hT : H T = none) : CellP H0 (upd H T (.lst [.int 0, .int 0])) (as ++ [T]) (fun _ => 0) (fun _ => 0) := by
  have nT : T ∉ as := fun m => by
    obtain ⟨i, hi⟩ := List.getElem?_of_mem m
    rw [h.at' i T hi] at hT
    cases hT
  refine ⟨List.nodup_append.mpr ⟨h.nd, by simp, fun x hx y hy e => nT (by rw [List.mem_singleton] at hy; rw [← hy, ← e]; exact hx)⟩, fun a ha => ?_, fun i a ha => ?_⟩
  · rcases List.mem_append.mp ha with m | m
    · exact h.old a m
    · rw [List.mem_singleton.mp m]
      exact h0
  · by_cases c : i < as.length
    · rw [List.getElem?_append_left c] at ha
      rw [upd_ne (fun z => nT (by rw [← z]; exact List.mem_of_getElem? ha))]
      exact h.at' i a ha
    · have hlt : i < (as ++ [T]).length := (List.getElem?_eq_some_iff.mp ha).1
      rw [List.length_append] at hlt
      have hlt : i < as.length + 1 := hlt
      have e : i = as.length := by omega
      rw [e, List.getElem?_append_right (Nat.le_refl _), Nat.sub_self] at ha
      cases ha
      exact upd_same
theorem CellP.ne {H0 H : Hp} {as : List Addr} {t p : Nat → Int} (h : CellP H0 H as t p) {i k : Nat} {a c : Addr} (ha : as[i]? = some a) (hc : as[k]? = some c) (n : k ≠ i) : c ≠ a := fun z => by
  subst z
  have h1 := (List.getElem?_eq_some_iff.mp ha).1
  exact n ((List.getElem?_inj h1 h.nd).mp (ha.trans hc.symm)).symm
section
variable {K : PySem.W.Frag} {σ : L2.St} {H : Hp} {te : TE} {v : V} {Q : VK} {j : Nat} {vs : List Nat}
end
section
variable {K : PySem.W.Frag} {σ : L2.St} {H H0 : Hp} {tf tx tv : TE} {D : Ends} {fa a : Addr} {as : List Addr} {t p : Nat → Int} {i : Nat} {d : Int}
end
end HH
set_option maxHeartbeats 4000000
namespace HH
open PySem PySem.Spec PyProof.Rows L2 Evl
section
variable {e : List Nat} {rs ps : HH.Row} {i j n : Nat}
end
section
variable {K : PySem.W.Frag} {σ : L2.St} {H : Hp} {te t1 t2 : TE} {o : Addr} {l : List Nat} {j : Nat} {vs : List Nat}
end
end HH
set_option maxHeartbeats 4000000
namespace HH
open PySem PySem.Spec PyProof.Rows L2 Evl RZ
end HH
set_option maxHeartbeats 4000000
namespace HH
open PySem PySem.Spec PyProof.Rows L2 Evl RZ
section
variable {K : PySem.W.Frag} {σ : L2.St} {H H' : Hp} {ta tb te : TE} {v : V}
end
structure TabAt (K : PySem.W.Frag) (H : Hp) (t : Addr) (ll : List (List Nat)) : Prop where
  ex : ∃ (us : List V), SqL K H t us ∧ us.length = ll.length ∧ ∀ (i : Nat) (l : List Nat), ll[i]? = some l → ∃ p, us[i]? = some (.ref p) ∧ SqL K H p (natsV l)
theorem TabAt.mono {K : PySem.W.Frag} {H H' : Hp} {t : Addr} {ll : List (List Nat)} (h : TabAt K H t ll) (e : Ex H H') : TabAt K H' t ll := by
  obtain ⟨us, h1, h2, h3⟩ := h.ex
  exact ⟨us, ex_l e h1, h2, fun i l hl => by
    obtain ⟨p, g1, g2⟩ := h3 i l hl
    exact ⟨p, g1, ex_l e g2⟩⟩
theorem TabAt.of {K : PySem.W.Frag} {H0 H : Hp} {t : Addr} {us : List V} {ll : List (List Nat)} (h : SqL K H t us) (f : ListsF H0 H us ll) : TabAt K H t ll := ⟨us, h, f.len, fun i l hl => by
  obtain ⟨p, g1, _, g3⟩ := f.at' i l hl
  exact ⟨p, g1, sq_of g3⟩⟩
section
variable {K : PySem.W.Frag} {σ : L2.St} {H H' : Hp} {ta tb te : TE} {v : V}
theorem TabAt.row {t : Addr} {ll : List (List Nat)} {i : Nat} {l : List Nat} (h : TabAt K H t ll) (hl : ll[i]? = some l) (h1 : Ev ta σ H (.ref t)) (h2 : Ev tb σ H (.int (i : Int))) : ∃ p, Ev (tOp (rIxL K) ta tb) σ H (.ref p) ∧ SqL K H p (natsV l) := by
  obtain ⟨us, g1, g2, g3⟩ := h.ex
  obtain ⟨p, q1, q2⟩ := g3 i l hl
  exact ⟨p, ev_op h1 h2 (rv_ixL (K := K) g1 (atI_nat q1)), q2⟩
end
end HH
set_option maxHeartbeats 4000000
namespace HH
open PySem PySem.Spec PyProof.Rows L2 Evl RZ
def putR (rs : HH.Row) (w : Nat) (b : Int × Int) : HH.Row := rs.take w ++ [b] ++ rs.drop (w + 1)
def fedR (rs : HH.Row) (w : Nat) (d : Int) : HH.Row := putR rs w (sS rs w + d, tS rs w)
section
variable {K : PySem.W.Frag} {σ : L2.St} {H : Hp} {ta tb te te2 : TE} {t : TT} {R : PrT} {v : V}
end
end HH
set_option maxHeartbeats 4000000
namespace HH
open PySem PySem.Spec PyProof.Rows L2 Evl RZ
section
variable {K : PySem.W.Frag} {σ : L2.St} {H : Hp} {v : V}
end
end HH
set_option maxHeartbeats 4000000
namespace HH
open PySem PySem.Spec PyProof.Rows L2 Evl RZ
def aheadP (rs : HH.Row) (w j : Nat) : Bool := if j < w then !decide (barN rs j (w - j - 1) < sS rs w) else if w < j then decide (barN rs w (j - w - 1) < sS rs j) else false
def placeN (rs : HH.Row) (w : Nat) : Nat := (List.range rs.length).countP (aheadP rs w)
structure LeastF (rs : HH.Row) (w k : Nat) (F : Int) : Prop where
  nn : 0 ≤ F
  at' : placeN (fedR rs w F) w ≤ k
  no : ∀ f, 0 ≤ f → f < F → k < placeN (fedR rs w f) w
theorem LeastF.one {rs : HH.Row} {w k : Nat} {F G : Int} (a : LeastF rs w k F) (b : LeastF rs w k G) : F = G := by
  rcases Int.lt_trichotomy F G with h | h | h
  · have := b.no F a.nn h
    have := a.at'
    omega
  · exact h
  · have := a.no G b.nn h
    have := b.at'
    omega
end HH
set_option maxHeartbeats 4000000
namespace HH
open PySem PySem.Spec PyProof.Rows L2 Evl RZ
def CowAt (H : Hp) (v : V) (c : Cow) : Prop := ∃ p, v = .ref p ∧ H p = some (.tup [.int (c.1 : Int), .int c.2.1, .int c.2.2])
theorem CowAt.ex {H H' : Hp} {v : V} {c : Cow} (h : CowAt H v c) (e : Ex H H') : CowAt H' v c := by
  obtain ⟨p, rfl, hp⟩ := h
  exact ⟨p, rfl, e _ _ hp⟩
theorem CowAt.ls {H : Hp} {v : V} {c : Cow} {D : Addr} {xs ys : List V} (h : CowAt H v c) (hD : H D = some (.lst xs)) : CowAt (upd H D (.lst ys)) v c := by
  obtain ⟨p, rfl, hp⟩ := h
  refine ⟨p, rfl, ?_⟩
  rw [upd_ne (ne_of hp hD fun z => nomatch z)]
  exact hp
theorem All2.split {α : Type} {R : V → α → Prop} : ∀ {A B : List α} {us : List V}, All2 R us (A ++ B) → ∃ u1 u2, us = u1 ++ u2 ∧ All2 R u1 A ∧ All2 R u2 B
  | [], B, us, h => ⟨[], us, rfl, .nil, h⟩
  | a :: A, B, _, .cons r h => by
    obtain ⟨u1, u2, rfl, h1, h2⟩ := All2.split (A := A) h
    exact ⟨_ :: u1, u2, rfl, .cons r h1, h2⟩
section
variable {K : PySem.W.Frag} {σ : L2.St} {H : Hp} {tl : TE} {D : Ends} {tz tu : TS} {g : TG}
end
section
variable {K : PySem.W.Frag} {σ : L2.St} {H : Hp} {te te2 : TE} {t : TT} {v : V}
end
end HH
set_option maxHeartbeats 4000000
namespace HH
open PySem PySem.Spec PyProof.Rows L2
section
variable {w : World} {P : Program} {s : Shared} {A : Around} {E : Value → Shared → Prop}
end
section
variable {X : Cx}
end
end HH
set_option maxHeartbeats 4000000
namespace HH
open PySem PySem.Spec PyProof.Rows L2 Evl RZ
noncomputable def lf (rs : HH.Row) (w k : Nat) : Int := by
  classical
  exact if h : ∃ F, LeastF rs w k F then Classical.choose h else 0
end HH
set_option maxHeartbeats 4000000
namespace HH
open PySem PySem.Spec PyProof.Rows L2 Evl RZ
structure Cells (H0 H : Hp) (as : List Addr) (ll : Nat → List Nat) : Prop where
  nd : as.Nodup
  old : ∀ a ∈ as, H0 a = none
  at' : ∀ (i : Nat) (a : Addr), as[i]? = some a → H a = some (.lst (natsV (ll i)))
theorem Cells.ex {H0 H H' : Hp} {as : List Addr} {ll : Nat → List Nat} (h : Cells H0 H as ll) (e : Ex H H') : Cells H0 H' as ll := ⟨h.nd, h.old, fun i a ha => e _ _ (h.at' i a ha)⟩
theorem Cells.congr {H0 H : Hp} {as : List Addr} {ll lm : Nat → List Nat} (h : Cells H0 H as ll) (e : ∀ i, i < as.length → lm i = ll i) : Cells H0 H as lm := ⟨h.nd, h.old, fun i a ha => by
  rw [e i (List.getElem?_eq_some_iff.mp ha).1]
  exact h.at' i a ha⟩
theorem Cells.app {H0 H : Hp} {as : List Addr} {p : Addr} (h : Cells H0 H as fun _ => []) (h0 : H0 p = none) (hp : H p = none) : Cells H0 (upd H p (.lst [])) (as ++ [p]) fun _ => [] := by
  have np : p ∉ as := fun z => by
    obtain ⟨i, hi⟩ := List.mem_iff_getElem?.mp z
    have := h.at' i p hi
    rw [hp] at this
    cases this
  refine ⟨?_, fun a ha => ?_, fun i a ha => ?_⟩
  · rw [List.nodup_append]
    exact ⟨h.nd, List.pairwise_singleton _ p, fun a ha b hb e => np (by rw [List.mem_singleton.mp hb] at e; rw [← e]; exact ha)⟩
  · rcases List.mem_append.mp ha with ha | ha
    · exact h.old a ha
    · rw [List.mem_singleton.mp ha]
      exact h0
  · by_cases hi : i < as.length
    · rw [List.getElem?_append_left hi] at ha
      have ne : a ≠ p := fun e => np (by rw [← e]; exact List.mem_of_getElem? ha)
      rw [upd_ne ne]
      exact h.at' i a ha
    · rw [List.getElem?_append_right (by omega)] at ha
      match e : i - as.length, ha with
      | 0, ha =>
        cases ha
        exact upd_same
      | k + 1, ha => cases ha
section
variable {K : PySem.W.Frag} {σ : L2.St} {H : Hp} {D : Ends} {tz tu : TS}
end
end HH
set_option maxHeartbeats 4000000
namespace HH
open PySem PySem.Spec PyProof.Rows L2 Evl RZ
structure WantsD (rs : HH.Row) (who m : Nat) (kvs : List (Key × V)) : Prop where
  val : ∀ j : Nat, who ≤ j + m → j < who → valV kvs (.inl (j : Int)) = some (.int (barN rs j (who - j - 1) + 1))
  key : ∀ kv ∈ kvs, ∃ j : Nat, kv.1 = .inl (j : Int) ∧ j < who ∧ who ≤ j + m
  len : kvs.length ≤ m
theorem WantsD.nil (rs : HH.Row) (who : Nat) : WantsD rs who 0 [] := ⟨fun j h1 h2 => by omega, (fun kv h => nomatch h), Nat.le_refl _⟩
end HH
set_option maxHeartbeats 4000000
namespace HH
open PySem PySem.Spec PyProof.Rows L2 Evl RZ
section
variable {K : PySem.W.Frag} {σ : L2.St} {H H' : Hp} {ta tb te : TE} {v : V} {Q : VK}
end
end HH
set_option maxHeartbeats 4000000
namespace HH
open PySem PySem.Spec PyProof.Rows L2 Evl RZ
section
variable {K : PySem.W.Frag} {σ : L2.St} {H : Hp} {te ta tb : TE} {t : TT}
end
end HH
namespace HH
open PySem PySem.Spec PyProof.Rows L2 Evl RZ
section
variable {K : PySem.W.Frag} {σ : L2.St} {H : Hp} {te : TE}
end
end HH
namespace HH
open PySem PySem.Spec PyProof.Rows L2 Evl RZ
end HH
namespace HH
open PySem PySem.Spec PyProof.Rows L2 Evl RZ
end HH
set_option maxHeartbeats 4000000
namespace HH
open PySem PySem.Spec PyProof.Rows L2 Evl
end HH
set_option maxHeartbeats 4000000
namespace HH
open PySem PySem.Spec PyProof.Rows L2 Evl
def Again (l1 l2 s : List Nat) : Prop := l2 = s.map (ixN l1) ∧ ∀ x ∈ s, x < l1.length
def adjL (l : List Nat) (n : Nat) : List Nat := (List.range n).filter fun p => bef l (p + 1) p
def fallB (rs : HH.Row) (p : Nat) : Bool := decide (p + 1 < rs.length) && fallsN rs p
def nearD (rs : HH.Row) (l : List Nat) : List Deed := ((adjL l (rs.length - 1)).filter (fallB rs)).map (fun p => (false, p)) ++ ((adjL l (rs.length - 1)).filter fun p => letsN rs (p + 1)).map (fun p => (true, p + 1))
end HH
set_option maxHeartbeats 4000000
namespace HH
open PySem PySem.Spec PyProof.Rows L2 Evl
def FrzT (H : Hp) (a : Addr) (xs : List V) : Prop := ∃ o, PlainT o ∧ H a = some (.frz o (.tup xs))
theorem FrzT.ex {H H' : Hp} {a : Addr} {xs : List V} (h : FrzT H a xs) (e : Ex H H') : FrzT H' a xs := by
  obtain ⟨o, h1, h2⟩ := h
  exact ⟨o, h1, e _ _ h2⟩
theorem FrzT.exB {H H' : Hp} {p a : Addr} {xs : List V} {n : Nat} (h : FrzT H a xs) (e : ExB p H H') (hb : Bx H p n) : FrzT H' a xs := by
  obtain ⟨o, h1, h2⟩ := h
  obtain ⟨l, hl⟩ := hb.lst
  refine ⟨o, h1, e _ _ (fun z => ?_) h2⟩
  rw [z, hl] at h2
  cases h2
theorem FrzT.sq {K : PySem.W.Frag} {H : Hp} {a : Addr} {xs : List V} (h : FrzT H a xs) : SqT K H a xs := by
  obtain ⟨o, _, h2⟩ := h
  exact .inl (.inr ⟨o, h2⟩)
section
variable {K : PySem.W.Frag} {σ : L2.St} {H : Hp} {te t1 t2 : TE} {tt : TT} {o : Addr} {l : List Nat} {j : Nat} {vs : List Nat}
end
section
variable {K : PySem.W.Frag} {σ : L2.St} {H : Hp} {te t1 : TE} {o : Addr} {l : List Nat} {j : Nat} {vs : List Nat}
end
theorem natsV_int (l : List Nat) : natsV l = (l.map fun (x : Nat) => (x : Int)).map V.int := by
  rw [List.map_map]
  rfl
end HH
set_option maxHeartbeats 4000000
namespace HH
open PySem PySem.Spec PyProof.Rows L2 Evl
abbrev KB := List (List Key × Addr × V)
def kvX (kb : KB) : List (List Key × V) := kb.map fun p => (p.1, p.2.2)
abbrev KX : KB → List (List Key × Addr × Value) → Prop := Paired fun p q => p.1 = q.1 ∧ p.2.1 = q.2.1 ∧ RelV p.2.2 q.2.2
theorem KX.val {kb : KB} {xs : List (List Key × Addr × Value)} (r : KX kb xs) (k : List Key) : RelO (valV (kvX kb) k) ((atKey xs k).map (·.2)) := by
  induction r with
  | nil => exact True.intro
  | @cons p q ps qs h t ih =>
    obtain ⟨h1, _, h2⟩ := h
    by_cases e : p.1 = k
    · have e' : q.1 = k := h1.symm.trans e
      have b : atKey (q :: qs) k = some q.2 := by simp [atKey, List.find?_cons, e']
      rw [b, show kvX (p :: ps) = (p.1, p.2.2) :: kvX ps from rfl, valV_pos (p := (p.1, p.2.2)) (r := kvX ps) e]
      exact h2
    · have e' : ¬ q.1 = k := fun z => e (h1.trans z)
      have b : atKey (q :: qs) k = atKey qs k := by simp [atKey, List.find?_cons, e']
      rw [b, show kvX (p :: ps) = (p.1, p.2.2) :: kvX ps from rfl, valV_neg (p := (p.1, p.2.2)) (r := kvX ps) e]
      exact ih
def dxP (P : Program) (w : World) (d : Addr) (kb : KB) (h : Heap) : Prop := kb.length ≤ sizeLine ∧ (d == sysModules) = false ∧ ∃ xs, KX kb xs ∧ ∃ o es ep, h.get? d = some o ∧ o.ExactDict ∧ o.data = .dict es ep ∧ es.toList = xs.map (entryOfKey (tupleKind (mixKind P w))) ∧ (xs.map (·.1)).Nodup
structure DX (P : Program) (w : World) (H : Hp) (d : Addr) (kb : KB) : Prop where
  ob : H d = some (.ext (dxP P w d kb))
  ks : ∀ p ∈ kb, FrzT H p.2.1 (p.1.map kV)
section
variable {P : Program} {w : World} {H : Hp} {h : Heap} {d b : Addr} {kb : KB}
theorem DX.ex {H' : Hp} (g : DX P w H d kb) (e : Ex H H') : DX P w H' d kb := ⟨e _ _ g.ob, fun p hp => (g.ks p hp).ex e⟩
theorem DX.exB {H' : Hp} {a : Addr} (g : DX P w H d kb) (e : ExB a H H') (hd : d ≠ a) (ha : ∀ o u, H a ≠ some (.frz o u)) : DX P w H' d kb := ⟨e _ _ hd g.ob, fun p hp => by
  obtain ⟨o, h1, h2⟩ := g.ks p hp
  exact ⟨o, h1, e _ _ (fun z => ha _ _ (by rw [← z]; exact h2)) h2⟩⟩
theorem keyF_of {ks : List Key} (ok : HOk P w H h) (e : FrzT H b (ks.map kV)) : (tupleKind (mixKind P w)).is h ks b := by
  obtain ⟨o0, _, e⟩ := e
  obtain ⟨_, _, its, r, o, h1, h2, n, h3⟩ := (show ObjOk P w H h b (.frz o0 (.tup (ks.map kV))) from ok b _ e)
  exact ⟨o, its.toArray, n, h1, h2, h3, by simpa using items_are r⟩
theorem DX.rd (ok : HOk P w H h) (e : DX P w H d kb) : kb.length ≤ sizeLine ∧ (d == sysModules) = false ∧ ∃ xs, KX kb xs ∧ h.DictOfH (tupleKind (mixKind P w)) d xs := by
  obtain ⟨⟨z, y, xs, r, o, es, ep, h1, h2, h3, h4, h5⟩, _⟩ := (show ObjOk P w H h d (.ext (dxP P w d kb)) from ok d _ e.ob)
  refine ⟨z, y, xs, r, o, es, ep, h1, h2, h3, h4, fun x hx => ?_, h5⟩
  have all : ∀ {l : KB} {m : List (List Key × Addr × Value)}, KX l m → (∀ p ∈ l, FrzT H p.2.1 (p.1.map kV)) → ∀ x ∈ m, (tupleKind (mixKind P w)).is h x.1 x.2.1 := by
    intro l m q
    induction q with
    | nil => intro _ x hx; exact nomatch hx
    | @cons p q ps qs hq t ih =>
      intro hk x hx
      rcases List.mem_cons.mp hx with e | hx
      · subst e
        have := keyF_of ok (hk p (List.mem_cons_self ..))
        rw [hq.1, hq.2.1] at this
        exact this
      · exact ih (fun p hp => hk p (List.mem_cons_of_mem _ hp)) x hx
  exact all r e.ks x hx
def XGet (P : Program) (w : World) (H : Hp) (a : Addr) (y : V) (r : Option V) : Prop := ∃ kb k b, DX P w H a kb ∧ y = .ref b ∧ FrzT H b (k.map kV) ∧ r = valV (kvX kb) k
end
section
variable {X : Cx} {pins : List (Addr × Obj)} {σ : L2.St} {H : Hp} {s : Shared} {a : Addr} {y v : V} {u r : Value} {o : Option V} {A : Around} {E : Value → Shared → Prop}
end
section
variable {X : Cx} {o i e value : Expr} {pos pos' tpos : Pos} {td ty tv : TE}
end
end HH
set_option maxHeartbeats 4000000
namespace HH
open PySem PySem.Spec PyProof.Rows L2 Evl RZ
def nextB (ah : List Nat) (s : Nat) : List Nat := (List.range ah.length).filter fun w => !s.testBit w && decide (ah.getD w 0 &&& s = ah.getD w 0)
def putB (s w : Nat) : Nat := s ||| 2 ^ w
def leftB (n s : Nat) : Nat := ((List.range n).filter fun w => !s.testBit w).length
def cntB (ah : List Nat) : Nat → Nat → Nat
  | 0, s => if s = 2 ^ ah.length - 1 then 1 else 0
  | k + 1, s => (if s = 2 ^ ah.length - 1 then 1 else 0) + ((nextB ah s).map fun w => cntB ah k (putB s w)).sum
def cntF (ah : List Nat) (s : Nat) : Nat := cntB ah (leftB ah.length s) s
structure KnowsB (ah : List Nat) (kvs : List (Key × V)) : Prop where
  nd : (kvs.map (·.1)).Nodup
  ok : ∀ kv ∈ kvs, ∃ s : Nat, s < 2 ^ ah.length ∧ kv = (.inl (s : Int), .int (cntF ah s : Int))
theorem KnowsB.nil (ah : List Nat) : KnowsB ah [] := ⟨.nil, fun _ h => nomatch h⟩
theorem KnowsB.get {ah : List Nat} {kvs : List (Key × V)} (h : KnowsB ah kvs) {s : Nat} {x : V} (e : valV kvs (.inl (s : Int)) = some x) : x = .int (cntF ah s : Int) := by
  unfold valV at e
  cases f : kvs.find? fun kv => decide (kv.1 = (.inl (s : Int) : Key)) with
  | none => rw [f] at e; cases e
  | some kv =>
    rw [f] at e
    have e := Option.some.inj e
    obtain ⟨t, ht, hk⟩ := h.ok kv (List.mem_of_find?_eq_some f)
    have hs : kv.1 = (.inl (s : Int) : Key) := of_decide_eq_true (List.find?_some (p := fun kv : Key × V => decide (kv.1 = (.inl (s : Int) : Key))) f)
    subst hk
    have : (t : Int) = (s : Int) := by
      have z : (Sum.inl (t : Int) : Key) = Sum.inl (s : Int) := hs
      injection z
    have : t = s := by omega
    rw [← e, this]
theorem nodup_few {α : Type} [DecidableEq α] : ∀ {l m : List α}, l.Nodup → (∀ x ∈ l, x ∈ m) → l.length ≤ m.length
  | [], _, _, _ => Nat.zero_le _
  | a :: l, m, nd, h => by
    have nd := List.nodup_cons.mp nd
    have ha := h a (List.mem_cons_self ..)
    have ih := nodup_few (l := l) (m := m.erase a) nd.2 fun x hx => (List.mem_erase_of_ne (fun z => nd.1 (by rw [← z]; exact hx))).mpr (h x (List.mem_cons_of_mem _ hx))
    rw [List.length_erase_of_mem ha] at ih
    have := List.length_pos_of_mem ha
    rw [List.length_cons]
    omega
theorem KnowsB.few {ah : List Nat} {kvs : List (Key × V)} (h : KnowsB ah kvs) : kvs.length ≤ 2 ^ ah.length := by
  have sub := nodup_few (m := (List.range (2 ^ ah.length)).map fun (s : Nat) => (.inl (s : Int) : Key)) h.nd fun k hk => by
    obtain ⟨kv, hkv, rfl⟩ := List.mem_map.mp hk
    obtain ⟨s, hs, rfl⟩ := h.ok kv hkv
    exact List.mem_map.mpr ⟨s, List.mem_range.mpr hs, rfl⟩
  rw [List.length_map, List.length_map, List.length_range] at sub
  exact sub
end HH
set_option maxHeartbeats 4000000
namespace HH
open PySem PySem.Spec PyProof.Rows L2 Evl RZ
inductive Bk where
  | val
  | run
  | look
  | over
namespace Bk
def nm : Bk → String
  | val => "ValueError"
  | run => "RuntimeError"
  | look => "LookupError"
  | over => "OverflowError"
def st : Bk → Str
  | val => "ValueError"
  | run => "RuntimeError"
  | look => "LookupError"
  | over => "OverflowError"
def nw : Bk → String
  | val => "ValueError.__new__"
  | run => "RuntimeError.__new__"
  | look => "LookupError.__new__"
  | over => "OverflowError.__new__"
def ini : Bk → String
  | val => "ValueError.__init__"
  | run => "RuntimeError.__init__"
  | look => "LookupError.__init__"
  | over => "OverflowError.__init__"
def mro : Bk → List Value
  | val => [.type "ValueError", .type "Exception", .type "BaseException", .type "object"]
  | run => [.type "RuntimeError", .type "Exception", .type "BaseException", .type "object"]
  | look => [.type "LookupError", .type "Exception", .type "BaseException", .type "object"]
  | over => [.type "OverflowError", .type "ArithmeticError", .type "Exception", .type "BaseException", .type "object"]
theorem base : (b : Bk) → ExcBaseFacts b.nm b.nw b.ini b.mro
  | val => F.excBase_ValueError
  | run => F.excBase_RuntimeError
  | look => F.excBase_LookupError
  | over => F.excBase_OverflowError
theorem store : (b : Bk) → StoreFacts b.nm b.mro "object.__setattr__" "object"
  | val => F.store_ValueError
  | run => F.store_RuntimeError
  | look => F.store_LookupError
  | over => F.store_OverflowError
theorem typ : (b : Bk) → typeOf (.type b.nm) = pure (.type "type")
  | val => by kernel_rfl
  | run => by kernel_rfl
  | look => by kernel_rfl
  | over => by kernel_rfl
theorem stub : (b : Bk) → Manifest.isStub b.nm = false
  | val => by decide +kernel
  | run => by decide +kernel
  | look => by decide +kernel
  | over => by decide +kernel
theorem boot : (b : Bk) → bootBuiltins b.st = some (.type b.nm)
  | val => PyProof.Rows.Boot.«ValueError»
  | run => PyProof.Rows.Boot.«RuntimeError»
  | look => PyProof.Rows.Boot.«LookupError»
  | over => PyProof.Rows.Boot.«OverflowError»
end Bk
structure ExcTy (K : PySem.W.Frag) (b : Bk) (f : Str) (C fI : Addr) : Prop where
  ok : PySem.W.excInitIn K C b.mro b.nw = true
  ov : PySem.W.excOver K C b.mro = true
  tk : PySem.W.takerIn K C f = some none
  hd : PySem.W.hasDictIn K C = true
  sa : PySem.W.findIn K (.ref C) "__setattr__" = some (some (.builtin "object.__setattr__"))
  ga : PySem.W.findIn K (.ref C) "__getattribute__" = some (some (.builtin "BaseException.__getattribute__"))
  gg : PySem.W.findIn K (.ref C) "__getattr__" = some none
  no : PySem.W.findIn K (.ref C) f = some none
  iC : PySem.W.findIn K (.ref C) "__init__" = some (some (.ref fI))
  ca : PySem.W.findIn K (.ref C) "__class__" = some (some (.builtin "object.__class__"))
  gs : PySem.W.specialIn K (.builtin "object.__class__") "__get__" = some (some (.builtin "getset_descriptor.__get__"))
  tI : PySem.W.typeIn K (.ref fI) = some (.type "function")
  kC : PySem.W.keepIn K (.ref C) = true
  ex : PySem.W.subIn K (.ref C) (.type "BaseException") = some true
  ty : PySem.W.typeIn K (.ref C) = some (.type "type")
  ts : PySem.W.takesIn K (.builtin "object.__class__") = some true
  mo : PySem.W.mroIn K C (.type "object") = some true
  bi : PySem.W.findCls K (.type b.nm) (.type "type") "__init__" = some (.val (.builtin b.ini))
def exTyB (K : PySem.W.Frag) (b : Bk) (f : Str) (C fI : Addr) : Bool :=
  PySem.W.excInitIn K C b.mro b.nw && (PySem.W.excOver K C b.mro && (He.eqO (PySem.W.takerIn K C f) (some none) && (PySem.W.hasDictIn K C &&
  (He.eqO (PySem.W.findIn K (.ref C) "__setattr__") (some (some (.builtin "object.__setattr__"))) && (He.eqO (PySem.W.findIn K (.ref C) "__getattribute__") (some (some (.builtin "BaseException.__getattribute__"))) &&
  (He.eqO (PySem.W.findIn K (.ref C) "__getattr__") (some none) && (He.eqO (PySem.W.findIn K (.ref C) f) (some none) && (He.eqO (PySem.W.findIn K (.ref C) "__init__") (some (some (.ref fI))) &&
  (He.eqO (PySem.W.findIn K (.ref C) "__class__") (some (some (.builtin "object.__class__"))) && (He.eqO (PySem.W.specialIn K (.builtin "object.__class__") "__get__") (some (some (.builtin "getset_descriptor.__get__"))) &&
  (decide (PySem.W.typeIn K (.ref fI) = some (.type "function")) && (PySem.W.keepIn K (.ref C) && (decide (PySem.W.subIn K (.ref C) (.type "BaseException") = some true) && (decide (PySem.W.typeIn K (.ref C) = some (.type "type")) &&
  (decide (PySem.W.takesIn K (.builtin "object.__class__") = some true) && decide (PySem.W.mroIn K C (.type "object") = some true))))))))))))))))
theorem band {a b : Bool} (h : (a && b) = true) : a = true ∧ b = true := Bool.and_eq_true_iff.mp h
theorem exTyB_ok {K : PySem.W.Frag} {b : Bk} {f : Str} {C fI : Addr} (h : exTyB K b f C fI = true) (bi : PySem.W.findCls K (.type b.nm) (.type "type") "__init__" = some (.val (.builtin b.ini))) : ExcTy K b f C fI := by
  unfold exTyB at h
  obtain ⟨h1, h⟩ := band h
  obtain ⟨h2, h⟩ := band h
  obtain ⟨h3, h⟩ := band h
  obtain ⟨h4, h⟩ := band h
  obtain ⟨h5, h⟩ := band h
  obtain ⟨h6, h⟩ := band h
  obtain ⟨h7, h⟩ := band h
  obtain ⟨h8, h⟩ := band h
  obtain ⟨h9, h⟩ := band h
  obtain ⟨h10, h⟩ := band h
  obtain ⟨h11, h⟩ := band h
  obtain ⟨h12, h⟩ := band h
  obtain ⟨h13, h⟩ := band h
  obtain ⟨h14, h⟩ := band h
  obtain ⟨h15, h⟩ := band h
  obtain ⟨h16, h17⟩ := band h
  exact ⟨h1, h2, He.eqO_ok h3, h4, He.eqO_ok h5, He.eqO_ok h6, He.eqO_ok h7, He.eqO_ok h8, He.eqO_ok h9, He.eqO_ok h10, He.eqO_ok h11, of_decide_eq_true h12, h13, of_decide_eq_true h14, of_decide_eq_true h15, of_decide_eq_true h16, of_decide_eq_true h17, bi⟩
section
variable {X : Cx} {pins : List (Addr × Obj)} {σ : L2.St} {H : Hp} {s : Shared} {a C fI : Addr} {f : Str} {b : Bk} {y : V} {u : Value} {A : Around} {E : Value → Shared → Prop}
theorem dict_new {hp h' : Heap} {g : Array GenState} {d : Drawn} {t tk' : Nat} {os : OsState} {t1 dx : Addr} (I : Inv X pins σ H ⟨hp, g, d, t, os⟩) (e : H a = some (exo a C none)) (k : ∀ c o, c ≠ a → hp.get? c = some o → h'.get? c = some o) (dn : hp.objs.size ≤ dx) (ne : dx ≠ a)
    (hx : h'.get? a = some { cls := .ref C, dict := some dx, data := .fields #[.ref t1, .none, .none, .none, .bool false, .none] }) {mA : Str → Option Value} (hn : h'.Ns1 dx mA) (rel : ∀ g, RelO ([(f, y)].lookup g) (mA g)) :
    H dx = none ∧ Inv X pins σ (upd (upd H dx (exd dx [(f, y)])) a (exo a C (some dx))) ⟨h', g, d, tk', os⟩ := by
  have nd : H dx = none := I.hok.fresh dn
  have old {c : Addr} {o : Obj} (q : hp.get? c = some o) : c ≠ dx := Nat.ne_of_lt (Nat.lt_of_lt_of_le (Heap.lt_size q) dn)
  have una {c : Addr} (n : H c = none) : c ≠ a := by
    rintro rfl
    rw [e] at n
    cases n
  have skip {c : Addr} (h1 : c ≠ a) (h2 : c ≠ dx) : upd (upd H dx (exd dx [(f, y)])) a (exo a C (some dx)) c = H c := by rw [upd_ne h1, upd_ne h2]
  refine ⟨nd, I.un (t' := tk') ⟨fun c o q n _ _ => k c o (una n) q, fun c o q n _ _ => ⟨o.slots, k c o (una n) q⟩, fun c o q n _ => (skip (una n) (old q)).trans n, fun c o q _ => ?_, fun c xs q => (skip (at_ne e q exo_tup) (ne_of_none q nd)).trans q, fun c o v q => (skip (at_ne e q exo_frz) (ne_of_none q nd)).trans q,
    fun c ps q => ⟨#[], by rw [skip (at_ne e q exo_tbl) (ne_of_none q nd), q, Array.append_empty]⟩⟩ fun c o q => ?_⟩
  · by_cases z : c = a
    · exact ⟨_, by rw [z]; exact hx⟩
    · exact ⟨o, k c o z q⟩
  · by_cases z : c = a
    · subst z
      rw [upd_same] at q
      cases q
      exact exo_ok hx
    by_cases z2 : c = dx
    · subst z2
      rw [upd_ne z, upd_same] at q
      cases q
      exact exd_ok hn rel
    rw [skip z z2] at q
    refine (I.hok c o q).stay (fun c2 v hc r => k c2 v ?_ r) (fun c2 hc => (skip (at_ne e hc exo_own) (ne_of_none hc nd)).trans hc) fun c2 xs hc => (skip (at_ne e hc exo_tup) (ne_of_none hc nd)).trans hc
    rcases hc with rfl | hc
    · exact z
    · exact at_ne e hc exo_own
theorem exc_first {Q : Unit → Shared → Prop} (T : ExcTy X.K b f C fI) (I : Inv X pins σ H s) (e : H a = some (exo a C none)) (ry : RelV y u)
    (k : ∀ dx s', H dx = none → dx ≠ a → Inv X pins σ (upd (upd H dx (exd dx [(f, y)])) a (exo a C (some dx))) s' → Q () s') : wpAny (model X.prog X.w) A (setAttr (.ref a) f u) Q E s := by
  obtain ⟨t1, ho⟩ := exo_at I.hok e
  obtain ⟨hp, g, d, t, os⟩ := s
  obtain ⟨cd, hcd, hdd⟩ := PySem.W.any_some T.hd
  have LC : PySem.W.Looks (model X.prog X.w) hp (classData C) cd := PySem.W.looks_clsIn I.kIn hcd
  have J : PySem.W.InstAt hp a { cls := .ref C, dict := none, data := .fields #[.ref t1, .none, .none, .none, .bool false, .none] } C none := ⟨ho, rfl, rfl, trivial⟩
  have aw : a ≠ hp.objs.size := Nat.ne_of_lt (Heap.lt_size ho)
  refine PySem.W.set_plain I.kIn J T.sa (PySem.W.osa_openX b.store I.kIn J T.ov T.tk fun bb => ?_)
  obtain ⟨nm, bs, mro, ns, qn, hd, sn, sb, ab, col, del⟩ := cd
  dsimp only at hdd
  subst hdd
  dsimp only
  unfold Builtin.ObjectAttr.storeInOwnDict Builtin.ObjectAttr.ownDictForStores
  repeat (first | with_reducible refine HandSPX.store_in_new ?_ ?_ | with_reducible refine wpAny_loadPart_at ho ?_ | with_reducible refine LC.at ?_ | wp_step)
  · exact ⟨_, #[], _, (Heap.get?_update_ne _ _ _ _ aw.symm).trans (Heap.get?_push_at rfl rfl), rfl, fun e he => absurd he (by simp), fun _ => rfl⟩
  · intro h' tk' hn' hs
    have ho1 : (hp.push { cls := .type "dict", data := .dict #[] }).get? a = _ := Heap.get?_push_of_some _ ho
    obtain ⟨n, J⟩ := dict_new (tk' := tk') (y := y) (f := f) (dx := hp.objs.size) I e (fun c o hc q => (hs.2 c (Nat.ne_of_lt (Heap.lt_size q))).trans ((Heap.get?_update_ne _ _ _ _ hc).trans (Heap.get?_push_of_some _ q))) (Nat.le_refl _) aw.symm ((hs.2 a aw).trans (Heap.get?_update_self _ ho1 rfl)) hn' (relO_put (fs := []) ry fun _ => True.intro)
    exact k _ _ n aw.symm J
def tBI (K : PySem.W.Frag) (b : Bk) (ta : TA) : TE := fun σ H Q => ta σ H fun vs H1 => ∃ (a C : Addr) (ws : List V), vs = .ref a :: ws ∧ ws.length ≤ 1000 ∧ PySem.W.excInitIn K C b.mro b.nw = true ∧ H1 a = some (exo a C none) ∧ Q .non H1
theorem pe_bini {e : Expr} {es : List Expr} {ta : TA} {p1 p2 pos : Pos} {pl : Sem Bool} (hg : Gl X b.st) (hm : X.mg b.st = none) (bi : PySem.W.findCls X.K (.type b.nm) (.type "type") "__init__" = some (.val (.builtin b.ini))) (ha : PA X (e :: es) ta)
    (hn : b.st ≠ ("__name__" : Str)) (hdb : (b.st == ("__debug__" : Str)) = false) (hh : PySem.W.handedIn (.builtin b.ini) = true)
    (hc : eval (.Call (.Attribute (.Name b.st p1) "__init__" p2) (e :: es) [] pos) X.env = (do
      let ov ← eval (.Name b.st p1) X.env
      standAt p2.atName
      let (f, first) ← holding [ov] (getMethod ov "__init__" pl)
      callWith pos f first (backTo pos (starEach (e :: es) X.env)) (backToKw pos (keywordEach [] X.env))) := by rfl)
    (he : starEach (e :: es) X.env = (false, eval e X.env) :: starEach es X.env := by rfl) (hpl : (backTo pos (starEach es X.env)).any (·.1) = false := by rfl) :
    PE X (.Call (.Attribute (.Name b.st p1) "__init__" p2) (e :: es) [] pos) (tBI X.K b ta) := by
  refine ⟨fun pins s σ H Q I h => PySem.W.methodCall_KW (ld_blt I hg hm b.boot ?_ hn hdb) hc⟩
  obtain ⟨m, fr⟩ := I.fr
  refine PySem.W.method_type fr I.ok.mod.kin b.typ b.stub bi hh ?_
  show wpAny _ _ (callWith pos (Value.builtin b.ini) [] (backTo pos (starEach (e :: es) X.env)) []) _ _ _
  refine PyProof.Rows.callWith_method1 (thn (ha.run pos pins _ σ H _ (I.tok _) h) fun us s1 ⟨vs, H1, J, r, a, C, ws, ev, hl, hC, ea, q⟩ => ?_) he hpl
  subst ev
  cases r with
  | @cons _ u0 _ ur ra rw' =>
    obtain rfl : u0 = Value.ref a := ra
    have few : ur.length ≤ sizeLine := by
      rw [← Paired.length rw', sizeLine_eq]
      omega
    obtain ⟨t1, ho⟩ := exo_at J.hok ea
    obtain ⟨nm, N, qn, bs, bm, hdct, sn, sub, ab, col, dd, k0, k1, k2, k3, k5, hC', hT⟩ := PySem.W.excInit_of J.kIn hC
    obtain ⟨hp, g, d, t, os⟩ := s1
    refine wpAny_call (PySem.HandSPX.init_base b.base hT hC' ho few fun h' t2 k hx => ⟨.non, H1, ?_, rfl, q⟩)
    have W := J.write (t' := t) (x := a) (e := a) (o := exo a C none) (by rw [ea]; exact True.intro) (.inl rfl) k ⟨_, hx⟩ (exo_ok hx)
    have eu : upd H1 a (exo a C none) = H1 := funext fun c => by
      by_cases z : c = a
      · rw [z, upd_same, ea]
      · exact upd_ne z
    rw [eu] at W
    exact W
def tXs (K : PySem.W.Frag) (f : Str) (to te : TE) : TS := fun D σ H => te σ H fun y H1 => to σ H1 fun x H2 => ∃ (a C fI : Addr) (b : Bk), x = .ref a ∧ ExcTy K b f C fI ∧ H2 a = some (exo a C none) ∧ ∀ dx, H2 dx = none → dx ≠ a → D.nx σ (upd (upd H2 dx (exd dx [(f, y)])) a (exo a C (some dx)))
theorem ps_xs {o e : Expr} {to te : TE} {p' pos : Pos} (ho : PE X o to) (he : PE X e te) (hs : swapsWith e (some (.Attribute o f p')) pos.line X.env = pure false := by rfl) : PS X (.Assign [.Attribute o f p'] e pos) (tXs X.K f to te) := by
  refine ⟨fun pins s σ H D I h => plainObj_wpAny_Assign_Attribute (thn (he.run pins s σ H _ I h) fun v s1 ⟨y, H1, I1, r1, q1⟩ => thn (ho.run pins s1 σ H1 _ I1 q1) fun u s2 ⟨x, H2, I2, r2, a, C, fI, b, ex, T, ea, q⟩ => ?_) hs⟩
  subst ex
  obtain rfl : u = Value.ref a := r2
  exact exc_first T I2 ea r1 fun dx s' n ne J => ⟨σ, _, J, q dx n ne⟩
end
def spIni (C : Addr) (f : Str) : Sp := fun vs H Q _ => ∃ (a : Addr) (v : V), vs = [.ref a, v] ∧ H a = some (exo a C none) ∧ ∀ dx, H dx = none → dx ≠ a → Q .non (upd (upd H dx (exd dx [(f, v)])) a (exo a C (some dx)))
def tMkX (C : Addr) (f : Str) (ta : TA) : L2.St → Hp → XK → Prop := fun σ H Q => ta σ H fun vs H1 => ∃ v, vs = [v] ∧ ∀ d, H1 d = none → Q (.ref C) (some d) (upd H1 d (.xd [(f, v)]))
section
variable {X : Cx} {C fI : Addr} {f : Str} {b : Bk}
theorem pmk_x {x : Str} {e : Expr} {ta : TA} {p pos : Pos} {k : Nat} {fd : FuncData} (T : ExcTy X.K b f C fI) (F1 : FnOk X.prog X.w X.K X.mg X.base CX0 k fI fd ["self", f] (spIni C f)) (hr : Room (k + 1) X.A) (hb : Binds X.K fd ["self", f] []) (hm : X.mg x = some (.ref C)) (hg : Gl X x) (ha : PA X [e] ta)
    (hdb : (x == ("__debug__" : Str)) = false := by decide) (he : starEach (e :: []) X.env = (false, eval e X.env) :: starEach [] X.env := by rfl) (hpl : (backTo pos (starEach [] X.env)).any (·.1) = false := by rfl) :
    PMk X (.Call (.Name x p) [e] [] pos) (tMkX C f ta) := by
  intro pins s σ H Q I h
  refine wpAny_Call_Name_kw (ld_glob I hg hm (PySem.W.callWith_K (h₀ := X.base) I.ok.mod.kin T.kC (thn (ha.run pos pins s σ H _ I h) fun us s1 ⟨vs, H1, J, r1, v, ev, q⟩ => ⟨J.kIn, ?_⟩) he hpl) hdb)
  subst ev
  show wpAny _ _ (call (.ref C) us) _ _ _
  obtain ⟨u, rfl, ru⟩ := vals1 r1
  obtain ⟨nm, N, qn, bs, bm, hdct, sn, sub, ab, col, dd, k0, k1, k2, k3, k5, hC, hT⟩ := PySem.W.excInit_of J.kIn T.ok
  obtain ⟨hp, g, dr, tk, os⟩ := s1
  have big : hp.objs.size ≤ hp.objs.size + 1 := Nat.le_succ _
  have nw : H1 (hp.objs.size + 1) = none := J.hok.fresh big
  have kk : ∀ c o, hp.get? c = some o → ((hp.push (PySem.W.kdv_tup [u])).push (PySem.HandSPX.excO C hp.objs.size)).get? c = some o := fun c o z => Heap.get?_push_of_some _ (Heap.get?_push_of_some _ z)
  have at1 : ((hp.push (PySem.W.kdv_tup [u])).push (PySem.HandSPX.excO C hp.objs.size)).get? (hp.objs.size + 1) = some (PySem.HandSPX.excO C hp.objs.size) := by heap_get
  have J2 : Inv X pins σ (upd H1 (hp.objs.size + 1) (exo (hp.objs.size + 1) C none)) ⟨(hp.push (PySem.W.kdv_tup [u])).push (PySem.HandSPX.excO C hp.objs.size), g, dr, tk, os⟩ := J.laid (t' := tk) (h' := (hp.push (PySem.W.kdv_tup [u])).push (PySem.HandSPX.excO C hp.objs.size)) kk big (exo_ok at1)
  have r2 : Vals [V.ref (hp.objs.size + 1), v] [Value.ref (hp.objs.size + 1), u] := .cons rfl (.cons ru .nil)
  have sp : spIni C f [V.ref (hp.objs.size + 1), v] (upd H1 (hp.objs.size + 1) (exo (hp.objs.size + 1) C none)) (fun v' H2 => v' = .non ∧ ∃ (d : Addr) (fs : List (Str × V)), H2 (hp.objs.size + 1) = some (exo (hp.objs.size + 1) C (some d)) ∧ H2 d = some (exd d fs) ∧ H1 d = none ∧ Q (.ref C) (some d) (upd (del H2 (hp.objs.size + 1)) d (.xd fs))) (fun _ _ _ => False) := by
    refine ⟨_, v, rfl, upd_same, fun dx n ne => ⟨rfl, dx, [(f, v)], upd_same, ?_, ?_, ?_⟩⟩
    · rw [upd_ne ne, upd_same]
    · rw [← n, upd_ne ne]
    · have n1 : H1 dx = none := by rw [← n, upd_ne ne]
      have e2 : upd (del (upd (upd (upd H1 (hp.objs.size + 1) (exo (hp.objs.size + 1) C none)) dx (exd dx [(f, v)])) (hp.objs.size + 1) (exo (hp.objs.size + 1) C (some dx))) (hp.objs.size + 1)) dx (.xd [(f, v)]) = upd H1 dx (.xd [(f, v)]) := funext fun c => by
        by_cases z : c = dx
        · rw [z, upd_same, upd_same]
        rw [upd_ne z, upd_ne z]
        by_cases z2 : c = hp.objs.size + 1
        · rw [z2, del_same, nw]
        · rw [del_ne z2, upd_ne z2, upd_ne z, upd_ne z2]
      rw [e2]
      exact q dx n1
  refine wpAny_call (PySem.HandSPX.call_own b.base hT hC (PySem.W.looks_findIn J.kIn T.iC) (fun self => PySem.W.bind_fn J.kIn self T.tI) (by rw [sizeLine_eq]; show 1 ≤ 16777216; decide)
    (codeAny_mono (F1.run _ X.stack _ _ ⟨[Value.ref (hp.objs.size + 1), u], []⟩ [Value.ref (hp.objs.size + 1), u] _ _ (fun _ _ _ => False) (hr.make C [u] []) (J2.env0.make C [u] []) (hb _ [Value.ref (hp.objs.size + 1), u] J2.kIn rfl) r2 sp) fun rs s' hq => ?_))
  match rs, hq with
  | .error _, hq => exact hq.elim
  | .ok .next, hq => exact hq.elim
  | .ok .brk, hq => exact hq.elim
  | .ok .cont, hq => exact hq.elim
  | .ok (.ret _), ⟨v', H2, os2, bare2, un2, hok2, rv, ev, d, fs, ea, ed, hd1, q2⟩ =>
    subst ev
    obtain ⟨h2, g2, d2, t2, os'⟩ := s'
    exact ⟨rv, mk_end (raises_own T.ex T.ty) J big kk un2 hok2 os2 bare2 ea ed hd1 q2⟩
end
end HH
set_option maxHeartbeats 4000000
namespace HH
open PySem PySem.Spec PyProof.Rows L2 Evl RZ
def ExT (cls : Value) (d : Option Addr) (a : Addr) : HO := .ext fun h => ∃ (oe : Obj) (vs : Array Value), h.get? a = some oe ∧ Zc cls d oe ∧ oe.data = .fields vs
theorem ext_at {P : Program} {w : World} {H : Hp} {h : Heap} {a : Addr} {cls : Value} {d : Option Addr} (hok : HOk P w H h) (e : H a = some (ExT cls d a)) : ∃ (oe : Obj) (vs : Array Value), h.get? a = some oe ∧ Zc cls d oe ∧ oe.data = .fields vs := by
  have x : ObjOk P w H h a (.ext fun h => ∃ (oe : Obj) (vs : Array Value), h.get? a = some oe ∧ Zc cls d oe ∧ oe.data = .fields vs) := hok a _ e
  exact x.1
section
variable {X : Cx} {pins : List (Addr × Obj)} {σ : L2.St} {H : Hp} {s : Shared} {a : Addr} {oe : Obj} {cls : Value} {d : Option Addr} {vs : Array Value}
theorem track (I : Inv X pins σ H s) (ha : s.heap.get? a = some oe) (hz : Zc cls d oe) (hd : oe.data = .fields vs) (na : H a = none) (nL : a ≠ X.env.locals) (n0 : X.s_0.heap.get? a = none) (np : ∀ p ∈ X.pn ++ pins, p.1 ≠ a) : Inv X pins σ (upd H a (ExT cls d a)) s := by
  have nc : ∀ x c, X.env.cells.lookup x = some c → c ≠ a := by
    rintro x c hc rfl
    obtain ⟨v, o, ho, ho2⟩ := I.cell x c hc
    rw [ha] at ho
    cases ho
    rw [hd] at ho2
    cases ho2
  have n1 {c : Addr} {o : Obj} (q : X.s_0.heap.get? c = some o) : c ≠ a := by
    rintro rfl
    rw [n0] at q
    cases q
  have n2 {c : Addr} {o : HO} (q : H c = some o) : c ≠ a := ne_of_none q na
  have e0 {c : Addr} (h : c ≠ a) : upd H a (ExT cls d a) c = H c := upd_ne h
  refine ⟨I.ok, I.os, I.bare, ⟨I.base.keep, I.base.slot, fun c o q n hx => (e0 (n1 q)).trans (I.base.free c o q n hx), I.base.there, fun c xs q => ?_, fun c o xs q => ?_, fun c ps q => ?_⟩, I.loc, I.cell, (e0 (Ne.symm nL)).trans I.free, fun x c hc => (e0 (nc x c hc)).trans (I.freeC x c hc), fun p hp => ?_, fun c o q => ?_, I.len⟩
  · have z := I.base.tups c xs q
    exact (e0 (n2 z)).trans z
  · have z := I.base.frzs c o xs q
    exact (e0 (n2 z)).trans z
  · obtain ⟨m, z⟩ := I.base.tbls c ps q
    exact ⟨m, (e0 (n2 z)).trans z⟩
  · obtain ⟨h1, h2, h3⟩ := I.pin p hp
    exact ⟨h1, (e0 (np p hp)).trans h2, h3⟩
  · by_cases z : c = a
    · subst z
      rw [upd_same] at q
      cases q
      exact ⟨⟨oe, vs, ha, hz, hd⟩, ⟨oe, ha⟩, fun _ _ ⟨o, v, q, r⟩ k => ⟨o, v, k o q, r⟩⟩
    · rw [e0 z] at q
      exact (I.hok c o q).stay (fun _ _ _ r => r) (fun c2 hc => (e0 (n2 hc)).trans hc) fun c2 xs hc => (e0 (n2 hc)).trans hc
end
def Catches (X : Cx) (t : Expr) (m : Value → Prop) : Prop :=
  ∀ (e : Addr) (pn : List (Addr × Obj)) (cls : Value) (σ : L2.St) (H : Hp) (s : Shared) (E : Value → Shared → Prop) (Q : Bool → Shared → Prop), m cls → Inv (X.suite e pn) [] σ H s → PySem.W.Looks (model X.prog X.w) s.heap (typeOf (.ref e)) cls →
    (∀ h', (∀ q o, s.heap.get? q = some o → h'.get? q = some o) → Q true { s with heap := h' }) →
    wpAny (model X.prog X.w) (X.A.mark (some (.ref e))) (eval t X.env) (fun c s1 => wpAny (model X.prog X.w) (X.A.mark (some (.ref e))) (excMatches (.ref e) c) Q E s1) E s
section
variable {X : Cx} {x1 x2 x3 x4 : Str} {c1 c2 c3 c4 : Value} {p1 p2 p3 p4 tp : Pos} {kk : Nat}
theorem nm_look {e : Addr} {pn : List (Addr × Obj)} {σ : L2.St} {H : Hp} {s : Shared} {x : Str} {c : Value} {p : Pos} {Q : Value → Shared → Prop} {E : Value → Shared → Prop} (n : Names X x c) (I : Inv (X.suite e pn) [] σ H s) (q : Q c s) : wpAny (model X.prog X.w) (X.A.mark (some (.ref e))) (eval (.Name x p) X.env) Q E s := by
  obtain ⟨hg, hdb, hm | ⟨hm, hv, hn⟩⟩ := n
  · exact ld_glob (X := X.suite e pn) I hg hm q hdb
  · exact ld_blt (X := X.suite e pn) I hg hm hv q hn hdb
theorem catch3 (n1 : Names X x1 c1) (n2 : Names X x2 c2) (n3 : Names X x3 c3) : Catches X (.Tuple [.Name x1 p1, .Name x2 p2, .Name x3 p3] kk tp) (fun cls => PySem.W.exmAny X.K cls [c1, c2, c3] = some true) := fun e pn cls σ H s E Q m I LT q => by
  refine wpAny_Tuple (wpAny_items_cons (nm_look n1 I (wpAny_items_cons (nm_look n2 I (wpAny_items_cons (nm_look n3 I (wpAny_items_nil ⟨by size_fits, ?_⟩)))))))
  have kp : ∀ c o, s.heap.get? c = some o → (s.heap.push { cls := .type "tuple", data := .seq [c1, c2, c3].toArray }).get? c = some o := fun c o z => Heap.get?_push_of_some _ z
  exact (PySem.W.exm_tup3 (I.kIn.keeps kp) (LT.keeps kp) (Heap.get?_push_size s.heap rfl) m).here (q _ kp)
end
theorem fly_keeps {B : Heap} {l : List Env} {e : Addr} {Z : Obj → Prop} {h h' : Heap} (R : HandSPX.FlyingZ B l e Z h) (k : ∀ c o, h.get? c = some o → h'.get? c = some o) : HandSPX.FlyingZ B l e Z h' := by
  obtain ⟨f1, f2, f3, oe, ws, T, oT, ts, he, hc, hd, h1, hn, hne, hT, hdT, h3⟩ := R
  exact ⟨fun c o q => k c o (f1 c o q), f2, f3.of_keeps fun c o q _ => ⟨o, k c o q, rfl⟩, oe, ws, T, oT, ts, k _ _ he, hc, hd, h1, hn, hne, k _ _ hT, hdT, h3⟩
def wKeep (m : Value → Prop) (i : Nat) (ts : Addr → Value → Option Addr → TS) (D : Ends) : WX := fun cls d σ H =>
  m cls ∧ ∀ a, H a = none → ts a cls d { nx := fun σ' H' => D.nx (σ'.set i none) (upd H' a (ExT cls d a)), rt := fun _ _ => False, bk := fun _ _ => False, ct := fun _ _ => False } (σ.set i (some (.ref a))) H
section
variable {X : Cx} {t : Expr} {n : Str} {i : Nat} {m : Value → Prop} {body suite : List Stmt} {b0 : Stmt} {pos pos' : Pos} {tb : WX → TS} {ts : Addr → Value → Option Addr → TS}
theorem ps_try_keep (hs : X.stack = X.env :: X.outer) (hf : X.env.frame = some X.env.locals) (hex : X.ex = []) (hN : X.N.Nodup) (hi : X.N[i]? = some n) (hln : X.env.kindOf n = some .local) (hc : Catches X t m)
    (hb : ∀ (W : WX) (pn : List (Addr × Obj)) (xe : Value → Shared → Prop), Takes (X.tr pn xe) W → PassesOwn (model X.prog X.w) X.A X.env xe → PSs (X.tr pn xe) body (tb W))
    (hsu : ∀ (a : Addr) (oe : Obj) (cls : Value) (d : Option Addr) (pn : List (Addr × Obj)), Zc cls d oe → (∃ vs, oe.data = .fields vs) → PSs (X.suite a ((a, oe) :: pn)) (b0 :: suite) (ts a cls d)) :
    PS X (.Try body [.ExceptHandler (some t) (some n) (b0 :: suite) pos'] [] [] pos) (fun D σ H => tb (wKeep m i ts D) D σ H) := by
  refine ⟨fun pins s σ H D I h => ?_⟩
  have ok := I.ok
  have frm : X.A.frames = some (X.env :: X.outer) := by rw [ok.frames, hs]
  refine wpAny_Try_except (wpAny_mono ((hb (wKeep m i ts D) (X.pn ++ pins) (fun e s₁ => wpAny (model X.prog X.w) X.A (noteFrame e X.env) (fun _ s₂ => wpAny (model X.prog X.w) X.A (setFlight e none) (fun _ s₃ => wpAny (model X.prog X.w) X.A (handleBy e X.env [.ExceptHandler (some t) (some n) (b0 :: suite) pos']) (SP X pins D) X.xe s₃) X.xe s₂) X.xe s₁) (fun u s' xx => ?_) PassesOwn.looking).run [] s σ H D (I.toTry _) h) (fun f s1 hsp => ?_) (fun e s1 he => he))
  · obtain ⟨a, B, sI, pins', σ', H', cls, d, rfl, J', nb, up, sky, na, os, ag, hm, hyes⟩ := xx
    have J : Inv X pins σ' H' sI := J'.ofTry ok
    rw [hs] at sky
    show wpAny (model X.prog X.w) X.A (noteFrame (.ref a) X.env) _ _ _
    refine Sky.land Zc.steady frm hf sky fun h3 fl3 up3 => ?_
    have J3 : Inv X pins σ' H' { s' with heap := h3 } := J.landed nb fl3.1 (up.trans up3) os ag
    obtain ⟨oe3, vs3, he3, hz3, hd3⟩ := fl3.there
    have nfr : a ∉ frs (X.env :: X.outer) := fun hm => by
      obtain ⟨_, o', e', hnf⟩ := fl3.2.2.1.mem hm
      rw [he3] at e'
      cases e'
      exact hnf _ hd3
    have nL : a ≠ X.env.locals := fun z => nfr (List.mem_filterMap.mpr ⟨X.env, List.mem_cons_self, by rw [hf, z]⟩)
    have nF : a ∉ X.fs := fun hm => by
      obtain ⟨e, he, q⟩ := List.mem_filterMap.mp hm
      exact nfr (List.mem_filterMap.mpr ⟨e, List.mem_cons_of_mem _ he, q⟩)
    have nI : sI.heap.get? a = none := by
      cases q : sI.heap.get? a with
      | none => rfl
      | some o =>
        have z := nb a o q (by rw [hs]; exact nfr)
        rw [fl3.2.1] at z
        cases z
    have n0 : X.s_0.heap.get? a = none := by
      cases q : X.s_0.heap.get? a with
      | none => rfl
      | some o =>
        obtain ⟨o', z⟩ := J.base.there a o q (by rw [hex]; exact fun z => nomatch z)
        rw [nI] at z
        cases z
    have np : ∀ p ∈ X.pn ++ pins, p.1 ≠ a := by
      rintro p hp rfl
      have z := (J.pin p hp).1
      rw [nI] at z
      cases z
    have S3 := J3.suite he3 hd3 na nL nF
    have LT : PySem.W.Looks (model X.prog X.w) h3 (typeOf (.ref a)) cls := fun A Q E s k q => wpAny_typeOf_ref (k _ _ he3) (by rw [hz3.1]; exact q)
    refine wpAny_handleBy_cons (codeAny_handlers_test (hc a _ cls σ' H' _ _ _ hm S3 LT fun h4 k4 => ?_)) (by intro q; cases q)
    have fl4 := fly_keeps fl3 k4
    refine codeAny_handlers_suite_as (HandSPX.lands_againZ fl4 fun h5 fl5 up5 => ?_)
    have J5 : Inv X pins σ' H' { s' with heap := h5 } := J.landed nb fl5.1 (((up.trans up3).trans (Heap.UpToSlots.of_keeps k4)).trans up5) os ag
    obtain ⟨oe5, vs5, he5, hz5, hd5⟩ := fl5.there
    refine store_ok (X := X.suite a ((a, oe5) :: (X.pn ++ pins))) (v := .ref a) (J5.suite he5 hd5 na nL nF) hN hi (.inl hln) rfl (fun s6 S6 => ?_) (.inr hln)
    refine wpAny_mono ((hsu a oe5 cls d (X.pn ++ pins) hz5 ⟨_, hd5⟩).run [] s6 _ H' _ S6 (hyes a na)) (fun f s7 hsp => ?_) (fun _ _ z => False.elim z)
    match f, hsp with
    | .next, ⟨σ7, H7, S7, q7⟩ =>
      have pn7 := S7.pin (a, oe5) (List.mem_append_left _ List.mem_cons_self)
      have U := S7.unsuite ok
      have U2 : Inv X ((a, oe5) :: pins) σ7 H7 s7 := ⟨U.ok, U.os, U.bare, U.base, U.loc, U.cell, U.free, U.freeC, fun p hp => by
        rcases List.mem_append.mp hp with hp | hp
        · exact U.pin p (List.mem_append_left _ hp)
        · rcases List.mem_cons.mp hp with rfl | hp
          · exact pn7
          · exact U.pin p (List.mem_append_right _ hp), U.hok, U.len⟩
      refine gone_ok U2 hN hi hln fun s8 J8 => ?_
      obtain ⟨g1, g2, _⟩ := J8.pin (a, oe5) (List.mem_append_right _ List.mem_cons_self)
      have J9 : Inv X pins (σ7.set i none) H7 s8 := ⟨J8.ok, J8.os, J8.bare, J8.base, J8.loc, J8.cell, J8.free, J8.freeC, fun p hp => J8.pin p (by
        rcases List.mem_append.mp hp with hp | hp
        · exact List.mem_append_left _ hp
        · exact List.mem_append_right _ (List.mem_cons_of_mem _ hp)), J8.hok, J8.len⟩
      exact ⟨_, _, track J9 g1 hz5 hd5 g2 nL n0 np, q7⟩
    | .brk, ⟨_, _, _, q⟩ => exact q.elim
    | .cont, ⟨_, _, _, q⟩ => exact q.elim
    | .ret _, ⟨_, _, _, _, _, q⟩ => exact q.elim
  · match f, hsp with
    | .next, ⟨σ', H', J', q⟩ => exact wpAny_execs_nil ⟨σ', H', J'.ofTry ok, q⟩
    | .brk, ⟨σ', H', J', q⟩ => exact ⟨σ', H', J'.ofTry ok, q⟩
    | .cont, ⟨σ', H', J', q⟩ => exact ⟨σ', H', J'.ofTry ok, q⟩
    | .ret _, ⟨v, σ', H', J', r, q⟩ => exact ⟨v, σ', H', J'.ofTry ok, r, q⟩
end
section
variable {X : Cx} {C fI : Addr} {f : Str} {b : Bk}
def tXat (C : Addr) (f : Str) (te : TE) : TE := fun σ H Q => te σ H fun x H1 => ∃ (a dd : Addr) (fs : List (Str × V)) (v : V), x = .ref a ∧ H1 a = some (ExT (.ref C) (some dd) a) ∧ H1 dd = some (.xd fs) ∧ fs.lookup f = some v ∧ Q v H1
theorem inst_x {pins : List (Addr × Obj)} {σ : L2.St} {H : Hp} {s : Shared} {a dd : Addr} {fs : List (Str × V)} (I : Inv X pins σ H s) (ha : H a = some (ExT (.ref C) (some dd) a)) (hd : H dd = some (.xd fs)) : ∃ oe od, PySem.W.InstAt s.heap a oe C (some od) ∧ ∀ v, fs.lookup f = some v → ∃ u, RelV v u ∧ PySem.W.lookIn f od = some (some u) := by
  obtain ⟨oe, vs, h1, h2, h3⟩ := ext_at I.hok ha
  obtain ⟨mA, hns, hr⟩ := (show ObjOk X.prog X.w H s.heap dd (.xd fs) from I.hok dd _ hd)
  obtain ⟨od, ho, hl⟩ := lookIn_ns hns
  refine ⟨oe, od, ⟨h1, h2.1, by unfold PySem.W.notCls; rw [h3] <;> rfl, by rw [h2.2]; exact ho⟩, fun v l => ?_⟩
  obtain ⟨u, hu, ru⟩ := RelO.some_of (v := v) (o := mA f) (by rw [← l]; exact hr f)
  exact ⟨u, ru, by rw [hl, hu]⟩
theorem pe_xat {e : Expr} {te : TE} {pos : Pos} (T : ExcTy X.K b f C fI) (he : PE X e te) (hb : attributeBase e f X.env (eval e X.env) = eval e X.env := by rfl) : PE X (.Attribute e f pos) (tXat C f te) := by
  refine ⟨fun pins s σ H Q I h => attr_of hb (thn (he.run pins s σ H _ I h) fun u s1 ⟨x, H1, J, rx, a, dd, fs, v, ex, ea, ed, l, q⟩ => ?_)⟩
  subst ex
  obtain rfl : u = Value.ref a := rx
  obtain ⟨oe, od, K1, hl⟩ := inst_x (f := f) J ea ed
  obtain ⟨u, ru, hu⟩ := hl v l
  exact HandSPX.exc_get J.kIn K1 T.ga T.gg T.ex (PySem.W.findObj_own T.hd T.no rfl hu) (handed_of ru) ⟨v, H1, J.tok _, ru, q⟩
def rIsx (K : PySem.W.Frag) (C : Addr) : List V → Hp → VK → Prop := fun xs H Q => ∃ (a dd : Addr) (fs : List (Str × V)) (c : V) (u : Value) (r : Bool), xs = [.ref a, c] ∧ H a = some (ExT (.ref C) (some dd) a) ∧ H dd = some (.xd fs) ∧ ClsV c u ∧ PySem.W.kitOne K (.ref C) u = some r ∧ Q (.bl r) H
def rIsxT (K : PySem.W.Frag) (C : Addr) : List V → Hp → VK → Prop := fun xs H Q => ∃ (a dd tp : Addr) (fs : List (Str × V)) (cs : List V) (us : List Value) (r : Bool), xs = [.ref a, .ref tp] ∧ H a = some (ExT (.ref C) (some dd) a) ∧ H dd = some (.xd fs) ∧ H tp = some (.tup cs) ∧ Paired ClsV cs us ∧ PySem.W.kitAny K (.ref C) us = some r ∧ Q (.bl r) H
theorem kit_x {a : Addr} {oe : Obj} {od : Option Obj} (T : ExcTy X.K b f C fI) : PySem.W.KitX X.K (.ref a) (.ref C) (fun h => PySem.W.InstAt h a oe C od) := by
  obtain ⟨cd, hcd, _⟩ := PySem.W.any_some T.hd
  exact PySem.W.kitx_exc (by rw [hcd]; rfl) T.ga T.gg T.ex T.ca T.gs T.ts T.mo
def rIsX (K : PySem.W.Frag) (C : Addr) : List V → Hp → VK → Prop := fun xs H Q => rIsi K xs H Q ∨ rIsx K C xs H Q
def rIsXT (K : PySem.W.Frag) (C : Addr) : List V → Hp → VK → Prop := fun xs H Q => rIsiT K xs H Q ∨ rIsxT K C xs H Q
theorem call_isx {K : PySem.W.Frag} (T : ExcTy K b f C fI) (hK : X.K = K := by rfl) : CallR X (.builtin "isinstance") (rIsX K C) := by
  subst hK
  intro pins s σ H xs us Q I r h
  rcases h with h | ⟨a, dd, fs, c, u, rr, rfl, ea, ed, k, e, q⟩
  · exact call_isi pins s σ H xs us Q I r h
  obtain ⟨u1, u2, rfl, r1, r2⟩ := vals2 r
  have e2 := k.eq r2
  subst e2
  cases (show u1 = Value.ref a from r1)
  obtain ⟨oe, od, K1, _⟩ := inst_x (f := f) I ea ed
  exact PySem.W.kia_one (kit_x T) I.kIn K1 e (fun z => nomatch z) fun tk => ⟨.bl rr, H, I.tok tk, rfl, q⟩
theorem call_isxT {K : PySem.W.Frag} (T : ExcTy K b f C fI) (hK : X.K = K := by rfl) : CallR X (.builtin "isinstance") (rIsXT K C) := by
  subst hK
  intro pins s σ H xs us Q I r h
  rcases h with h | ⟨a, dd, tp, fs, cs, ks, rr, rfl, ea, ed, et, k, e, q⟩
  · exact call_isiT pins s σ H xs us Q I r h
  obtain ⟨u1, u2, rfl, r1, r2⟩ := vals2 r
  cases (show u1 = Value.ref a from r1)
  cases (show u2 = Value.ref tp from r2)
  obtain ⟨oe, od, K1, _⟩ := inst_x (f := f) I ea ed
  obtain ⟨_, ws, rw', o, h1, h2, n, h3⟩ := (show ObjOk X.prog X.w H s.heap tp (.tup cs) from I.hok tp _ et)
  have ew := ClsV.all k rw'
  subst ew
  obtain ⟨oc, od', oda, osl⟩ := o
  dsimp only at h2 h3
  subst h2 h3
  exact PySem.W.kia_tup (kit_x T) I.kIn K1 h1 e (fun z => nomatch z) fun tk => ⟨.bl rr, H, I.tok tk, rfl, q⟩
end
end HH
set_option maxHeartbeats 4000000
namespace HH
open PySem PySem.Spec PyProof.Rows L2 Evl RZ
theorem EndAt.ne {K : PySem.W.Frag} {H H' : Hp} {p q ot lp : Addr} {v' : V} {pvs : List V} {L : List Cow} {ps : HH.Row} {n : Nat} (E : EndAt K H H' p q v' ot lp pvs L ps n) : lp ≠ p := fun z => by
  have a := E.lst
  have c := E.prs
  obtain ⟨x, y, z', e, _⟩ := E.bx
  rw [z, e] at a
  cases a
  match ps, c with
  | [], c => exact absurd c.1 (by simp)
  | b0 :: _, c =>
    obtain ⟨u, hu, pp, rfl, _⟩ := c.2 0 b0 rfl
    cases hu
end HH
set_option maxHeartbeats 4000000
namespace HH
open PySem PySem.Spec PyProof.Rows L2 Evl RZ
section
variable {K : PySem.W.Frag} {σ : L2.St} {H : Hp} {ta : TE} {E : XK} {v : V}
end
end HH
set_option maxHeartbeats 4000000
namespace HH
open PySem PySem.Spec PyProof.Rows L2 Evl RZ
end HH
set_option maxHeartbeats 4000000
namespace HH
open PySem PySem.Spec PyProof.Rows L2 Evl RZ
def Lk (a e : HH.Row) : Prop := ∃ M, Steps (tag 0 a) M ∧ rowsOf M = e
theorem Lk.rfl' (a : HH.Row) : Lk a a := ⟨tag 0 a, .refl _, tag_snd 0 a⟩
theorem Lk.trans {a b c : HH.Row} (h : Lk a b) (g : Lk b c) : Lk a c := by
  obtain ⟨M, s, rfl⟩ := h
  obtain ⟨N, t, rfl⟩ := g
  have t' := t.map (HH.ixN (M.map (·.1)))
  rw [rl_tag] at t'
  exact ⟨_, s.trans t', rl_rows _ _⟩
theorem rowsOf_app (L M : List Cow) : rowsOf (L ++ M) = rowsOf L ++ rowsOf M := List.map_append
theorem Lk.under {a e : HH.Row} (p q : HH.Row) (h : Lk a e) : Lk (p ++ a ++ q) (p ++ e ++ q) := by
  obtain ⟨M, s, rfl⟩ := h
  have s1 := (s.map (p.length + ·)).under (tag 0 p) (tag (p.length + a.length) q)
  rw [← tag_rl 0 p.length, Nat.add_zero] at s1
  refine ⟨tag 0 p ++ rlL (p.length + ·) M ++ tag (p.length + a.length) q, ?_, ?_⟩
  · rw [tag_app, tag_app, Nat.zero_add, Nat.zero_add, List.length_append]
    exact s1
  · rw [rowsOf_app, rowsOf_app, rl_rows, show rowsOf (tag 0 p) = p from tag_snd 0 p, show rowsOf (tag (p.length + a.length) q) = q from tag_snd _ q]
theorem Lk.app {a e b f : HH.Row} (h : Lk a e) (g : Lk b f) : Lk (a ++ b) (e ++ f) := by
  have h1 := h.under [] b
  have g1 := g.under e []
  rw [List.nil_append, List.nil_append] at h1
  rw [List.append_nil, List.append_nil] at g1
  exact h1.trans g1
theorem Lk.tl {a e : HH.Row} (h : Lk a e) (ht : ∀ b ∈ a, 0 ≤ b.2) : ∀ b ∈ e, 0 ≤ b.2 := by
  obtain ⟨M, s, rfl⟩ := h
  exact tolls_rows (s.tl (good_tag ht).tl)
def EndR (a e : HH.Row) : Prop := ∃ L, Steps (tag 0 a) L ∧ Nf L ∧ rowsOf L = e
theorem EndR.lk {a e : HH.Row} (h : EndR a e) : Lk a e := by
  obtain ⟨L, s, _, r⟩ := h
  exact ⟨L, s, r⟩
theorem EndR.one {a e f : HH.Row} (ht : ∀ b ∈ a, 0 ≤ b.2) (h : EndR a e) (g : EndR a f) : e = f := by
  obtain ⟨L, s, n, rfl⟩ := h
  obtain ⟨M, t, m, rfl⟩ := g
  rw [nf_any (good_tag ht).tl s n t m]
theorem EndR.is {a : HH.Row} (ht : ∀ b ∈ a, 0 ≤ b.2) : ∃ e, EndR a e := by
  obtain ⟨N, s, n⟩ := nf_is (good_tag ht).tl
  exact ⟨_, N, s, n, rfl⟩
theorem EndR.back {a b e : HH.Row} (h : Lk a b) (g : EndR b e) : EndR a e := by
  obtain ⟨M, s, rfl⟩ := h
  obtain ⟨N, t, n, rfl⟩ := g
  have t' := t.map (HH.ixN (M.map (·.1)))
  rw [rl_tag] at t'
  exact ⟨_, s.trans t', nf_map n, rl_rows _ _⟩
def Jn (a b : HH.Row) : Prop := ∃ e, Lk a e ∧ Lk b e
theorem Jn.same (a : HH.Row) : Jn a a := ⟨a, Lk.rfl' a, Lk.rfl' a⟩
theorem Jn.to {a e : HH.Row} (h : Lk a e) : Jn a e := ⟨e, h, Lk.rfl' e⟩
theorem Jn.of {a e : HH.Row} (h : Lk e a) : Jn a e := ⟨a, Lk.rfl' a, h⟩
theorem Jn.app {a b c d : HH.Row} (h : Jn a b) (g : Jn c d) : Jn (a ++ c) (b ++ d) := by
  obtain ⟨e, h1, h2⟩ := h
  obtain ⟨f, g1, g2⟩ := g
  exact ⟨e ++ f, h1.app g1, h2.app g2⟩
inductive Jns : List HH.Row → List HH.Row → Prop
  | nil : Jns [] []
  | cons {a b : HH.Row} {rr ss : List HH.Row} : Jn a b → Jns rr ss → Jns (a :: rr) (b :: ss)
theorem Jns.len {rr ss : List HH.Row} (h : Jns rr ss) : rr.length = ss.length := by
  induction h with
  | nil => rfl
  | cons _ _ ih => rw [List.length_cons, List.length_cons, ih]
theorem Jns.of : ∀ {rr ss : List HH.Row}, rr.length = ss.length → (∀ (i : Nat) (a b : HH.Row), rr[i]? = some a → ss[i]? = some b → Jn a b) → Jns rr ss
  | [], [], _, _ => .nil
  | a :: rr, b :: ss, hl, h => .cons (h 0 a b rfl rfl) (Jns.of (by simpa using hl) fun i x y hx hy => h (i + 1) x y hx hy)
theorem Jn.flat : ∀ {rr ss : List HH.Row}, Jns rr ss → Jn rr.flatten ss.flatten
  | _, _, .nil => Jn.same []
  | _, _, .cons h t => by
    rw [List.flatten_cons, List.flatten_cons]
    exact h.app (Jn.flat t)
theorem Jn.ends {a b x y : HH.Row} (ht : ∀ c ∈ a, 0 ≤ c.2) (hu : ∀ c ∈ b, 0 ≤ c.2) (h : Jn a b) (hx : EndR a x) (hy : EndR b y) : y = x := by
  obtain ⟨e, h1, h2⟩ := h
  obtain ⟨z, hz⟩ := EndR.is (h1.tl ht)
  rw [EndR.one ht hx (hz.back h1), EndR.one hu hy (hz.back h2)]
def JnC (L M : List Cow) : Prop := ∃ N, Steps L N ∧ Steps M N
end HH
set_option maxHeartbeats 4000000
namespace HH
open PySem PySem.Spec PyProof.Rows L2 Evl RZ
structure Moved (K : PySem.W.Frag) (H : Hp) (q : Addr) (rs : HH.Row) (L : List Cow) : Prop where
  at_ : LastAt K H q L
  jn : JnC (tag 0 rs) L
  ids : (L.map (·.1)).Perm (List.range rs.length)
  tl : ∀ x ∈ L, 0 ≤ x.2.2
theorem Moved.ex {K : PySem.W.Frag} {H H' : Hp} {q : Addr} {rs : HH.Row} {L : List Cow} (h : Moved K H q rs L) (e : Ex H H') : Moved K H' q rs L := ⟨h.at_.mono e, h.jn, h.ids, h.tl⟩
end HH
set_option maxHeartbeats 4000000
namespace HH
open PySem PySem.Spec PyProof.Rows L2 Evl RZ
def clsB : Stmt → List Stmt
  | .ClassDef (body := l) .. => l
  | _ => []
structure HasX (P : Program) (w : World) (K : PySem.W.Frag) (mg : Str → Option Value) (base : Heap) (k : Nat) (x : Str) (ps : List Str) (sp : Sp) (f : Addr) (fd : FuncData) : Prop where
  G : FnOk P w K mg base (L2.CX P w) k f fd ps sp
  g : mg x = some (.ref f)
  kp : PySem.W.keepIn K (.ref f) = true
  b : Binds K fd ps []
structure HasE (P : Program) (w : World) (K : PySem.W.Frag) (mg : Str → Option Value) (base : Heap) (bk : Bk) (x f : Str) (C fI : Addr) (fd : FuncData) : Prop where
  T : ExcTy K bk f C fI
  F : FnOk P w K mg base CX0 1 fI fd ["self", f] (spIni C f)
  b : Binds K fd ["self", f] []
  g : mg x = some (.ref C)
theorem Has.imp {P : Program} {w : World} {K : PySem.W.Frag} {mg : Str → Option Value} {base : Heap} {k : Nat} {x : Str} {ps : List Str} {sp sp' : Sp} {f : Addr} {fd : FuncData} (h : Has P w K mg base k x ps sp f fd) (i : ∀ vs H Q E, sp' vs H Q E → sp vs H Q E) : Has P w K mg base k x ps sp' f fd := ⟨h.G.imp i, h.g, h.kp, h.b⟩
section
variable {K : PySem.W.Frag} {σ : L2.St} {H : Hp} {ta : TA} {te : TE} {C a d : Addr} {fs : List (Str × V)}
theorem ev_isx {c : V} {u : Value} {r : Bool} (h : EvA ta σ H [.ref a, c]) (ha : H a = some (ExT (.ref C) (some d) a)) (hd : H d = some (.xd fs)) (k : ClsV c u) (e : PySem.W.kitOne K (.ref C) u = some r) : Ev (tCB (rIsX K C) ta) σ H (.bl r) := fun H1 e1 Q q =>
  h H1 e1 _ fun H2 e2 => .inr ⟨a, d, fs, c, u, r, rfl, (e1.trans e2) _ _ ha, (e1.trans e2) _ _ hd, k, e, q H2 e2⟩
theorem ev_xat {f : Str} {v : V} (h : Ev te σ H (.ref a)) (ha : H a = some (ExT (.ref C) (some d) a)) (hd : H d = some (.xd fs)) (l : fs.lookup f = some v) : Ev (tXat C f te) σ H v := fun H1 e1 Q q =>
  h H1 e1 _ fun H2 e2 => ⟨a, d, fs, v, rfl, (e1.trans e2) _ _ ha, (e1.trans e2) _ _ hd, l, q H2 e2⟩
end
theorem lk_one {f : Str} {v : V} : List.lookup f [(f, v)] = some v := by simp [List.lookup]
end HH
set_option maxHeartbeats 4000000
namespace HH
open PySem PySem.Spec PyProof.Rows L2 Evl RZ
end HH
set_option maxHeartbeats 4000000
namespace HH
open PySem PySem.Spec PyProof.Rows L2 Evl RZ
end HH
set_option maxHeartbeats 4000000
namespace HH
open PySem PySem.Spec PyProof.Rows L2 Evl RZ
def Shw (n : Nat) (d : PyData) : Prop := d.showable = true ∧ d.shown.length ≤ n
theorem Shw.le {n m : Nat} {d : PyData} (h : Shw n d) (e : n ≤ m) : Shw m d := ⟨h.1, Nat.le_trans h.2 e⟩
end HH
set_option maxHeartbeats 4000000
namespace HH
open PySem PySem.Spec PyProof.Rows L2 Evl
def SqA (K : PySem.W.Frag) (H : Hp) (a : Addr) (xs : List V) : Prop := SqL K H a xs ∨ SqT K H a xs
theorem SqA.ex {K : PySem.W.Frag} {H H' : Hp} {a : Addr} {xs : List V} (h : SqA K H a xs) (e : Ex H H') : SqA K H' a xs := h.imp (ex_l e) (ex_t e)
end HH
namespace L2
open PySem PySem.Spec PyProof.Rows
structure HeldX (P : Program) (w : World) (K : PySem.W.Frag) (mg : Str → Option Value) (base : Heap) (k : Nat) (f : Addr) (sp : Sp) : Prop where
  ex : ∃ (fd : FuncData) (ps : List Str), FnOk P w K mg base (L2.CX P w) k f fd ps sp ∧ PySem.W.keepIn K (.ref f) = true ∧ Binds K fd ps []
section
variable {X : Cx} {k i : Nat} {E : L2.St → XK} {x : Str} {p pos : Pos} {e : Expr} {es : List Expr} {t : TA}
end
end L2
namespace HH
open PySem PySem.Spec PyProof.Rows L2 Evl
abbrev ZD := Bool × Int
def DeedZ (K : PySem.W.Frag) (H : Hp) (v : V) (d : ZD) : Prop := ∃ p, v = .ref p ∧ SqT K H p [.str (wordOf d.1), .int d.2]
theorem DeedZ.ex {K : PySem.W.Frag} {H H' : Hp} {v : V} {d : ZD} (h : DeedZ K H v d) (e : Ex H H') : DeedZ K H' v d := by
  obtain ⟨p, h1, h2⟩ := h
  exact ⟨p, h1, ex_t e h2⟩
abbrev DeedsZ (K : PySem.W.Frag) (H : Hp) : List V → List ZD → Prop := All2 (DeedZ K H)
theorem DeedsZ.ex' {K : PySem.W.Frag} {H H' : Hp} {us : List V} {ds : List ZD} (h : DeedsZ K H us ds) (e : Ex H H') : DeedsZ K H' us ds := All2.mono (fun _ _ r => r.ex e) h
theorem DeedsZ.exB' {K : PySem.W.Frag} {H H' : Hp} {us : List V} {ds : List ZD} {q : Addr} {ys : List V} (e : ExB q H H') (hq : H q = some (.lst ys)) (h : DeedsZ K H us ds) : DeedsZ K H' us ds := All2.mono (fun v d g => by
  obtain ⟨p, h1, h2⟩ := g
  exact ⟨p, h1, e.t hq h2⟩) h
def swapL (l : List Nat) (p : Nat) : List Nat := l.take p ++ [ixN l (p + 1), ixN l p] ++ l.drop (p + 2)
abbrev StZ := HH.Row × List Nat
def Picked (K : PySem.W.Frag) (H : Hp) (pick : Bool) (v : V) (s : StZ) : Prop := if pick then RowAt K H v s.1 else ∃ t, v = .ref t ∧ SqT K H t (natsV s.2)
theorem Picked.ex {K : PySem.W.Frag} {H H' : Hp} {pick : Bool} {v : V} {s : StZ} (h : Picked K H pick v s) (e : Ex H H') : Picked K H' pick v s := by
  unfold Picked at h ⊢
  cases pick with
  | true => exact RowAt.ex h e
  | false =>
    obtain ⟨t, h1, h2⟩ := h
    exact ⟨t, h1, ex_t e h2⟩
end HH
namespace HH
open PySem PySem.Spec PyProof.Rows L2 Evl
section
variable {K : PySem.W.Frag} {σ : L2.St} {H : Hp} {te ta tb tc : TE} {D : Ends}
end
end HH
namespace HH
open PySem PySem.Spec PyProof.Rows L2 Evl
end HH
namespace HH
open PySem PySem.Spec PyProof.Rows L2 Evl
section
variable {K : PySem.W.Frag} {σ : L2.St} {H : Hp} {te to ta tb tc : TE} {D : Ends}
end
end HH
set_option maxHeartbeats 4000000
namespace HH
open PySem PySem.Spec PyProof.Rows L2 Evl RZ
section
variable {K : PySem.W.Frag} {σ : L2.St} {H : Hp} {te ta tb tc td : TE} {D : Ends}
end
end HH
set_option maxHeartbeats 4000000
namespace HH
open PySem PySem.Spec PyProof.Rows L2 Evl RZ
def DueV (K : PySem.W.Frag) (H : Hp) (y : V) : Nat ⊕ StZ → Prop
  | .inr s => ∃ (q : Addr) (v' : V) (t : Addr), y = .ref q ∧ H q = some (.tup [v', .ref t]) ∧ RowAt K H v' s.1 ∧ SqT K H t (natsV s.2)
  | .inl k => y = .int (k : Int)
def ToldV (K : PySem.W.Frag) (H : Hp) (pick : Bool) (y : V) : Nat ⊕ StZ → Prop
  | .inr s => Picked K H pick y s
  | .inl k => y = .int (k : Int)
theorem ToldV.ex {K : PySem.W.Frag} {H H' : Hp} {pick : Bool} {y : V} {r : Nat ⊕ StZ} (h : ToldV K H pick y r) (e : Ex H H') : ToldV K H' pick y r := by
  cases r with
  | inl k => exact h
  | inr s => exact Picked.ex h e
theorem DueV.ex {K : PySem.W.Frag} {H H' : Hp} {y : V} {r : Nat ⊕ StZ} (h : DueV K H y r) (e : Ex H H') : DueV K H' y r := by
  cases r with
  | inl k => exact h
  | inr s =>
    obtain ⟨q, v', t, h1, h2, h3, h4⟩ := h
    exact ⟨q, v', t, h1, e _ _ h2, h3.ex e, ex_t e h4⟩
section
variable {K : PySem.W.Frag} {σ : L2.St} {H : Hp} {te ta tb tc td : TE} {D : Ends}
end
end HH
namespace HH
open PySem PySem.Spec PyProof.Rows L2 Evl RZ
section
variable {K : PySem.W.Frag} {σ : L2.St} {H : Hp} {te ta tb tc td : TE} {D : Ends}
end
end HH
namespace HH
open PySem PySem.Spec PyProof.Rows L2 Evl RZ
end HH
namespace HH
open PySem PySem.Spec PyProof.Rows L2 Evl RZ
end HH
set_option maxHeartbeats 4000000
namespace HH
open PySem PySem.Spec PyProof.Rows L2 Evl RZ
def StrFit (s : Str) : Prop := PyData.strOk s = true ∧ (reprText s).length ≤ 40
def atomOk (c : Nat) : V → PyData → Prop
  | .non, .none => True
  | .bl b, .bool b' => b = b'
  | .int i, .int i' => i = i' ∧ i.natAbs ≤ 10 ^ 30 + c
  | .str s, .str s' => s = s' ∧ StrFit s
  | _, _ => False
def DaS (R : V → PyData → Prop) (xs : List V) (ds : List PyData) : Prop := xs.length = ds.length ∧ ∀ (i : Nat) (x : V) (e : PyData), xs[i]? = some x → ds[i]? = some e → R x e
def Da (P : Addr → Prop) (K : PySem.W.Frag) (c : Nat) (H : Hp) : Nat → V → PyData → Prop
  | 0, v, d => atomOk c v d
  | k + 1, v, d => atomOk c v d ∨ ∃ (a : Addr) (xs : List V) (ds : List PyData), v = .ref a ∧ ((¬ P a ∧ H a = some (.lst xs) ∧ d = .list ds) ∨ (SqT K H a xs ∧ d = .tuple ds)) ∧ DaS (Da P K c H k) xs ds
section
variable {P : Addr → Prop} {K : PySem.W.Frag} {c : Nat} {H H' : Hp}
theorem Da.ex (e : Ex H H') : ∀ {k : Nat} {v : V} {d : PyData}, Da P K c H k v d → Da P K c H' k v d
  | 0, _, _, h => h
  | k + 1, _, _, .inl h => .inl h
  | k + 1, _, _, .inr ⟨a, xs, ds, h1, h2, h3, h4⟩ => .inr ⟨a, xs, ds, h1, h2.imp (fun ⟨q1, q2, q3⟩ => ⟨q1, e _ _ q2, q3⟩) (fun ⟨q1, q2⟩ => ⟨ex_t e q1, q2⟩), h3, fun i x y hx hy => Da.ex e (h4 i x y hx hy)⟩
theorem Da.exB {p : Addr} {ys : List V} (hP : P p) (e : ExB p H H') (hp : H p = some (.lst ys)) : ∀ {k : Nat} {v : V} {d : PyData}, Da P K c H k v d → Da P K c H' k v d
  | 0, _, _, h => h
  | k + 1, _, _, .inl h => .inl h
  | k + 1, _, _, .inr ⟨a, xs, ds, h1, h2, h3, h4⟩ => .inr ⟨a, xs, ds, h1, h2.imp (fun ⟨q1, q2, q3⟩ => ⟨q1, e _ _ (fun z => q1 (by rw [z]; exact hP)) q2, q3⟩) (fun ⟨q1, q2⟩ => ⟨e.t hp q1, q2⟩), h3, fun i x y hx hy => Da.exB hP e hp (h4 i x y hx hy)⟩
theorem Da.sub {P' : Addr → Prop} (hs : ∀ a, P' a → P a) : ∀ {k : Nat} {v : V} {d : PyData}, Da P K c H k v d → Da P' K c H k v d
  | 0, _, _, h => h
  | k + 1, _, _, .inl h => .inl h
  | k + 1, _, _, .inr ⟨a, xs, ds, h1, h2, h3, h4⟩ => .inr ⟨a, xs, ds, h1, h2.imp (fun ⟨q1, q2, q3⟩ => ⟨fun z => q1 (hs a z), q2, q3⟩) (fun q => q), h3, fun i x y hx hy => Da.sub hs (h4 i x y hx hy)⟩
theorem Da.up : ∀ {k : Nat} {v : V} {d : PyData}, Da P K c H k v d → Da P K c H (k + 1) v d
  | 0, _, _, h => .inl h
  | k + 1, _, _, .inl h => .inl h
  | k + 1, _, _, .inr ⟨a, xs, ds, h1, h2, h3, h4⟩ => .inr ⟨a, xs, ds, h1, h2, h3, fun i x y hx hy => Da.up (h4 i x y hx hy)⟩
theorem Da.ups {k : Nat} {v : V} {d : PyData} (h : Da P K c H k v d) : ∀ j, Da P K c H (k + j) v d
  | 0 => h
  | j + 1 => (Da.ups h j).up
theorem Da.to {k k' : Nat} {v : V} {d : PyData} (h : Da P K c H k v d) (e : k ≤ k') : Da P K c H k' v d := by
  have := h.ups (k' - k)
  rw [show k + (k' - k) = k' by omega] at this
  exact this
theorem atomOk.cc {c' : Nat} (e : c ≤ c') {v : V} {d : PyData} (h : atomOk c v d) : atomOk c' v d := by
  unfold atomOk at h
  split at h
  · exact True.intro
  · exact h
  · exact ⟨h.1, by have := h.2; omega⟩
  · exact h
  · exact h.elim
theorem Da.cc {c' : Nat} (e : c ≤ c') : ∀ {k : Nat} {v : V} {d : PyData}, Da P K c H k v d → Da P K c' H k v d
  | 0, _, _, h => atomOk.cc e h
  | k + 1, _, _, .inl h => .inl (atomOk.cc e h)
  | k + 1, _, _, .inr ⟨a, xs, ds, h1, h2, h3, h4⟩ => .inr ⟨a, xs, ds, h1, h2, h3, fun i x y hx hy => Da.cc e (h4 i x y hx hy)⟩
end
mutual
def wtD : PyData → Nat
  | .none => 50
  | .bool _ => 50
  | .int _ => 50
  | .str _ => 50
  | .list xs => 10 + wtDs xs
  | .tuple xs => 10 + wtDs xs
  | .dict _ => 50
def wtDs : List PyData → Nat
  | [] => 0
  | x :: xs => wtD x + 2 + wtDs xs
end
def tyD : PyData → String
  | .none => "NoneType"
  | .bool _ => "bool"
  | .int _ => "int"
  | .str _ => "str"
  | .list _ => "list"
  | .tuple _ => "tuple"
  | .dict _ => "dict"
section
variable {P : Addr → Prop} {K : PySem.W.Frag} {c : Nat} {H H' : Hp}
theorem atomOk.ty {v : V} {d : PyData} (h : atomOk c v d) : TyN K H v (tyD d) := by
  unfold atomOk at h
  split at h
  · exact .non
  · exact .bl _
  · exact .int _
  · exact .str _
  · exact h.elim
theorem Da.ty {k : Nat} {v : V} {d : PyData} (h : Da P K c H k v d) : TyN K H v (tyD d) := by
  cases k with
  | zero => exact atomOk.ty h
  | succ k =>
    rcases h with h | ⟨a, xs, ds, rfl, h2, _⟩
    · exact atomOk.ty h
    · rcases h2 with ⟨_, h2, rfl⟩ | ⟨h2, rfl⟩
      · exact .lst (K := K) (sq_of h2)
      · exact .tup h2
theorem daS_all {R : V → PyData → Prop} (hR : ∀ v d, R v d → Dp K H v d) : ∀ {xs : List V} {ds : List PyData}, DaS R xs ds → DpAll K H xs ds
  | [], [], _ => .nil
  | [], _ :: _, h => by cases h.1
  | _ :: _, [], h => by cases h.1
  | x :: xs, d :: ds, h => .cons (hR _ _ (h.2 0 x d rfl rfl)) (daS_all hR ⟨Nat.succ.inj h.1, fun i y e hy he => h.2 (i + 1) y e hy he⟩)
theorem atomOk.dp {v : V} {d : PyData} (h : atomOk c v d) : Dp K H v d ∧ Nice 0 d := by
  unfold atomOk at h
  split at h
  · exact ⟨.non, by simp [PyData.canLay0], by simp [PyData.depth]⟩
  · subst h
    exact ⟨.bl _, by simp [PyData.canLay0], by simp [PyData.depth]⟩
  · obtain ⟨rfl, _⟩ := h
    exact ⟨.int _, by simp [PyData.canLay0], by simp [PyData.depth]⟩
  · obtain ⟨rfl, h⟩ := h
    exact ⟨.str _, by simp only [PyData.canLay0]; exact h.1, by simp [PyData.depth]⟩
  · exact h.elim
theorem Da.dp : ∀ {k : Nat} {v : V} {d : PyData}, Da P K c H k v d → Dp K H v d
  | 0, _, _, h => (atomOk.dp h).1
  | k + 1, _, _, .inl h => (atomOk.dp h).1
  | k + 1, _, _, .inr ⟨a, xs, ds, h1, h2, h3⟩ => by
    subst h1
    have := daS_all (K := K) (H := H) (fun v d h => Da.dp h) h3
    rcases h2 with ⟨_, h2, rfl⟩ | ⟨h2, rfl⟩
    · exact .lst (sq_of h2) this
    · exact .tup h2 this
end
end HH
set_option maxHeartbeats 4000000
namespace HH
open PySem PySem.Spec PyProof.Rows L2 Evl RZ
def isListB : PyData → Bool
  | .list _ => true
  | _ => false
def isTupB : PyData → Bool
  | .tuple _ => true
  | _ => false
section
variable {P : Addr → Prop} {K : PySem.W.Frag} {c k : Nat} {H H' : Hp} {σ : L2.St} {te ta tb : TE} {D : Ends} {v : V} {d : PyData}
theorem Da.cont (hd : Da P K c H (k + 1) v d) (h : (isListB d || isTupB d) = true) : ∃ (a : Addr) (xs : List V) (ds : List PyData), v = .ref a ∧ ((¬ P a ∧ H a = some (.lst xs) ∧ d = .list ds) ∨ (SqT K H a xs ∧ d = .tuple ds)) ∧ DaS (Da P K c H k) xs ds := by
  rcases hd with hd | hd
  · unfold atomOk at hd
    split at hd
    · cases h
    · cases h
    · cases h
    · cases h
    · exact hd.elim
  · exact hd
end
section
variable {P : Addr → Prop} {K : PySem.W.Frag} {c k : Nat} {H H' : Hp} {σ : L2.St} {te ta tb : TE} {D : Ends} {v : V} {d : PyData}
theorem DaS.ex {xs : List V} {ds : List PyData} (h : DaS (Da P K c H k) xs ds) (e : Ex H H') : DaS (Da P K c H' k) xs ds := ⟨h.1, fun i x y hx hy => (h.2 i x y hx hy).ex e⟩
theorem DaS.exB {p : Addr} {xs ys : List V} {ds : List PyData} (h : DaS (Da P K c H k) xs ds) (hP : P p) (e : ExB p H H') (hp : H p = some (.lst ys)) : DaS (Da P K c H' k) xs ds := ⟨h.1, fun i x y hx hy => (h.2 i x y hx hy).exB hP e hp⟩
theorem DaS.sub {P' : Addr → Prop} {xs : List V} {ds : List PyData} (h : DaS (Da P K c H k) xs ds) (hs : ∀ a, P' a → P a) : DaS (Da P' K c H k) xs ds := ⟨h.1, fun i x y hx hy => (h.2 i x y hx hy).sub hs⟩
theorem DaS.to {c' k' : Nat} {xs : List V} {ds : List PyData} (h : DaS (Da P K c H k) xs ds) (e : k ≤ k') (e2 : c ≤ c') : DaS (Da P K c' H k') xs ds := ⟨h.1, fun i x y hx hy => ((h.2 i x y hx hy).to e).cc e2⟩
theorem DaS.nil {R : V → PyData → Prop} : DaS R [] [] := ⟨rfl, fun i x e h => by simp at h⟩
theorem DaS.cons {R : V → PyData → Prop} {x : V} {d : PyData} {xs : List V} {ds : List PyData} (h : R x d) (g : DaS R xs ds) : DaS R (x :: xs) (d :: ds) := ⟨by rw [List.length_cons, List.length_cons, g.1], fun i y e hy he => by
  cases i with
  | zero =>
    cases hy
    cases he
    exact h
  | succ i => exact g.2 i y e hy he⟩
theorem DaS.app {R : V → PyData → Prop} {xs ys : List V} {ds es : List PyData} (h : DaS R xs ds) (g : DaS R ys es) : DaS R (xs ++ ys) (ds ++ es) := ⟨by rw [List.length_append, List.length_append, h.1, g.1], fun i y e hy he => by
  by_cases hi : i < xs.length
  · rw [List.getElem?_append_left hi] at hy
    rw [List.getElem?_append_left (by rw [← h.1]; exact hi)] at he
    exact h.2 i y e hy he
  · rw [List.getElem?_append_right (by omega)] at hy
    rw [List.getElem?_append_right (by rw [← h.1]; omega)] at he
    rw [← h.1] at he
    exact g.2 _ y e hy he⟩
theorem DaS.set {R : V → PyData → Prop} {xs : List V} {ds : List PyData} {i : Nat} {x : V} {d : PyData} (h : DaS R xs ds) (g : R x d) : DaS R (xs.set i x) (ds.set i d) := ⟨by rw [List.length_set, List.length_set, h.1], fun j y e hy he => by
  rw [List.getElem?_set] at hy he
  by_cases c : i = j
  · rw [if_pos c] at hy he
    by_cases c2 : j < xs.length
    · rw [if_pos (by omega)] at hy
      rw [if_pos (by rw [← h.1]; omega)] at he
      cases hy
      cases he
      exact g
    · rw [if_neg (by omega)] at hy
      cases hy
  · rw [if_neg c] at hy he
    exact h.2 j y e hy he⟩
theorem DaS.erase {R : V → PyData → Prop} {xs : List V} {ds : List PyData} (i : Nat) (h : DaS R xs ds) : DaS R (xs.eraseIdx i) (ds.eraseIdx i) := ⟨by rw [List.length_eraseIdx, List.length_eraseIdx, h.1], fun j y e hy he => by
  rw [List.getElem?_eraseIdx] at hy he
  by_cases c : j < i
  · rw [if_pos c] at hy he
    exact h.2 j y e hy he
  · rw [if_neg c] at hy he
    exact h.2 _ y e hy he⟩
theorem DaS.take {R : V → PyData → Prop} {xs : List V} {ds : List PyData} (n : Nat) (h : DaS R xs ds) : DaS R (xs.take n) (ds.take n) := ⟨by rw [List.length_take, List.length_take, h.1], fun j y e hy he => by
  rw [List.getElem?_take] at hy he
  by_cases c : j < n
  · rw [if_pos c] at hy he
    exact h.2 j y e hy he
  · rw [if_neg c] at hy
    cases hy⟩
theorem DaS.drop {R : V → PyData → Prop} {xs : List V} {ds : List PyData} (n : Nat) (h : DaS R xs ds) : DaS R (xs.drop n) (ds.drop n) := ⟨by rw [List.length_drop, List.length_drop, h.1], fun j y e hy he => by
  rw [List.getElem?_drop] at hy he
  exact h.2 _ y e hy he⟩
theorem DaS.at' {R : V → PyData → Prop} {xs : List V} {ds : List PyData} {i : Nat} (h : DaS R xs ds) (hi : i < xs.length) : ∃ x d, xs[i]? = some x ∧ ds[i]? = some d ∧ R x d := by
  have h2 : i < ds.length := by rw [← h.1]; exact hi
  exact ⟨_, _, List.getElem?_eq_getElem hi, List.getElem?_eq_getElem h2, h.2 i _ _ (List.getElem?_eq_getElem hi) (List.getElem?_eq_getElem h2)⟩
end
end HH
namespace HH
open PySem PySem.Spec PyProof.Rows L2 Evl RZ
section
variable {P : Addr → Prop} {K : PySem.W.Frag} {c k : Nat} {H H' : Hp} {σ : L2.St} {te te2 ta tb : TE} {D : Ends} {v : V} {d : PyData}
theorem ev_allB {bs : List Bool} (h : EvL te σ H (bs.map V.bl)) : Ev (tCB (rAll K) (tCons te tNil)) σ H (.bl (bs.all id)) := fun H1 e Q q => h H1 e _ fun p H2 hp e2 h2 => ⟨p, bs, rfl, sq_of h2, q H2 e2⟩
end
end HH
namespace HH
open PySem PySem.Spec PyProof.Rows L2 Evl RZ
end HH
namespace HH
open PySem PySem.Spec PyProof.Rows L2 Evl RZ
end HH
namespace HH
open PySem PySem.Spec PyProof.Rows L2 Evl RZ
section
variable {K : PySem.W.Frag} {σ : L2.St} {H : Hp} {t u : TT} {tu tw tz : TS} {D : Ends} {QB : Bool → Hp → Prop}
end
end HH
namespace HH
open PySem PySem.Spec PyProof.Rows L2 Evl RZ
end HH
set_option maxHeartbeats 4000000
namespace HH
open PySem PySem.Spec PyProof.Rows L2 Evl RZ
def ItA (P : Addr → Prop) (K : PySem.W.Frag) (H : Hp) (v : V) : Prop := ∃ d, Da P K 2 H 6 v d ∧ wtD d ≤ 20000
section
variable {P : Addr → Prop} {K : PySem.W.Frag} {c k n : Nat} {H H' : Hp} {σ : L2.St} {te ta tb : TE} {D : Ends} {v : V} {d : PyData} {rs : HH.Row}
theorem ItA.ex (e : Ex H H') (h : ItA P K H v) : ItA P K H' v := by
  obtain ⟨d, h, w⟩ := h
  exact ⟨d, h.ex e, w⟩
theorem ItA.exB {p : Addr} {ys : List V} (hP : P p) (e : ExB p H H') (hp : H p = some (.lst ys)) (h : ItA P K H v) : ItA P K H' v := by
  obtain ⟨d, h, w⟩ := h
  exact ⟨d, h.exB hP e hp, w⟩
theorem ItA.sub {P' : Addr → Prop} (hs : ∀ a, P' a → P a) (h : ItA P K H v) : ItA P' K H v := by
  obtain ⟨d, h, w⟩ := h
  exact ⟨d, h.sub hs, w⟩
end
end HH
namespace HH
end HH
set_option maxHeartbeats 4000000
namespace HH
open PySem PySem.Spec PyProof.Rows L2 Evl
end HH
set_option maxHeartbeats 4000000
namespace HH
open PySem PySem.Spec PyProof.Rows L2 Evl
structure OrdAt (K : PySem.W.Frag) (H : Hp) (v : V) (o : Addr) (rs : HH.Row) (l : List Nat) : Prop where
  row : RowAt K H v rs
  len : rs.length ≤ 30
  tl : ∀ b ∈ rs, 0 ≤ b.2
  ord : SqT K H o (natsV l)
  ids : l.Perm (List.range rs.length)
section
variable {K : PySem.W.Frag} {H H' : Hp} {v : V} {o : Addr} {rs : HH.Row} {l : List Nat}
theorem OrdAt.ex (h : OrdAt K H v o rs l) (e : Ex H H') : OrdAt K H' v o rs l := ⟨h.row.ex e, h.len, h.tl, ex_t e h.ord, h.ids⟩
theorem OrdAt.nd (h : OrdAt K H v o rs l) : l.Nodup := h.ids.nodup_iff.mpr List.nodup_range
theorem OrdAt.lenL (h : OrdAt K H v o rs l) : l.length = rs.length := by rw [h.ids.length_eq, List.length_range]
theorem OrdAt.all (h : OrdAt K H v o rs l) (x : Nat) (hx : x < l.length) : x ∈ l := h.ids.mem_iff.mpr (List.mem_range.mpr (by rw [← h.lenL]; exact hx))
end
end HH
set_option maxHeartbeats 4000000
namespace HH
open PySem PySem.Spec PyProof.Rows L2 Evl
section
variable {K : PySem.W.Frag} {σ : L2.St} {H : Hp} {te t1 t2 : TE} {tt : TT} {l : List Nat} {j : Nat} {vs : List Nat}
end
end HH
set_option maxHeartbeats 4000000
namespace HH
open PySem PySem.Spec PyProof.Rows L2 Evl
section
variable {K : PySem.W.Frag} {σ : L2.St} {H H0 : Hp} {tf tx tv : TE} {D : Ends} {fa a : Addr} {as : List Addr} {t p : Nat → Int} {i : Nat} {d : Int}
end
end HH
set_option maxHeartbeats 4000000
namespace HH
open PySem PySem.Spec PyProof.Rows L2 Evl
section
variable {K : PySem.W.Frag} {σ : L2.St} {H : Hp} {te te2 : TE} {i j : Nat} {vs : List Nat} {a : Addr} {us : List V} {ps : HH.Row}
end
end HH
set_option maxHeartbeats 4000000
namespace HH
open PySem PySem.Spec PyProof.Rows L2 Evl
structure WanF (K : PySem.W.Frag) (H H' : Hp) (p : Addr) (q : Addr) (v' : V) (ot lp : Addr) (us : List V) (L : List Cow) (ds : List Deed) (n m : Nat) : Prop where
  ex : ExB p H H'
  bx : Bx H' p (n + m)
  q : H' q = some (.tup [v', .ref ot, .ref lp])
  row : RowAt K H' v' (rowsOf L)
  ord : FrzT H' ot (natsV (L.map (·.1)))
  lst : H' lp = some (.lst us)
  prs : All2 (DeedAt K H') us ds
end HH
set_option maxHeartbeats 4000000
namespace HH
open PySem PySem.Spec PyProof.Rows L2 Evl RZ
def Sm0 : PyData → Prop
  | .none => True
  | .bool _ => True
  | .int i => i.natAbs ≤ 10 ^ 30
  | _ => False
theorem Sm0.at' {d : PyData} (h : Sm0 d) : ∃ v, atomOk 0 v d := by
  unfold Sm0 at h
  split at h
  · exact ⟨.non, True.intro⟩
  · exact ⟨.bl _, rfl⟩
  · exact ⟨.int _, rfl, h⟩
  · exact h.elim
def NLst (K : PySem.W.Frag) (H : Hp) (v : V) : Prop := Flat v ∨ ∃ a xs, v = .ref a ∧ SqT K H a xs
def lenD : PyData → Nat
  | .list ds => ds.length
  | _ => 0
def AskIt (K : PySem.W.Frag) (H1 H2 : Hp) (v : V) (d : PyData) : Prop := Dp K H2 v d ∧ ((∃ a xs, v = .ref a ∧ H1 a = none ∧ H2 a = some (.lst xs) ∧ xs.length = lenD d) ∨ NLst K H2 v)
section
variable {K : PySem.W.Frag} {H H' H0 H1 H2 : Hp} {σ : L2.St} {te ta tb : TE} {D : Ends} {v : V} {d : PyData} {rs : HH.Row}
theorem NLst.ex (e : Ex H H') (h : NLst K H v) : NLst K H' v := h.imp id fun ⟨a, xs, h1, h2⟩ => ⟨a, xs, h1, ex_t e h2⟩
theorem AskIt.ex (e : Ex H2 H') (h : AskIt K H1 H2 v d) : AskIt K H1 H' v d := ⟨dp_ex e h.1, h.2.imp (fun ⟨a, xs, h1, h2, h3, h4⟩ => ⟨a, xs, h1, h2, e _ _ h3, h4⟩) (NLst.ex e)⟩
theorem AskIt.back (e : Ex H0 H1) (h : AskIt K H1 H2 v d) : AskIt K H0 H2 v d := ⟨h.1, h.2.imp (fun ⟨a, xs, h1, h2, h3, h4⟩ => ⟨a, xs, h1, fresh_back e h2, h3, h4⟩) id⟩
def flatD : V → PyData
  | .int i => .int i
  | .bl b => .bool b
  | _ => .none
end
def AskP (K : PySem.W.Frag) (H1 H3 : Hp) (q : Addr) (v : V) (d : PyData) : Prop := Dp K H3 v d ∧ ((∃ a xs, v = .ref a ∧ a ≠ q ∧ H1 a = none ∧ H3 a = some (.lst xs) ∧ xs.length = lenD d) ∨ NLst K H3 v)
def AskQ (K : PySem.W.Frag) (H1 : Hp) (q : Addr) (H2 : Hp) (v : V) (d : PyData) : Prop := ∀ H3, ExB q H2 H3 → AskP K H1 H3 q v d
section
variable {K : PySem.W.Frag} {H H' H0 H1 H2 : Hp} {σ : L2.St} {te ta tb : TE} {D : Ends} {v : V} {d : PyData} {rs : HH.Row} {q : Addr}
theorem AskQ.x (h : AskQ K H1 q H2 v d) (x : ExB q H2 H') : AskQ K H1 q H' v d := fun H3 y => h H3 (x.trans y)
theorem AskQ.it (h : AskQ K H1 q H2 v d) : AskIt K H1 H2 v d := by
  obtain ⟨h1, h2⟩ := h H2 (ExB.refl _ _)
  exact ⟨h1, h2.imp (fun ⟨a, xs, g1, _, g2, g3, g4⟩ => ⟨a, xs, g1, g2, g3, g4⟩) id⟩
end
structure Knows (rs : HH.Row) (L F : List Cow) (z : V) (i : Nat) : Prop where
  len : rs.length ≤ 30
  lt : i < rs.length
  tl : ∀ b ∈ rs, 0 ≤ b.2
  low : ∀ b ∈ rs, Low b
  last : ∀ M, Steps (tag 0 rs) M → NfR M → M = L
  first : ∀ M, FSteps (tag 0 rs) M → FfR M → M = F
  stop : ∀ (M : List Cow) (j : Nat), Steps (tag 0 (rs.take (i + 1))) M → Nf M → (M.map (·.1))[j]? = some i → stopAt (M.map (·.1)) j = z
  flat : Flat z
  dp : ∀ (K : PySem.W.Frag) H', Dp K H' z (flatD z)
section
variable {K : PySem.W.Frag} {H : Hp} {σ : L2.St} {te ta tb tc : TE} {v : V} {rs : HH.Row}
end
end HH
set_option maxHeartbeats 4000000
namespace HH
open PySem PySem.Spec PyProof.Rows L2 Evl RZ
section
variable {P : Addr → Prop} {K : PySem.W.Frag} {c k : Nat} {H : Hp}
end
end HH
namespace HH
open PySem PySem.Spec PyProof.Rows L2 Evl RZ
end HH
namespace HH
open PySem PySem.Spec PyProof.Rows L2 Evl RZ
end HH
set_option maxHeartbeats 4000000
namespace HH
open PySem PySem.Spec PyProof.Rows L2 Evl RZ
def LB (b : Int × Int) : Prop := -(10 ^ 13) ≤ b.1 ∧ b.1 ≤ 10 ^ 13 ∧ 0 ≤ b.2 ∧ b.2 ≤ 10 ^ 12
end HH
namespace HH
open PySem PySem.Spec PyProof.Rows L2 Evl RZ
end HH
set_option maxHeartbeats 4000000
namespace HH
open PySem PySem.Spec PyProof.Rows L2 Evl RZ
section
variable {K : PySem.W.Frag} {H H' H0 H1 H2 : Hp} {σ : L2.St} {te ta tb : TE} {D : Ends} {v : V} {d : PyData} {rs : HH.Row} {tz : TS}
def Spt (K : PySem.W.Frag) (H0 : Hp) (q : Addr) (n : Nat) (H : Hp) (v : V) : Prop := (∃ a xs, v = .ref a ∧ a ≠ q ∧ H0 a = none ∧ H a = some (.lst xs) ∧ xs.length ≤ n) ∨ NLst K H v
theorem NLst.mut {b : Addr} {xs ys : List V} (h : NLst K H v) (hb : H b = some (.lst xs)) : NLst K (upd H b (.lst ys)) v := h.imp id fun ⟨a, zs, h1, h2⟩ => ⟨a, zs, h1, ((ExB.refl b H).upd (o := .lst ys)).t hb h2⟩
theorem Spt.mut {b q : Addr} {n : Nat} {xs ys : List V} (h : Spt K H0 q n H v) (hb : H b = some (.lst xs)) (hy : ys.length ≤ n + 1) : Spt K H0 q (n + 1) (upd H b (.lst ys)) v := by
  rcases h with ⟨a, zs, rfl, h1, h2, h3, h4⟩ | h
  · by_cases e : a = b
    · subst e
      exact .inl ⟨a, ys, rfl, h1, h2, upd_same, hy⟩
    · exact .inl ⟨a, zs, rfl, h1, h2, by rw [upd_ne e]; exact h3, by omega⟩
  · exact .inr (h.mut hb)
theorem Spt.up {q : Addr} {n : Nat} (h : Spt K H0 q n H v) (e : Ex H H') : Spt K H0 q (n + 1) H' v := by
  rcases h with ⟨a, zs, rfl, h1, h2, h3, h4⟩ | h
  · exact .inl ⟨a, zs, rfl, h1, h2, e _ _ h3, by omega⟩
  · exact .inr (h.ex e)
theorem NLst.ty (h : NLst K H v) : ∃ T, TyN K H v T ∧ kitB T "list" = some false := by
  rcases h with h | ⟨a, xs, rfl, h⟩
  · unfold Flat at h
    split at h
    · exact ⟨"int", .int _, rfl⟩
    · exact ⟨"bool", .bl _, rfl⟩
    · exact ⟨"str", .str _, rfl⟩
    · exact ⟨"NoneType", .non, rfl⟩
    · exact h.elim
  · exact ⟨"tuple", .tup h, rfl⟩
end
end HH
set_option maxHeartbeats 4000000
namespace HH
open PySem PySem.Spec PyProof.Rows L2 Evl RZ
end HH
set_option maxHeartbeats 4000000
namespace HH
open PySem PySem.Spec PyProof.Rows L2 Evl RZ
theorem ListsF.exB {H0 H H' : Hp} {us : List V} {ll : List (List Nat)} {p : Addr} {o : HO} (h : ListsF H0 H us ll) (e : ExB p H H') (hp : H0 p = some o) : ListsF H0 H' us ll := ⟨h.len, fun i l hl => by
  obtain ⟨c, h1, h2, h3⟩ := h.at' i l hl
  exact ⟨c, h1, h2, e _ _ (Ne.symm (ne_of_none hp h2)) h3⟩⟩
end HH
set_option maxHeartbeats 4000000
namespace HH
open PySem PySem.Spec PyProof.Rows L2 Evl RZ
section
variable {K : PySem.W.Frag} {σ : L2.St} {H H' : Hp} {ta tb te te2 : TE} {t : TT} {v : V}
end
end HH
set_option maxHeartbeats 4000000
namespace HH
open PySem PySem.Spec PyProof.Rows L2 Evl RZ
section
variable {K : PySem.W.Frag} {H H' H0 H1 H2 : Hp} {σ : L2.St} {te ta tb tc : TE} {D : Ends} {v : V} {d : PyData} {rs : HH.Row} {tz : TS}
end
end HH
set_option maxHeartbeats 4000000
namespace HH
open PySem PySem.Spec PyProof.Rows L2 Evl
end HH
set_option maxHeartbeats 4000000
namespace HH
open PySem PySem.Spec PyProof.Rows L2 Evl
section
variable {K : PySem.W.Frag} {σ : L2.St} {H H' : Hp} {ta tb te to ts : TE} {v : V}
section
variable {rs : HH.Row} {L E Y M : List Cow} {d1 d2 : List Deed} {px : Nat → Nat} {tT tB tO tN t8 t9 : TE} {vT : V} {bk oT : Addr}
end
end
end HH
set_option maxHeartbeats 4000000
namespace HH
open PySem PySem.Spec PyProof.Rows L2 Evl RZ
theorem FrzT.exL {H H' : Hp} {p a : Addr} {xs ys : List V} (h : FrzT H a xs) (e : ExB p H H') (hp : H p = some (.lst ys)) : FrzT H' a xs := by
  obtain ⟨o, po, h⟩ := h
  refine ⟨o, po, e _ _ (fun z => ?_) h⟩
  rw [z, hp] at h
  cases h
section
variable {X : Cx} {es : List Expr} {t : TA} {pos : Pos}
end
end HH
namespace HH
open PySem PySem.Spec PyProof.Rows L2 Evl RZ
end HH
set_option maxHeartbeats 4000000
namespace HH
open PySem PySem.Spec PyProof.Rows L2 Evl RZ
structure KnownEnd (r e : HH.Row) (o : List Nat) (tb : List (List Nat)) : Prop where
  len : r.length ≤ 10
  tl : ∀ b ∈ r, 0 ≤ b.2
  end_ : ∃ L, Steps (tag 0 r) L ∧ NfR L ∧ rowsOf L = e ∧ L.map (·.1) = o
  nev : nevT r = tb
  prs : tabP (fun i k => !decide ((i + 1 + k) ∈ tb.getD i [])) r.length r.length = tab o r.length r.length
section
variable {K : PySem.W.Frag} {H H' H0 H1 H2 : Hp} {σ : L2.St} {te ta tb tc : TE} {D : Ends} {v : V} {d : PyData} {rs : HH.Row} {tz : TS}
def ListsA (K : PySem.W.Frag) (H : Hp) : List V → List (List Nat) → Prop := fun us ll => us.length = ll.length ∧ ∀ (i : Nat) (l : List Nat), ll[i]? = some l → ∃ p, us[i]? = some (.ref p) ∧ SqL K H p (natsV l)
theorem ListsA.ex {us : List V} {ll : List (List Nat)} (h : ListsA K H us ll) (e : Ex H H') : ListsA K H' us ll := ⟨h.1, fun i l hl => by
  obtain ⟨p, p1, p2⟩ := h.2 i l hl
  exact ⟨p, p1, ex_l e p2⟩⟩
theorem ListsA.cons {us : List V} {ll : List (List Nat)} {a : Addr} {l : List Nat} (h : ListsA K H us ll) (g : SqL K H a (natsV l)) : ListsA K H (.ref a :: us) (l :: ll) := ⟨by rw [List.length_cons, List.length_cons, h.1], fun i m hm => by
  cases i with
  | zero =>
    cases Option.some.inj hm
    exact ⟨a, rfl, g⟩
  | succ i => exact h.2 i m hm⟩
theorem el_mapRow {t : TE} {i j : Nat} {vs : List Nat} (g : Int × Int → V) (h : EvR K te σ H rs) (hl : rs.length ≤ 1000) (hw : ∀ x y, wipe (((wipe σ vs).set i (some x)).set j (some y)) vs = wipe σ vs)
    (h1 : ∀ (b : Int × Int) H1, Ex H H1 → b ∈ rs → Ev t (((wipe σ vs).set i (some (.int b.1))).set j (some (.int b.2))) H1 (g b)) : EvL (tLc (iTup K te) (gTup K 2 (gCons (gName i) (gCons (gName j) gNil))) tYes t vs) σ H (rs.map g) := fun H0 e0 Q q => by
  refine h H0 e0 _ fun v H1 e1 hv => ?_
  obtain ⟨a, us, rfl, hs, bs⟩ := hv
  refine ⟨a, rfl, ⟨us, hs⟩, fun D hD => ?_⟩
  have e01 := e0.trans e1
  have bs := beasts_2 bs
  have ul : us.length = rs.length := bs.len
  refine in_it (walk_tup (xs := us)) (fun k H2 => Ex H1 H2 ∧ H2 D = some (.lst ((rs.take k).map g))) ⟨Ex.new hD, upd_same⟩ (fun k H2 _ z => ex_t z.1 hs) (fun k x H2 H3 hk z y => ?_) (fun H2 z => ?_)
  · obtain ⟨rfl, hx⟩ := y
    obtain ⟨z1, z2⟩ := z
    obtain ⟨b, hb, pp, rfl, hpp⟩ := bs.get hx
    have hm := List.mem_of_getElem? hb
    refine ⟨pp, _, rfl, ex_t z1 hpp, rfl, _, _, rfl, _, _, rfl, rfl, hw _ _, ?_⟩
    refine t_yes ?_
    refine (h1 b _ (e01.trans z1) hm) _ (Ex.refl _) _ fun H4 e4 => ?_
    refine ⟨_, e4 _ _ z2, sz_lt (by rw [List.length_map, List.length_take]; omega), Ex.mut (z1.trans e4) hD, ?_⟩
    rw [List.take_add_one, hb, List.map_append]
    exact upd_same
  · obtain ⟨z1, z2⟩ := z
    rw [ul, List.take_length] at z2
    exact q D H2 (fresh_back e1 hD) (e1.trans z1) z2
end
def dear : HH.Row := [(0, 10), (5, 1), (20, 2)]
abbrev Item := Int × HH.Row × List Nat × List (List Nat)
section
variable {K : PySem.W.Frag} {H H' H0 H1 H2 : Hp} {σ : L2.St} {te ta tb tc td : TE} {D : Ends} {v : V} {d : PyData} {rs : HH.Row} {tz : TS}
def ItemAt (K : PySem.W.Frag) (H : Hp) (x : V) (it : Item) : Prop := ∃ a ve oa ta, x = .ref a ∧ SqT K H a [.int it.1, ve, .ref oa, .ref ta] ∧ RowAt K H ve it.2.1 ∧ FrzT H oa (natsV it.2.2.1) ∧ TabAt K H ta it.2.2.2
theorem ItemAt.ex {x : V} {it : Item} (h : ItemAt K H x it) (e : Ex H H') : ItemAt K H' x it := by
  obtain ⟨a, ve, oa, ta, rfl, h1, h2, ⟨o, h3, h4⟩, h5⟩ := h
  exact ⟨a, ve, oa, ta, rfl, ex_t e h1, h2.ex e, ⟨o, h3, e _ _ h4⟩, h5.mono e⟩
end
end HH
set_option maxHeartbeats 4000000
namespace HH
open PySem PySem.Spec PyProof.Rows L2 Evl RZ
abbrev Lot := Int × Int × Int
def LotAt (K : PySem.W.Frag) (H : Hp) (v : V) (l : Lot) : Prop := ∃ p, v = .ref p ∧ SqT K H p [.int l.1, .int l.2.1, .int l.2.2]
abbrev LotsA (K : PySem.W.Frag) (H : Hp) : List V → List Lot → Prop := All2 (LotAt K H)
def HerdAt (K : PySem.W.Frag) (H : Hp) (v : V) (ls : List Lot) : Prop := ∃ a us, v = .ref a ∧ SqT K H a us ∧ LotsA K H us ls
section
variable {K : PySem.W.Frag} {H H' : Hp} {v : V} {l : Lot} {ls : List Lot} {us : List V}
theorem LotAt.ex (h : LotAt K H v l) (e : Ex H H') : LotAt K H' v l := by
  obtain ⟨p, h1, h2⟩ := h
  exact ⟨p, h1, ex_t e h2⟩
theorem LotAt.exB {q : Addr} {ys : List V} (h : LotAt K H v l) (e : ExB q H H') (hq : H q = some (.lst ys)) : LotAt K H' v l := by
  obtain ⟨p, h1, h2⟩ := h
  exact ⟨p, h1, e.t hq h2⟩
theorem LotsA.ex' (h : LotsA K H us ls) (e : Ex H H') : LotsA K H' us ls := All2.mono (fun _ _ r => r.ex e) h
theorem LotsA.exB' {q : Addr} {ys : List V} (h : LotsA K H us ls) (e : ExB q H H') (hq : H q = some (.lst ys)) : LotsA K H' us ls := All2.mono (fun _ _ r => r.exB e hq) h
theorem HerdAt.ex (h : HerdAt K H v ls) (e : Ex H H') : HerdAt K H' v ls := by
  obtain ⟨a, us, h1, h2, h3⟩ := h
  exact ⟨a, us, h1, ex_t e h2, LotsA.ex' h3 e⟩
theorem HerdAt.exB {q : Addr} {n : Nat} (h : HerdAt K H v ls) (e : ExB q H H') (hq : Bx H q n) : HerdAt K H' v ls := by
  obtain ⟨a, us, h1, h2, h3⟩ := h
  obtain ⟨xs, hx⟩ := hq.lst
  exact ⟨a, us, h1, e.t hx h2, LotsA.exB' h3 e hx⟩
end
def alikeB (acc : List Lot) (s t : Int) : Bool := match acc.getLast? with
  | some l => decide (l.1 = s ∧ l.2.1 = t)
  | none => false
def popL (acc : List Lot) (s t : Int) : List Lot := if alikeB acc s t = true then acc.dropLast else acc
def befL (acc : List Lot) (s t : Int) : Int := if alikeB acc s t = true then (acc.getLast?.getD (0, 0, 0)).2.2 else 0
def packStep (acc : List Lot) (l : Lot) : List Lot := popL acc l.1 l.2.1 ++ [(l.1, l.2.1, befL acc l.1 l.2.1 + l.2.2)]
def packL (ls : List Lot) : List Lot := ls.foldl packStep []
def ones (rs : HH.Row) : List Lot := rs.map fun b => (b.1, b.2, 1)
def sprR (ls : List Lot) : HH.Row := ls.flatMap fun l => List.replicate l.2.2.toNat (l.1, l.2.1)
theorem alike_snoc (acc : List Lot) (l : Lot) (s t : Int) : alikeB (acc ++ [l]) s t = decide (l.1 = s ∧ l.2.1 = t) := by
  unfold alikeB
  rw [List.getLast?_concat]
theorem spr_app (a b : List Lot) : sprR (a ++ b) = sprR a ++ sprR b := List.flatMap_append ..
theorem alike_ex {acc : List Lot} {s t : Int} (h : alikeB acc s t = true) : ∃ pre m, acc = pre ++ [(s, t, m)] := by
  unfold alikeB at h
  cases c : acc.getLast? with
  | none => rw [c] at h; cases h
  | some l =>
    rw [c] at h
    have h := of_decide_eq_true h
    have hne : acc ≠ [] := fun z => by rw [z] at c; cases c
    refine ⟨acc.dropLast, l.2.2, ?_⟩
    have e := List.dropLast_concat_getLast hne
    rw [List.getLast?_eq_some_getLast hne] at c
    have c := Option.some.inj c
    rw [c] at e
    rw [← h.1, ← h.2]
    exact e.symm
theorem step_alike (pre : List Lot) (s t m k : Int) : packStep (pre ++ [(s, t, m)]) (s, t, k) = pre ++ [(s, t, m + k)] := by
  unfold packStep popL befL
  have e : alikeB (pre ++ [(s, t, m)]) s t = true := by rw [alike_snoc]; exact decide_eq_true ⟨rfl, rfl⟩
  show (if alikeB (pre ++ [(s, t, m)]) s t = true then _ else _) ++ [(s, t, (if alikeB (pre ++ [(s, t, m)]) s t = true then _ else _) + k)] = _
  rw [if_pos e, if_pos e, List.dropLast_concat, List.getLast?_concat]
  rfl
theorem step_other {acc : List Lot} {s t k : Int} (h : alikeB acc s t = false) : packStep acc (s, t, k) = acc ++ [(s, t, k)] := by
  unfold packStep popL befL
  show (if alikeB acc s t = true then _ else _) ++ [(s, t, (if alikeB acc s t = true then _ else _) + k)] = _
  rw [if_neg (by rw [h]; exact Bool.false_ne_true), if_neg (by rw [h]; exact Bool.false_ne_true), Int.zero_add]
def PosL (ls : List Lot) : Prop := ∀ l ∈ ls, 1 ≤ l.2.2
theorem step_pos {acc : List Lot} {l : Lot} (h : PosL acc) (hl : 1 ≤ l.2.2) : PosL (packStep acc l) := by
  obtain ⟨s, t, k⟩ := l
  cases c : alikeB acc s t with
  | true =>
    obtain ⟨pre, m, rfl⟩ := alike_ex c
    rw [step_alike]
    intro x hx
    rcases List.mem_append.mp hx with g | g
    · exact h x (List.mem_append_left _ g)
    · rw [List.mem_singleton.mp g]
      have := h (s, t, m) (by simp)
      show 1 ≤ m + k
      have hl : 1 ≤ k := hl
      have this : 1 ≤ m := this
      omega
  | false =>
    rw [step_other c]
    intro x hx
    rcases List.mem_append.mp hx with g | g
    · exact h x g
    · rw [List.mem_singleton.mp g]
      exact hl
theorem fold_pos : ∀ (ls acc : List Lot), PosL acc → PosL ls → PosL (ls.foldl packStep acc)
  | [], acc, h, _ => h
  | l :: ls, acc, h, g => fold_pos ls (packStep acc l) (step_pos h (g l (List.mem_cons_self ..))) fun x hx => g x (List.mem_cons_of_mem _ hx)
theorem packL_pos {ls : List Lot} (h : PosL ls) : PosL (packL ls) := fold_pos ls [] (fun x hx => nomatch hx) h
theorem step_spr {acc : List Lot} {l : Lot} (h : PosL acc) (hl : 1 ≤ l.2.2) : sprR (packStep acc l) = sprR acc ++ List.replicate l.2.2.toNat (l.1, l.2.1) := by
  obtain ⟨s, t, k⟩ := l
  have one : ∀ m : Int, sprR [(s, t, m)] = List.replicate m.toNat (s, t) := fun m => by
    unfold sprR
    simp
  cases c : alikeB acc s t with
  | true =>
    obtain ⟨pre, m, rfl⟩ := alike_ex c
    have hm : 1 ≤ m := h (s, t, m) (by simp)
    have hk : 1 ≤ k := hl
    rw [step_alike, spr_app, spr_app, one, one, List.append_assoc, List.replicate_append_replicate, show m.toNat + k.toNat = (m + k).toNat by omega]
  | false =>
    rw [step_other c, spr_app, one]
theorem fold_spr : ∀ (ls acc : List Lot), PosL acc → PosL ls → sprR (ls.foldl packStep acc) = sprR acc ++ sprR ls
  | [], acc, _, _ => by
    show sprR acc = sprR acc ++ []
    rw [List.append_nil]
  | l :: ls, acc, h, g => by
    have hl := g l (List.mem_cons_self ..)
    rw [List.foldl_cons, fold_spr ls _ (step_pos h hl) (fun x hx => g x (List.mem_cons_of_mem _ hx)), step_spr h hl, List.append_assoc]
    congr 1
theorem packL_spr {ls : List Lot} (h : PosL ls) : sprR (packL ls) = sprR ls := by
  have := fold_spr ls [] (fun x hx => nomatch hx) h
  exact this
theorem ones_pos (rs : HH.Row) : PosL (ones rs) := fun l hl => by
  obtain ⟨b, _, rfl⟩ := List.mem_map.mp hl
  exact Int.le_refl 1
theorem ones_spr : ∀ rs : HH.Row, sprR (ones rs) = rs
  | [] => rfl
  | b :: rs => by
    have := ones_spr rs
    unfold ones sprR at this ⊢
    rw [List.map_cons, List.flatMap_cons, this]
    rfl
section
variable {K : PySem.W.Frag} {σ : L2.St} {H H' : Hp} {te : TE} {v : V} {Q : VK}
end
section
variable {X : Cx}
end
theorem ret_run {te : TE} {D : Ends} {σ : L2.St} {H : Hp} (h : te σ H D.rt) : tRet te D σ H := h
end HH
set_option maxHeartbeats 4000000
namespace HH
open PySem PySem.Spec PyProof.Rows L2 Evl RZ
def manyP (spare toll many : Int) : Int := if spare ≤ 0 then 0 else if toll = 0 then many else if (spare - 1) / toll < many then (spare - 1) / toll else many
def lS (ls : List Lot) (i : Nat) : Int := (ls[i]?.getD (0, 0, 0)).1
def lT (ls : List Lot) (i : Nat) : Int := (ls[i]?.getD (0, 0, 0)).2.1
def lM (ls : List Lot) (i : Nat) : Int := (ls[i]?.getD (0, 0, 0)).2.2
def goL (st : List Int) (ls : List Lot) (w : Nat) : HH.Row → HH.Row → Int → Int → HH.Row × Int × Int
  | [], B, s, t => (((w : Int), lM ls w) :: B, s, t)
  | x :: r, B, s, t =>
    if manyP (s - st.getD x.1.toNat 0) (lT ls x.1.toNat) x.2 < x.2 then
      (if manyP (s - st.getD x.1.toNat 0) (lT ls x.1.toNat) x.2 > 0 then r.reverse ++ (x.1, x.2 - manyP (s - st.getD x.1.toNat 0) (lT ls x.1.toNat) x.2) :: ((w : Int), lM ls w) :: (x.1, manyP (s - st.getD x.1.toNat 0) (lT ls x.1.toNat) x.2) :: B else r.reverse ++ x :: ((w : Int), lM ls w) :: B,
        s - manyP (s - st.getD x.1.toNat 0) (lT ls x.1.toNat) x.2 * lT ls x.1.toNat, t + manyP (s - st.getD x.1.toNat 0) (lT ls x.1.toNat) x.2)
    else goL st ls w r (x :: B) (s - manyP (s - st.getD x.1.toNat 0) (lT ls x.1.toNat) x.2 * lT ls x.1.toNat) (t + manyP (s - st.getD x.1.toNat 0) (lT ls x.1.toNat) x.2)
def endG (ls : List Lot) : Nat → HH.Row × List Int × List Int
  | 0 => ([], ls.map (·.1), [])
  | w + 1 => let e := endG ls w; let R := goL e.2.1 ls w e.1.reverse [] (e.2.1.getD w 0) 0; (R.1, e.2.1.set w R.2.1, e.2.2 ++ [R.2.2])
def Fit (ls : List Lot) : Prop := ls.length ≤ 100 ∧ ∀ l ∈ ls, 0 ≤ l.2.1 ∧ l.2.1 < 1152921504606846976 ∧ 0 ≤ l.2.2 ∧ l.2.2 < 1152921504606846976
theorem lot_get {ls : List Lot} {i : Nat} (h : i < ls.length) : ls[i]? = some (lS ls i, lT ls i, lM ls i) := by
  unfold lS lT lM
  rw [List.getElem?_eq_getElem h]
  rfl
theorem Fit.at' {ls : List Lot} (h : Fit ls) {i : Nat} (hi : i < ls.length) : 0 ≤ lT ls i ∧ lT ls i < 1152921504606846976 ∧ 0 ≤ lM ls i ∧ lM ls i < 1152921504606846976 := h.2 _ (List.mem_of_getElem? (lot_get hi))
def Bel (w : Nat) (line : HH.Row) : Prop := ∀ x ∈ line, ∃ j : Nat, x.1 = (j : Int) ∧ j < w
theorem Bel.app {w : Nat} {a b : HH.Row} (h : Bel w a) (g : Bel w b) : Bel w (a ++ b) := fun x hx => (List.mem_append.mp hx).elim (h x) (g x)
theorem Bel.up {w : Nat} {a : HH.Row} (h : Bel w a) : Bel (w + 1) a := fun x hx => by
  obtain ⟨j, e, hj⟩ := h x hx
  exact ⟨j, e, by omega⟩
def goF (st : List Int) (ls : List Lot) (w : Nat) : List Nat → List Nat → Int → List Nat × Int
  | pre, [], s => (pre ++ [w], s)
  | pre, x :: r, s => if s > st.getD x 0 then goF st ls w (pre ++ [x]) r (s + lM ls x * lT ls x) else (pre ++ w :: x :: r, s)
def begG (ls : List Lot) (n : Nat) : Nat → List Nat × List Int
  | 0 => ([], ls.map (·.1))
  | k + 1 => let e := begG ls n k; let R := goF e.2 ls (n - (k + 1)) [] e.1 (e.2.getD (n - (k + 1)) 0); (R.1, e.2.set (n - (k + 1)) R.2)
def lastLots (ls : List Lot) : List Lot := (endG ls ls.length).1.map fun x => ((endG ls ls.length).2.1.getD x.1.toNat 0, lT ls x.1.toNat, x.2)
def firstLots (ls : List Lot) : List Lot := (begG ls ls.length ls.length).1.map fun x => ((begG ls ls.length ls.length).2.getD x 0, lT ls x, lM ls x)
end HH
set_option maxHeartbeats 4000000
namespace HH
open PySem PySem.Spec PyProof.Rows L2 Evl RZ
section
variable {K : PySem.W.Frag} {H H' H0 H1 H2 : Hp} {σ : L2.St} {te ta tb tc ti : TE} {D : Ends} {v : V} {ls : List Lot} {tz : TS}
theorem HerdAt.exL {q : Addr} {ys : List V} (h : HerdAt K H v ls) (e : ExB q H H') (hq : H q = some (.lst ys)) : HerdAt K H' v ls := by
  obtain ⟨a, us, h1, h2, h3⟩ := h
  exact ⟨a, us, h1, e.t hq h2, LotsA.exB' h3 e hq⟩
theorem ExB2.of {a b : Addr} (e : Ex H H') : ExB2 a b H H' := fun c o _ _ h => e c o h
theorem ExB2.trans {a b : Addr} (x : ExB2 a b H H1) (y : ExB2 a b H1 H2) : ExB2 a b H H2 := fun c o n1 n2 h => y c o n1 n2 (x c o n1 n2 h)
theorem ExB2.fst {a b : Addr} {o : HO} (x : ExB2 a b H H') : ExB2 a b H (upd H' a o) := fun c u n1 n2 h => by
  rw [upd_ne n1]
  exact x c u n1 n2 h
theorem ExB2.snd {a b : Addr} {o : HO} (x : ExB2 a b H H') : ExB2 a b H (upd H' b o) := fun c u n1 n2 h => by
  rw [upd_ne n2]
  exact x c u n1 n2 h
end
end HH
set_option maxHeartbeats 4000000
namespace HH
open PySem PySem.Spec PyProof.Rows L2 Evl RZ
def stepA (ah : List Nat) (pr : Int × Int) : List Nat := ah.set pr.2.toNat (putB (ah.getD pr.2.toNat 0) pr.1.toNat)
def aheadF (kp : HH.Row) (n : Nat) : List Nat := kp.foldl stepA (List.replicate n 0)
def keptT (E B : List Cow) (n : Nat) : HH.Row := tabP (keepP (E.map (·.1)) (B.map (·.1))) n n
section
variable {K : PySem.W.Frag} {σ : L2.St} {H H' : Hp} {ta tb tc ti te : TE} {D : Ends} {tz : TS}
end
end HH
set_option maxHeartbeats 4000000
namespace HH
open PySem PySem.Spec PyProof.Rows L2 Evl RZ
end HH
set_option maxHeartbeats 4000000
namespace HH
open PySem PySem.Spec PyProof.Rows L2 Evl RZ
end HH
set_option maxHeartbeats 4000000
namespace HH
open PySem PySem.Spec PyProof.Rows L2 Evl RZ
structure EndsOf (rs : HH.Row) (E B : List Cow) : Prop where
  sE : Steps (tag 0 rs) E
  nE : Nf E
  sB : FSteps (tag 0 rs) B
  nB : Ff B
section
variable {K : PySem.W.Frag} {σ : L2.St} {H : Hp} {tl : TE}
end
end HH
set_option maxHeartbeats 4000000
namespace HH
open PySem PySem.Spec PyProof.Rows L2 Evl RZ
section
variable {K : PySem.W.Frag} {σ : L2.St} {H : Hp}
end
end HH
set_option maxHeartbeats 4000000
namespace HH
open PySem PySem.Spec PyProof.Rows L2 Evl RZ
end HH
set_option maxHeartbeats 4000000
namespace HH
open PySem PySem.Spec PyProof.Rows L2 Evl RZ
section
variable {K : PySem.W.Frag} {σ : L2.St} {H : Hp} {ta tb : TE}
end
end HH
set_option maxHeartbeats 4000000
namespace HH
open PySem PySem.Spec PyProof.Rows L2 Evl RZ
section
variable {K : PySem.W.Frag} {σ : L2.St} {H : Hp} {ta tb te : TE} {x y : V}
end
def keyN (l : List Nat) : List Key := keyI (l.map fun (k : Nat) => (k : Int))
theorem keyN_V (l : List Nat) : (keyN l).map kV = natsV l := by
  unfold keyN
  rw [keyI_V, ← natsV_int]
theorem keyN_inj {l m : List Nat} (h : keyN l = keyN m) : l = m := by
  have h2 : natsV l = natsV m := by rw [← keyN_V, ← keyN_V, h]
  unfold natsV at h2
  exact List.map_inj_right (fun a b e => by injection e with e; omega) |>.mp h2
structure GoneD (K : PySem.W.Frag) (H : Hp) (rs : HH.Row) (kvs : List (List Key × V)) (G : List (List Nat)) : Prop where
  keys : kvs.map (·.1) = G.map keyN
  nd : G.Nodup
  rows : ∀ l ∈ G, ∃ v L ds, valV kvs (keyN l) = some v ∧ MRun (tag 0 rs) L ds ∧ L.map (·.1) = l ∧ RowAt K H v (rowsOf L)
theorem GoneD.ex {K : PySem.W.Frag} {H H' : Hp} {rs : HH.Row} {kvs : List (List Key × V)} {G : List (List Nat)} (h : GoneD K H rs kvs G) (e : Ex H H') : GoneD K H' rs kvs G := ⟨h.keys, h.nd, fun l hl => by
  obtain ⟨v, L, ds, h1, h2, h3, h4⟩ := h.rows l hl
  exact ⟨v, L, ds, h1, h2, h3, h4.ex e⟩⟩
theorem GoneD.has {K : PySem.W.Frag} {H : Hp} {rs : HH.Row} {kvs : List (List Key × V)} {G : List (List Nat)} (h : GoneD K H rs kvs G) (l : List Nat) : (valV kvs (keyN l)).isSome = decide (l ∈ G) := by
  by_cases c : l ∈ G
  · obtain ⟨v, _, _, h1, _⟩ := h.rows l c
    rw [h1, decide_eq_true c]
    rfl
  · rw [decide_eq_false c, ← valV_any]
    rw [List.any_eq_false]
    intro kv hkv z
    have z := of_decide_eq_true z
    have : kv.1 ∈ G.map keyN := by rw [← h.keys]; exact List.mem_map.mpr ⟨kv, hkv, rfl⟩
    obtain ⟨m, hm, em⟩ := List.mem_map.mp this
    rw [z] at em
    exact c (keyN_inj em ▸ hm)
theorem GoneD.exL {K : PySem.W.Frag} {d : Addr} {H H' : Hp} {xs : List V} {rs : HH.Row} {kvs : List (List Key × V)} {G : List (List Nat)} (h : GoneD K H rs kvs G) (e : ExB d H H') (hd : H d = some (.lst xs)) : GoneD K H' rs kvs G := ⟨h.keys, h.nd, fun l hl => by
  obtain ⟨v, L, ds, h1, h2, h3, h4⟩ := h.rows l hl
  exact ⟨v, L, ds, h1, h2, h3, RowAt.exL h4 e hd⟩⟩
def TupsN (H : Hp) (us : List V) (ls : List (List Nat)) : Prop := All2 (fun v l => ∃ b, v = .ref b ∧ H b = some (.tup (natsV l))) us ls
theorem TupsN.exB {d : Addr} {H H' : Hp} {us : List V} {ls : List (List Nat)} (h : TupsN H us ls) (e : ExB d H H') (hd : ∀ xs, H d ≠ some (.tup xs)) : TupsN H' us ls := All2.mono (fun v l ⟨b, h1, h2⟩ => ⟨b, h1, e _ _ (fun z => hd _ (by rw [← z]; exact h2)) h2⟩) h
theorem TupsN.dp {K : PySem.W.Frag} {H : Hp} : ∀ {us : List V} {ls : List (List Nat)}, TupsN H us ls → DpAll K H us (ls.map natsD)
  | _, _, .nil => .nil
  | _, _, .cons ⟨b, h1, h2⟩ t => by rw [h1]; exact .cons (dp_nats (st_of h2)) (TupsN.dp t)
theorem TupsN.ex {H H' : Hp} {us : List V} {ls : List (List Nat)} (h : TupsN H us ls) (e : Ex H H') : TupsN H' us ls := All2.mono (fun v l ⟨b, h1, h2⟩ => ⟨b, h1, e _ _ h2⟩) h
theorem TupsN.at {H : Hp} {us : List V} {ls : List (List Nat)} (h : TupsN H us ls) {k : Nat} {l : List Nat} (hk : ls[k]? = some l) : ∃ b, us[k]? = some (.ref b) ∧ H b = some (.tup (natsV l)) := by
  have hl := (List.getElem?_eq_some_iff.mp hk).1
  have hu : us[k]? = some (us[k]'(by rw [All2.len h]; exact hl)) := List.getElem?_eq_getElem _
  obtain ⟨l', h1, b, h2, h3⟩ := All2.get h hu
  rw [hk] at h1
  cases h1
  exact ⟨b, by rw [hu, h2], h3⟩
section
variable {K : PySem.W.Frag} {σ : L2.St} {H : Hp} {ta tb te : TE}
end
end HH
set_option maxHeartbeats 4000000
namespace HH
open PySem PySem.Spec PyProof.Rows L2 Evl RZ
def aheadL (kd : HH.Row) (w : Nat) : List Nat := (kd.filter fun x => decide (x.2 = (w : Int))).map fun x => x.1.toNat
def behindL (kd : HH.Row) (w : Nat) : List Nat := (kd.filter fun x => decide (x.1 = (w : Int))).map fun x => x.2.toNat
section
variable {rs : HH.Row} {E B : List Cow} {w : Nat}
end
end HH
set_option maxHeartbeats 4000000
namespace HH
open PySem PySem.Spec PyProof.Rows L2 Evl RZ
section
variable {K : PySem.W.Frag} {σ : L2.St} {H : Hp} {ta tb te : TE}
end
end HH
set_option maxHeartbeats 4000000
namespace HH
open PySem PySem.Spec PyProof.Rows L2 Evl RZ
section
variable {K : PySem.W.Frag} {σ : L2.St} {H : Hp} {ta tb te : TE} {x y : V}
end
def atD (d : Deed) : Nat := if d.1 then d.2 - 1 else d.2
end HH
set_option maxHeartbeats 4000000
namespace HH
open PySem PySem.Spec PyProof.Rows L2 Evl RZ
def ToldR (H : Hp) : Option (Int × Int) → V → Prop
  | none, v => v = .non
  | some pr, v => ∃ q T : Addr, v = .ref q ∧ H q = some (.lst [.ref T]) ∧ H T = some (.tup [.int pr.1, .int pr.2])
theorem ToldR.ex {H H' : Hp} (e : Ex H H') : ∀ {b : Option (Int × Int)} {v : V}, ToldR H b v → ToldR H' b v
  | none, _, h => h
  | some pr, _, ⟨q, T, h1, h2, h3⟩ => ⟨q, T, h1, e _ _ h2, e _ _ h3⟩
theorem ToldR.upd {H : Hp} {D : Addr} {xs : List V} {o : HO} (hD : H D = some (.lst xs)) : ∀ {b : Option (Int × Int)} {v : V}, v ≠ .ref D → ToldR H b v → ToldR (upd H D o) b v
  | none, _, _, h => h
  | some pr, _, n, ⟨q, T, h1, h2, h3⟩ => ⟨q, T, h1, by rw [upd_ne (fun z => n (by rw [h1, z]))]; exact h2, by rw [upd_ne (fun z => by rw [z, hD] at h3; cases h3)]; exact h3⟩
section
variable {K : PySem.W.Frag} {σ : L2.St} {H : Hp} {ta tb te : TE}
end
end HH
set_option maxHeartbeats 4000000
namespace HH
open PySem PySem.Spec PyProof.Rows L2 Evl RZ
section
variable {K : PySem.W.Frag} {σ : L2.St} {H : Hp} {te : TE} {v : V} {rs R : HH.Row} {L : List Cow} {X : XK}
end
end HH
set_option maxHeartbeats 4000000
namespace HH
open PySem PySem.Spec PyProof.Rows L2 Evl RZ
end HH
set_option maxHeartbeats 4000000
namespace HH
open PySem PySem.Spec PyProof.Rows L2 Evl RZ
structure Strong (E : List Cow) (st : Int) (k : Nat) (left : Int) : Prop where
  s : Steps (E ++ [(E.length, (st, 2))]) (E.take (E.length - k) ++ (E.length, (left, 2)) :: E.drop (E.length - k))
  b : ∀ b r, E.drop (E.length - k) = b :: r → b.2.1 < left
end HH
set_option maxHeartbeats 4000000
namespace HH
open PySem PySem.Spec PyProof.Rows L2 Evl RZ
section
variable {X : Cx} {σ : L2.St} {H : Hp}
end
end HH
set_option maxHeartbeats 4000000
namespace HH
open PySem PySem.Spec PyProof.Rows L2 Evl RZ
section
variable {K : PySem.W.Frag} {σ : L2.St} {H : Hp} {te ta tb t2 : TE} {D : Ends} {tz : TS}
end
section
variable {K : PySem.W.Frag} {σ : L2.St} {H : Hp} {te ta tb t2 : TE} {D : Ends} {tz : TS}
end
end HH
set_option maxHeartbeats 4000000
namespace HH
open PySem PySem.Spec PyProof.Rows L2 Evl RZ
end HH
set_option maxHeartbeats 4000000
namespace HH
open PySem PySem.Spec PyProof.Rows L2 Evl RZ
def expL (ls : List Lot) (st : List Int) (line : HH.Row) : List Cow := line.flatMap fun x => List.replicate x.2.toNat (x.1.toNat, (st.getD x.1.toNat 0, lT ls x.1.toNat))
def blkL (ls : List Lot) (w : Nat) (s : Int) : List Cow := List.replicate (lM ls w).toNat (w, (s, lT ls w))
def PosR (line : HH.Row) : Prop := ∀ x ∈ line, 1 ≤ x.2
def cntR (line : HH.Row) : Int := (line.map (·.2)).sum
structure GoOk (ls : List Lot) (st : List Int) (w : Nat) (r B : HH.Row) (s t : Int) (R : HH.Row × Int × Int) : Prop where
  s1 : Steps (expL ls st r.reverse ++ blkL ls w s ++ expL ls st B) (expL ls (st.set w R.2.1) R.1)
  cut : ∃ F B', R.1 = F ++ ((w : Int), lM ls w) :: B' ∧ Bel w F ∧ Bel w B' ∧ PosR F ∧ PosR B' ∧ expL ls st F ++ expL ls st B' = expL ls st r.reverse ++ expL ls st B ∧ cntR B' = cntR B + (R.2.2 - t)
end HH
set_option maxHeartbeats 4000000
namespace HH
open PySem PySem.Spec PyProof.Rows L2 Evl RZ
def sprC (ls : List Lot) (w : Nat) : List Cow := (List.range w).flatMap fun u => List.replicate (lM ls u).toNat (u, (lS ls u, lT ls u))
def lowB (X : List Cow) (p u : Nat) : Nat := ((X.drop (p + 1)).filter fun c => decide (c.1 < u)).length
structure EndOk (ls : List Lot) (w : Nat) : Prop where
  s1 : Steps (sprC ls w) (expL ls (endG ls w).2.1 (endG ls w).1)
  nf : NfR (expL ls (endG ls w).2.1 (endG ls w).1)
  pos : PosR (endG ls w).1
  low : ∀ (p u : Nat) (c : Cow), (expL ls (endG ls w).2.1 (endG ls w).1)[p]? = some c → c.1 = u → (lowB (expL ls (endG ls w).2.1 (endG ls w).1) p u : Int) = (endG ls w).2.2.getD u 0
  st : ∀ u, w ≤ u → u < ls.length → (endG ls w).2.1.getD u 0 = lS ls u
end HH
set_option maxHeartbeats 4000000
namespace HH
open PySem PySem.Spec PyProof.Rows L2 Evl RZ
end HH
set_option maxHeartbeats 4000000
namespace HH
open PySem PySem.Spec PyProof.Rows L2 Evl RZ
end HH
set_option maxHeartbeats 4000000
namespace HH
open PySem PySem.Spec PyProof.Rows L2 Evl RZ
theorem sum_append (xs ys : List Int) : (xs ++ ys).sum = xs.sum + ys.sum := by
  induction xs with
  | nil => show ys.sum = 0 + ys.sum; omega
  | cons x r ih => show x + (r ++ ys).sum = x + r.sum + ys.sum; omega
end HH
set_option maxHeartbeats 4000000
namespace HH
open PySem PySem.Spec PyProof.Rows L2 Evl RZ
end HH
set_option maxHeartbeats 4000000
namespace HH
open PySem PySem.Spec PyProof.Rows L2 Evl RZ
section
variable {P : Addr → Prop} {K : PySem.W.Frag} {c k : Nat} {H H' : Hp} {σ : L2.St} {te ta tb : TE} {D : Ends} {v : V} {d : PyData}
end
def Fits (M : Int) (l : Lot) : Prop := -(10 ^ 12) < l.1 ∧ l.1 < 10 ^ 12 ∧ 0 ≤ l.2.1 ∧ l.2.1 < 10 ^ 12 ∧ 1 ≤ l.2.2 ∧ l.2.2 ≤ M
theorem Fits.le {M M' : Int} {l : Lot} (h : Fits M l) (e : M ≤ M') : Fits M' l := ⟨h.1, h.2.1, h.2.2.1, h.2.2.2.1, h.2.2.2.2.1, Int.le_trans h.2.2.2.2.2 e⟩
end HH
namespace HH
open PySem PySem.Spec PyProof.Rows L2 Evl RZ
end HH
namespace HH
open PySem PySem.Spec PyProof.Rows L2 Evl RZ
section
variable {P : Addr → Prop} {K : PySem.W.Frag} {n : Nat} {H : Hp} {σ : L2.St} {D : Ends}
end
end HH
set_option maxHeartbeats 4000000
namespace HH
open PySem PySem.Spec PyProof.Rows L2 Evl RZ
section
variable {K : PySem.W.Frag} {H0 H H' : Hp} {σ : L2.St} {te ta tb : TE} {D : Ends} {tz tu : TS} {g : TG}
end
end HH
set_option maxHeartbeats 4000000
namespace HH
open PySem PySem.Spec PyProof.Rows L2 Evl RZ
section
variable {K : PySem.W.Frag} {H : Hp} {σ : L2.St} {te ta tb : TE}
end
end HH
set_option maxHeartbeats 4000000
namespace HH
open PySem PySem.Spec PyProof.Rows L2 Evl RZ
def Ex3 (a b c : Addr) (H H' : Hp) : Prop := ∀ x o, x ≠ a → x ≠ b → x ≠ c → H x = some o → H' x = some o
section
variable {a b c : Addr} {H0 H H1 H' : Hp}
theorem Ex3.trans (x : Ex3 a b c H H1) (y : Ex3 a b c H1 H') : Ex3 a b c H H' := fun d o n1 n2 n3 h => y d o n1 n2 n3 (x d o n1 n2 n3 h)
theorem Ex3.of (e : Ex H H') : Ex3 a b c H H' := fun d o _ _ _ h => e d o h
theorem Ex3.u1 {o : HO} (x : Ex3 a b c H H') : Ex3 a b c H (upd H' a o) := fun d u n1 n2 n3 h => by
  rw [upd_ne n1]
  exact x d u n1 n2 n3 h
theorem Ex3.u2 {o : HO} (x : Ex3 a b c H H') : Ex3 a b c H (upd H' b o) := fun d u n1 n2 n3 h => by
  rw [upd_ne n2]
  exact x d u n1 n2 n3 h
end
section
variable {K : PySem.W.Frag} {H H' : Hp} {σ : L2.St} {ta tb tc ti : TE} {D : Ends} {tz : TS}
end
end HH
set_option maxHeartbeats 4000000
namespace HH
open PySem PySem.Spec PyProof.Rows L2 Evl RZ
def ListOf (H : Hp) (u : V) (xs : List V) : Prop := ∃ p, u = .ref p ∧ H p = some (.lst xs)
theorem ListOf.ex {H H' : Hp} {u : V} {xs : List V} (h : ListOf H u xs) (e : Ex H H') : ListOf H' u xs := let ⟨p, h1, h2⟩ := h; ⟨p, h1, e _ _ h2⟩
section
variable {K : PySem.W.Frag} {H H' : Hp} {σ : L2.St} {te ta tb : TE} {tr : TA}
end
section
variable {H : Hp} {σ : L2.St} {te : TE} {ta : TA} {D : Ends} {tz : TS} {g : TG}
theorem c_cons {Q : List V → Hp → Prop} (h : te σ H fun x H1 => ta σ H1 fun xs H2 => Q (x :: xs) H2) : tCons te ta σ H Q := h
theorem c_call {sp : Sp} {dvs : List V} {E : XK} {Q : VK} (h : ta σ H fun vs H1 => sp (vs ++ dvs) H1 Q E) : tCall sp dvs E ta σ H Q := h
theorem c_lst {Q : VK} (h : ta σ H fun xs H1 => xs.length ≤ sizeLine ∧ ∀ p, H1 p = none → Q (.ref p) (upd H1 p (.lst xs))) : tLst ta σ H Q := h
end
end HH
set_option maxHeartbeats 4000000
namespace HH
open PySem PySem.Spec PyProof.Rows L2 Evl RZ
theorem tag0_fst (rs : HH.Row) : (tag 0 rs).map (·.1) = List.range rs.length := by
  rw [tag_fst]
  have e : (fun x => 0 + x) = (id : Nat → Nat) := by
    funext x
    exact Nat.zero_add x
  rw [e, List.map_id]
theorem ids_low {rs : HH.Row} {E : List Cow} (s : Steps (tag 0 rs) E) : (∀ x ∈ E.map (·.1), x < rs.length) ∧ E.length = rs.length := by
  have h := s.ids
  rw [tag0_fst] at h
  refine ⟨fun x hx => List.mem_range.mp (h.mem_iff.mp hx), ?_⟩
  have := h.length_eq
  rw [List.length_map, List.length_range] at this
  exact this
section
variable {ls : List Lot} {E : List Cow} {ps : HH.Row}
end
end HH
set_option maxHeartbeats 4000000
namespace HH
open PySem PySem.Spec PyProof.Rows L2 Evl RZ
def Mild (ls : List Lot) : Prop := ls.length ≤ 100 ∧ PosL ls ∧ (∀ b ∈ sprR ls, 0 ≤ b.2 ∧ b.2 < 1152921504606846976) ∧ (sprR ls).length < 1152921504606846976
structure HerdE (ls A Z : List Lot) (E B : List Cow) : Prop where
  sE : Steps (tag 0 (sprR ls)) E
  nE : Nf E
  sB : FSteps (tag 0 (sprR ls)) B
  nB : Ff B
  eA : A = packL (ones (rowsOf E))
  eZ : Z = packL (ones (rowsOf B))
  lA : A = packL (lastLots ls)
  lZ : Z = packL (firstLots ls)
section
variable {ls A Z : List Lot} {E B : List Cow}
theorem HerdE.sprA (e : HerdE ls A Z E B) : sprR A = rowsOf E := by rw [e.eA, packL_spr (ones_pos _), ones_spr]
theorem HerdE.sprZ (e : HerdE ls A Z E B) : sprR Z = rowsOf B := by rw [e.eZ, packL_spr (ones_pos _), ones_spr]
theorem HerdE.posA (e : HerdE ls A Z E B) : PosL A := by rw [e.eA]; exact packL_pos (ones_pos _)
theorem HerdE.posZ (e : HerdE ls A Z E B) : PosL Z := by rw [e.eZ]; exact packL_pos (ones_pos _)
theorem HerdE.lenE (e : HerdE ls A Z E B) : (rowsOf E).length = (sprR ls).length := by
  unfold rowsOf
  rw [List.length_map]
  exact (ids_low e.sE).2
theorem HerdE.lenB (e : HerdE ls A Z E B) : (rowsOf B).length = (sprR ls).length := by
  unfold rowsOf
  rw [List.length_map, e.sB.len]
  have h2 := congrArg List.length (tag0_fst (sprR ls))
  rw [List.length_map, List.length_range] at h2
  exact h2
end
section
variable {ls A Z : List Lot} {E B : List Cow}
end
end HH
set_option maxHeartbeats 4000000
namespace HH
open PySem PySem.Spec PyProof.Rows L2 Evl RZ
structure LikeL (c d : Int) (m : Nat) (ls ls' : List Lot) : Prop where
  l1 : m ≤ ls.length
  l2 : m ≤ ls'.length
  s : ∀ j, j < m → lS ls' j = c * lS ls j + d
  t : ∀ j, j < m → lT ls' j = c * lT ls j ∧ 0 ≤ lT ls j
def cntL (ls : List Lot) : Int := (ls.map (·.2.2)).sum
theorem cnt_spr : ∀ {ls : List Lot}, PosL ls → cntL ls = ((sprR ls).length : Int)
  | [], _ => rfl
  | l :: ls, h => by
    have ih := cnt_spr (ls := ls) fun x hx => h x (List.mem_cons_of_mem _ hx)
    have hl := h l (List.mem_cons_self ..)
    have e : sprR (l :: ls) = List.replicate l.2.2.toNat (l.1, l.2.1) ++ sprR ls := by
      unfold sprR
      rw [List.flatMap_cons]
    rw [e, List.length_append, List.length_replicate]
    unfold cntL at ih ⊢
    rw [List.map_cons, List.sum_cons, ih]
    omega
section
variable {ls A Z : List Lot} {E B : List Cow}
theorem HerdE.many (h : Mild ls) (e : HerdE ls A Z E B) : cntL A = cntL ls ∧ cntL Z = cntL ls := by
  rw [cnt_spr h.2.1, cnt_spr e.posA, cnt_spr e.posZ, e.sprA, e.sprZ, e.lenE, e.lenB]
  exact ⟨rfl, rfl⟩
end
end HH
set_option maxHeartbeats 4000000
namespace HH
open PySem PySem.Spec PyProof.Rows L2 Evl RZ
def MixSw (z TI TO i1 i2 a b : Addr) (i : Nat) (h : Heap) : Prop := IsZip h z TI TO .none ∧ IsTupOf2 h TI (.ref i1) (.ref i2) ∧ (∃ x y, IsTupOf2 h TO x y) ∧ h.IsTupleIter i1 a i ∧ h.IsListIter i2 b i
theorem MixSw.objs {z TI TO i1 i2 a b : Addr} {i : Nat} {h : Heap} (m : MixSw z TI TO i1 i2 a b i h) : ∀ c ∈ [z, TI, TO, i1, i2], ∃ ob, h.get? c = some ob ∧ ∀ v, ob.data ≠ .cell v := fun c hc => by
  obtain ⟨m1, m2, ⟨_, _, m3⟩, ⟨p1, g1, _, d1⟩, ⟨p2, g2, _, d2⟩⟩ := m
  rcases five hc with rfl | rfl | rfl | rfl | rfl
  · exact ⟨_, m1, fun v q => by cases q⟩
  · exact ⟨_, m2, fun v q => by cases q⟩
  · exact ⟨_, m3, fun v q => by cases q⟩
  · exact ⟨p1, g1, fun v q => by rw [d1] at q; cases q⟩
  · exact ⟨p2, g2, fun v q => by rw [d2] at q; cases q⟩
end HH
set_option maxHeartbeats 4000000
namespace HH
open PySem PySem.Spec PyProof.Rows L2 Evl RZ
section
variable {K : PySem.W.Frag} {H H' H0 H1 H2 : Hp} {σ : L2.St} {te ta tb tc ti : TE} {tr : TA} {D : Ends} {v : V} {ls ms : List Lot} {tz : TS}
end
end HH
set_option maxHeartbeats 4000000
namespace HH
open PySem PySem.Spec PyProof.Rows L2 Evl RZ
section
variable {K : PySem.W.Frag} {σ : L2.St} {p : Addr} {ta tb te ti : TE} {tr : TA} {D : Ends} {tz tu : TS} {g : TG} {H H' : Hp} {v : V} {ls ms : List Lot}
end
end HH
set_option maxHeartbeats 4000000
namespace HH
open PySem PySem.Spec PyProof.Rows L2 Evl RZ
section
variable {K : PySem.W.Frag} {σ : L2.St} {p : Addr} {ta tb tc te ti : TE} {tr : TA} {D : Ends} {tz tu : TS} {g : TG} {H H' : Hp} {v : V} {rs : HH.Row}
end
end HH
set_option maxHeartbeats 4000000
namespace HH
open PySem PySem.Spec PyProof.Rows L2 Evl RZ
end HH
set_option maxHeartbeats 4000000
namespace HH
open PySem PySem.Spec PyProof.Rows L2 Evl RZ
section
variable {K : PySem.W.Frag} {σ : L2.St} {te ta : TE} {tr : TA} {H H' : Hp} {v : V} {rs : HH.Row}
theorem LastAt.up {q D : Addr} {L : List Cow} {xs ys : List V} (h : LastAt K H q L) (hD : H D = some (.lst xs)) : LastAt K (upd H D (.lst ys)) q L := by
  obtain ⟨v, ot, h1, h2, h3⟩ := h.ex
  have x : ExB D H (upd H D (.lst ys)) := (ExB.refl _ _).upd
  exact ⟨v, ot, x _ _ (fun z => by rw [z, hD] at h1; cases h1) h1, h2.exL x hD, x _ _ (fun z => by rw [z, hD] at h3; cases h3) h3⟩
end
end HH
set_option maxHeartbeats 4000000
namespace HH
open PySem PySem.Spec PyProof.Rows L2 Evl RZ
section
variable {K : PySem.W.Frag} {σ : L2.St} {te ta tb : TE} {tr : TA} {H H' : Hp} {v : V} {rs : HH.Row} {n : Nat}
end
end HH
set_option maxHeartbeats 4000000
namespace HT
open PySem PySem.Spec PyProof.Rows
section
variable {prog : Program} {w : World} {A : Around} {E : Value → Shared → Prop} {s : Shared}
end
end HT
namespace HH
open PySem PySem.Spec PyProof.Rows L2 Evl RZ
section
variable {K : PySem.W.Frag} {σ : L2.St} {H : Hp} {te : TE}
end
end HH
set_option maxHeartbeats 4000000
namespace HH
open PySem PySem.Spec PyProof.Rows L2 Evl RZ
section
variable {K : PySem.W.Frag} {σ : L2.St} {te ta tb ti tj tl : TE} {tr : TA} {tt : TT} {D : Ends} {tz tu : TS} {g : TG} {H H' : Hp} {v : V} {rs : HH.Row}
end
end HH
set_option maxHeartbeats 4000000
namespace HH
open PySem PySem.Spec PyProof.Rows L2 Evl RZ
def TupsF (H : Hp) (us : List V) (ls : List (List Nat)) : Prop := All2 (fun v l => ∃ b, v = .ref b ∧ FrzT H b (natsV l)) us ls
theorem FrzT.exA {d a : Addr} {H H' : Hp} {xs : List V} (h : FrzT H a xs) (e : ExB d H H') (hd : ∀ o u, H d ≠ some (.frz o u)) : FrzT H' a xs := by
  obtain ⟨o, h1, h2⟩ := h
  exact ⟨o, h1, e _ _ (fun z => hd _ _ (by rw [← z]; exact h2)) h2⟩
theorem TupsF.exB {d : Addr} {H H' : Hp} {us : List V} {ls : List (List Nat)} (h : TupsF H us ls) (e : ExB d H H') (hd : ∀ o u, H d ≠ some (.frz o u)) : TupsF H' us ls := All2.mono (fun v l ⟨b, h1, h2⟩ => ⟨b, h1, h2.exA e hd⟩) h
theorem TupsF.ex {H H' : Hp} {us : List V} {ls : List (List Nat)} (h : TupsF H us ls) (e : Ex H H') : TupsF H' us ls := All2.mono (fun v l ⟨b, h1, h2⟩ => ⟨b, h1, h2.ex e⟩) h
theorem TupsF.dp {K : PySem.W.Frag} {H : Hp} : ∀ {us : List V} {ls : List (List Nat)}, TupsF H us ls → DpAll K H us (ls.map natsD)
  | _, _, .nil => .nil
  | _, _, .cons ⟨b, h1, h2⟩ t => by rw [h1]; exact .cons (dp_nats h2.sq) (TupsF.dp t)
theorem TupsF.at {H : Hp} {us : List V} {ls : List (List Nat)} (h : TupsF H us ls) {k : Nat} {l : List Nat} (hk : ls[k]? = some l) : ∃ b, us[k]? = some (.ref b) ∧ FrzT H b (natsV l) := by
  induction h generalizing k with
  | nil => cases hk
  | @cons v m us ls h t ih =>
    cases k with
    | zero =>
      obtain ⟨b, rfl, h2⟩ := h
      cases hk
      exact ⟨b, rfl, h2⟩
    | succ k => exact ih hk
theorem GoneD.none {K : PySem.W.Frag} {H : Hp} {rs : HH.Row} {kvs : List (List Key × V)} {G : List (List Nat)} (h : GoneD K H rs kvs G) {l : List Nat} (hl : l ∉ G) : valV kvs (keyN l) = none := by
  have := h.has l
  rw [decide_eq_false hl] at this
  cases c : valV kvs (keyN l) with
  | none => rfl
  | some x => rw [c] at this; cases this
section
variable {K : PySem.W.Frag} {σ : L2.St} {te : TE} {H : Hp}
end
end HH
set_option maxHeartbeats 4000000
namespace HH
open PySem PySem.Spec PyProof.Rows Srt SrtO L2 Evl
end HH
set_option maxHeartbeats 4000000
namespace HH
open PySem PySem.Spec PyProof.Rows L2 Evl
section
variable {X : Cx}
end
end HH
set_option maxHeartbeats 4000000
namespace HH
open PySem PySem.Spec PyProof.Rows L2 Evl
section
variable {X : Cx} {pins : List (Addr × Obj)} {σ : L2.St} {H : Hp} {s : Shared} {d : Addr} {o : Obj} {kb : KB}
end
section
variable {P : Program} {w : World} {K : PySem.W.Frag} {tg : Expr} {d : Addr} {o : Obj} {es : Array DictEntry} {ep : Nat} {kb : KB}
end
structure DY (P : Program) (w : World) (H : Hp) (d : Addr) (kb : KB) : Prop where
  ob : H d = some (.ext (dxP P w d kb)) ∨ ∃ o, H d = some (.frz o (.ext (dxP P w d kb)))
  ks : ∀ p ∈ kb, FrzT H p.2.1 (p.1.map kV)
theorem DY.ex {P : Program} {w : World} {H H' : Hp} {d : Addr} {kb : KB} (g : DY P w H d kb) (e : Ex H H') : DY P w H' d kb := ⟨by
  rcases g.ob with h | ⟨o, h⟩
  · exact .inl (e _ _ h)
  · exact .inr ⟨o, e _ _ h⟩, fun p hp => (g.ks p hp).ex e⟩
theorem DY.rd {P : Program} {w : World} {H : Hp} {h : Heap} {d : Addr} {kb : KB} (ok : HOk P w H h) (e : DY P w H d kb) : kb.length ≤ sizeLine ∧ (d == sysModules) = false ∧ ∃ xs, KX kb xs ∧ h.DictOfH (tupleKind (mixKind P w)) d xs := by
  obtain ⟨z, y, xs, r, o, es, ep, h1, h2, h3, h4, h5⟩ : dxP P w d kb h := by
    rcases e.ob with q | ⟨o, q⟩
    · exact (show ObjOk P w H h d (.ext (dxP P w d kb)) from ok d _ q).1
    · exact (show ObjOk P w H h d (.frz o (.ext (dxP P w d kb))) from ok d _ q).2.1
  refine ⟨z, y, xs, r, o, es, ep, h1, h2, h3, h4, fun x hx => ?_, h5⟩
  have all : ∀ {l : KB} {m : List (List Key × Addr × Value)}, KX l m → (∀ p ∈ l, FrzT H p.2.1 (p.1.map kV)) → ∀ x ∈ m, (tupleKind (mixKind P w)).is h x.1 x.2.1 := by
    intro l m q
    induction q with
    | nil => intro _ x hx; exact nomatch hx
    | @cons p q ps qs hq t ih =>
      intro hk x hx
      rcases List.mem_cons.mp hx with e | hx
      · subst e
        have := keyF_of ok (hk p (List.mem_cons_self ..))
        rw [hq.1, hq.2.1] at this
        exact this
      · exact ih (fun p hp => hk p (List.mem_cons_of_mem _ hp)) x hx
  exact all r e.ks x hx
end HH
set_option maxHeartbeats 4000000
namespace HH
open PySem PySem.Spec PyProof.Rows L2 Evl
end HH
set_option maxHeartbeats 4000000
namespace HH
open PySem PySem.Spec PyProof.Rows L2 Evl RZ
inductive WayR : HH.Row → List Nat → List Deed → Prop
  | nil {r : HH.Row} {l : List Nat} : nearD r l = [] → WayR r l []
  | cons {r : HH.Row} {l s : List Nat} {d : Deed} {rest ds : List Deed} : nearD r l = d :: rest → Again (swapL (List.range r.length) (atD d)) l s → WayR (doR r d) s ds → WayR r l (d :: ds)
end HH
set_option maxHeartbeats 4000000
namespace HH
open PySem PySem.Spec PyProof.Rows L2 Evl
end HH
set_option maxHeartbeats 4000000
namespace HH
open PySem PySem.Spec PyProof.Rows L2 Evl RZ
section
variable {K : PySem.W.Frag} {σ : L2.St} {H : Hp} {tA tB tO : TE} {vA : V} {oA oB : Addr} {rb : HH.Row} {LA LB : List Cow} {dA dB : List Deed} {X X1 X2 : XK}
end
end HH
set_option maxHeartbeats 4000000
namespace HH
open PySem PySem.Spec PyProof.Rows L2 Evl RZ
open PySem.W (dataLt alike alikeAll keyToksAll)
def triD (r : HH.Row) (d : Deed) (s : List Nat) : PyData := .tuple [deedD d, rowD r, natsD s]
end HH
set_option maxHeartbeats 4000000
namespace HH
open PySem PySem.Spec PyProof.Rows L2 Evl RZ
def TriAt (K : PySem.W.Frag) (H : Hp) (v : V) (r : HH.Row) (d : Deed) (s : List Nat) : Prop := ∃ (t : Addr) (dv rv : V) (sv : Addr), v = .ref t ∧ SqT K H t [dv, rv, .ref sv] ∧ DeedAt K H dv d ∧ RowAt K H rv r ∧ SqT K H sv (natsV s)
section
variable {K : PySem.W.Frag} {H H' : Hp} {v : V} {r : HH.Row} {d : Deed} {s : List Nat}
theorem TriAt.ex (h : TriAt K H v r d s) (e : Ex H H') : TriAt K H' v r d s := by
  obtain ⟨t, dv, rv, sv, h1, h2, h3, h4, h5⟩ := h
  exact ⟨t, dv, rv, sv, h1, ex_t e h2, h3.ex' e, h4.ex e, ex_t e h5⟩
theorem TriAt.exL {a : Addr} {xs : List V} (h : TriAt K H v r d s) (e : ExB a H H') (ha : H a = some (.lst xs)) : TriAt K H' v r d s := by
  obtain ⟨t, dv, rv, sv, h1, h2, ⟨p, h3, h3'⟩, h4, h5⟩ := h
  exact ⟨t, dv, rv, sv, h1, e.t ha h2, ⟨p, h3, e.t ha h3'⟩, h4.exL e ha, e.t ha h5⟩
theorem TriAt.dp (h : TriAt K H v r d s) : Dp K H v (triD r d s) := by
  obtain ⟨t, dv, rv, sv, rfl, h2, ⟨p, rfl, h3'⟩, h4, h5⟩ := h
  obtain ⟨a, rfl, h4d⟩ := h4.dp
  exact .tup h2 (.cons (.tup h3' (.cons (.str _) (.cons (.int _) .nil))) (.cons h4d (.cons (dp_nats h5) .nil)))
end
def TrisAt (K : PySem.W.Frag) (H : Hp) (us : List V) (rs : HH.Row) (l : List Nat) (ds : List Deed) : Prop := All2 (fun v d => ∃ s, Again (swapL (List.range rs.length) (atD d)) l s ∧ TriAt K H v (doR rs d) d s) us ds
section
variable {K : PySem.W.Frag} {H H' : Hp} {us : List V} {rs : HH.Row} {l : List Nat} {ds : List Deed}
theorem TrisAt.ex (h : TrisAt K H us rs l ds) (e : Ex H H') : TrisAt K H' us rs l ds := All2.mono (fun v d ⟨s, a, t⟩ => ⟨s, a, t.ex e⟩) h
theorem TrisAt.exL {a : Addr} {xs : List V} (h : TrisAt K H us rs l ds) (e : ExB a H H') (ha : H a = some (.lst xs)) : TrisAt K H' us rs l ds := All2.mono (fun v d ⟨s, a, t⟩ => ⟨s, a, t.exL e ha⟩) h
end
end HH
set_option maxHeartbeats 4000000
namespace HH
open PySem PySem.Spec PyProof.Rows L2 Evl RZ
def waysD (w : List Deed) : PyData := .list (w.map deedD)
def ListDAt (K : PySem.W.Frag) (H : Hp) (v : V) (ds : List Deed) : Prop := ∃ (a : Addr) (ws : List V), v = .ref a ∧ H a = some (.lst ws) ∧ All2 (DeedAt K H) ws ds
theorem ListDAt.ex {K : PySem.W.Frag} {H H' : Hp} {v : V} {ds : List Deed} (h : ListDAt K H v ds) (e : Ex H H') : ListDAt K H' v ds := by
  obtain ⟨a, ws, h1, h2, h3⟩ := h
  exact ⟨a, ws, h1, e _ _ h2, deeds_ex e h3⟩
theorem ListDAt.exL {K : PySem.W.Frag} {H H' : Hp} {v : V} {ds : List Deed} {q : Addr} {ys : List V} (h : ListDAt K H v ds) (e : ExB q H H') (hq : H q = some (.lst ys)) (hv : v ≠ .ref q) : ListDAt K H' v ds := by
  obtain ⟨a, ws, h1, h2, h3⟩ := h
  exact ⟨a, ws, h1, e _ _ (fun z => hv (by rw [h1, z])) h2, deeds_exB e hq h3⟩
theorem ListDAt.dp {K : PySem.W.Frag} {H : Hp} {v : V} {ds : List Deed} (h : ListDAt K H v ds) : Dp K H v (waysD ds) := by
  obtain ⟨a, ws, rfl, h2, h3⟩ := h
  exact .lst (sq_of h2) (deeds_dp h3)
end HH
set_option maxHeartbeats 4000000
namespace HH
open PySem PySem.Spec PyProof.Rows L2 Evl RZ
section
variable {K : PySem.W.Frag} {σ : L2.St} {H : Hp} {te : TE}
end
end HH
set_option maxHeartbeats 4000000
namespace HH
open PySem PySem.Spec PyProof.Rows L2 Evl RZ
section
variable {K : PySem.W.Frag} {σ : L2.St} {H : Hp} {te : TE}
end
end HH
set_option maxHeartbeats 4000000
namespace HH
open PySem PySem.Spec PyProof.Rows L2 Evl RZ
def farN (l : List Nat) (n : Nat) : Nat := (tab l n n).length
end HH
set_option maxHeartbeats 4000000
namespace HH
open PySem PySem.Spec PyProof.Rows L2 Evl RZ
section
variable {X : Cx} {body : List Stmt} {h0 : ExceptHandler} {hs : List ExceptHandler} {pos : Pos} {tb : TS}
end
def dP (rs : HH.Row) (p : Nat) : Deed := if letsN rs (p + 1) then (true, p + 1) else (false, p)
def DtAt (K : PySem.W.Frag) (H : Hp) (v : V) (rs : HH.Row) (p : Nat) : Prop := ∃ (t : Addr) (dv rv : V), v = .ref t ∧ SqT K H t [dv, rv, .int ((p + 1 : Nat) : Int)] ∧ DeedAt K H dv (dP rs p) ∧ RowAt K H rv (doR rs (dP rs p))
section
variable {K : PySem.W.Frag} {H H' : Hp} {v : V} {rs : HH.Row} {p : Nat}
theorem DtAt.ex (h : DtAt K H v rs p) (e : Ex H H') : DtAt K H' v rs p := by
  obtain ⟨t, dv, rv, h1, h2, h3, h4⟩ := h
  exact ⟨t, dv, rv, h1, ex_t e h2, h3.ex' e, h4.ex e⟩
theorem DtAt.exL {a : Addr} {xs : List V} (h : DtAt K H v rs p) (e : ExB a H H') (ha : H a = some (.lst xs)) : DtAt K H' v rs p := by
  obtain ⟨t, dv, rv, h1, h2, ⟨q, h3, h3'⟩, h4⟩ := h
  exact ⟨t, dv, rv, h1, e.t ha h2, ⟨q, h3, e.t ha h3'⟩, h4.exL e ha⟩
end
structure LayD (K : PySem.W.Frag) (H : Hp) (rs : HH.Row) (kvs : List (List Key × V)) (G : List (List Nat)) : Prop where
  keys : kvs.map (·.1) = G.map keyN
  nd : G.Nodup
  rows : ∀ l ∈ G, ∃ t rv L ds, valV kvs (keyN l) = some (.ref t) ∧ SqT K H t [.int (farN l rs.length : Int), rv] ∧ MRun (tag 0 rs) L ds ∧ L.map (·.1) = l ∧ RowAt K H rv (rowsOf L)
section
variable {K : PySem.W.Frag} {H H' : Hp} {rs : HH.Row} {kvs : List (List Key × V)} {G : List (List Nat)} {l : List Nat}
theorem LayD.ex (h : LayD K H rs kvs G) (e : Ex H H') : LayD K H' rs kvs G := ⟨h.keys, h.nd, fun l hl => by
  obtain ⟨t, rv, L, ds, h1, h2, h3, h4, h5⟩ := h.rows l hl
  exact ⟨t, rv, L, ds, h1, ex_t e h2, h3, h4, h5.ex e⟩⟩
theorem LayD.exL {d : Addr} {xs : List V} (h : LayD K H rs kvs G) (e : ExB d H H') (hd : H d = some (.lst xs)) : LayD K H' rs kvs G := ⟨h.keys, h.nd, fun l hl => by
  obtain ⟨t, rv, L, ds, h1, h2, h3, h4, h5⟩ := h.rows l hl
  exact ⟨t, rv, L, ds, h1, e.t hd h2, h3, h4, h5.exL e hd⟩⟩
theorem LayD.has (h : LayD K H rs kvs G) (l : List Nat) : (valV kvs (keyN l)).isSome = decide (l ∈ G) := by
  by_cases c : l ∈ G
  · obtain ⟨_, _, _, _, h1, _⟩ := h.rows l c
    rw [h1, decide_eq_true c]
    rfl
  · rw [decide_eq_false c, ← valV_any]
    rw [List.any_eq_false]
    intro kv hkv z
    have z := of_decide_eq_true z
    have : kv.1 ∈ G.map keyN := by rw [← h.keys]; exact List.mem_map.mpr ⟨kv, hkv, rfl⟩
    obtain ⟨m, hm, em⟩ := List.mem_map.mp this
    rw [z] at em
    exact c (keyN_inj em ▸ hm)
theorem LayD.none (h : LayD K H rs kvs G) (hl : l ∉ G) : valV kvs (keyN l) = none := by
  have := h.has l
  rw [decide_eq_false hl] at this
  cases c : valV kvs (keyN l) with
  | none => rfl
  | some x => rw [c] at this; cases this
end
theorem c_then {ta : TE} {k : V → Hp → VK → Prop} {σ : L2.St} {H : Hp} {Q : VK} (h : ta σ H fun x H1 => k x H1 Q) : tThen ta k σ H Q := h
end HH
set_option maxHeartbeats 4000000
namespace HH
open PySem PySem.Spec PyProof.Rows L2 Evl RZ
end HH
set_option maxHeartbeats 4000000
namespace HH
open PySem PySem.Spec PyProof.Rows L2 Evl RZ
structure Below (rs : HH.Row) (E : List Cow) (l : List Nat) : Prop where
  ids : l.Perm (List.range rs.length)
  tb : ∀ i j, i < j → bef l j i = true → bef (E.map (·.1)) j i = true
theorem Below.keeps {rs : HH.Row} {E : List Cow} {l : List Nat} (tl : ∀ x ∈ rs, 0 ≤ x.2) (sE : Steps (tag 0 rs) E) (nE : Nf E) (b : Below rs E l) : Keeps rs l :=
  ⟨b.ids, fun E' B' sE' nE' sB' nB' i j h1 h2 h3 h4 => by
    have e := nf_any (good_tag tl).tl sE nE sE' nE'
    rw [← e] at h3
    cases c : bef l j i with
    | false => rfl
    | true =>
      have := b.tb i j h1 c
      rw [h3] at this
      cases this⟩
theorem Below.len {rs : HH.Row} {E : List Cow} {l : List Nat} (b : Below rs E l) : l.length = rs.length := by rw [b.ids.length_eq, List.length_range]
theorem Below.nd {rs : HH.Row} {E : List Cow} {l : List Nat} (b : Below rs E l) : l.Nodup := b.ids.nodup_iff.mpr List.nodup_range
def upsL (e l : List Nat) (n : Nat) : List Nat := (List.range (n - 1)).filter fun p => decide (ixN l p < ixN l (p + 1)) && bef e (ixN l (p + 1)) (ixN l p)
def waysN (e : List Nat) (n : Nat) : Nat → List Nat → Nat
  | 0, _ => 1
  | t + 1, l => ((upsL e l n).map fun p => waysN e n t (swapL l p)).sum
end HH
set_option maxHeartbeats 4000000
namespace HH
open PySem PySem.Spec PyProof.Rows L2 Evl RZ
end HH
set_option maxHeartbeats 4000000
namespace HH
open PySem PySem.Spec PyProof.Rows L2 Evl RZ
structure AccD (kb : KB) (G : List (List Nat)) (f : List Nat → Nat) : Prop where
  keys : kb.map (·.1) = G.map keyN
  nd : G.Nodup
  vals : ∀ l ∈ G, valV (kvX kb) (keyN l) = some (.int (f l : Int))
  off : ∀ l, l ∉ G → f l = 0
theorem AccD.none {kb : KB} {G : List (List Nat)} {f : List Nat → Nat} (h : AccD kb G f) {l : List Nat} (hl : l ∉ G) : valV (kvX kb) (keyN l) = none := by
  cases c : valV (kvX kb) (keyN l) with
  | none => rfl
  | some x =>
    have : (kvX kb).any (fun kv => decide (kv.1 = keyN l)) = true := by
      rw [valV_any, c]
      rfl
    obtain ⟨kv, hkv, z⟩ := List.any_eq_true.mp this
    have z := of_decide_eq_true z
    unfold kvX at hkv
    obtain ⟨p, hp, rfl⟩ := List.mem_map.mp hkv
    have hm : p.1 ∈ G.map keyN := by rw [← h.keys]; exact List.mem_map.mpr ⟨p, hp, rfl⟩
    obtain ⟨m, hm, em⟩ := List.mem_map.mp hm
    exact absurd (keyN_inj (em.trans z) ▸ hm) hl
theorem AccD.nil : AccD [] [] (fun _ => 0) := ⟨rfl, List.nodup_nil, (fun _ h => nomatch h), fun _ _ => rfl⟩
theorem AccD.get {kb : KB} {G : List (List Nat)} {f : List Nat → Nat} (h : AccD kb G f) (l : List Nat) : (valV (kvX kb) (keyN l)).getD (.int 0) = .int (f l : Int) := by
  by_cases c : l ∈ G
  · rw [h.vals l c]
    rfl
  · rw [h.none c, h.off l c]
    rfl
end HH
set_option maxHeartbeats 4000000
namespace HH
open PySem PySem.Spec PyProof.Rows L2 Evl RZ
end HH
set_option maxHeartbeats 4000000
namespace HH
open PySem PySem.Spec PyProof.Rows L2 Evl RZ
section
variable {rs : HH.Row} {E : List Cow} (tl : ∀ x ∈ rs, 0 ≤ x.2) (sE : Steps (tag 0 rs) E) (nE : Nf E)
include tl sE nE
end
end HH
set_option maxHeartbeats 4000000
namespace HH
open PySem PySem.Spec PyProof.Rows L2 Evl RZ
end HH
set_option maxHeartbeats 4000000
namespace HH
open PySem PySem.Spec PyProof.Rows L2 Evl RZ
def allN (e : List Nat) (n : Nat) : Nat → List Nat → List (List Nat)
  | 0, _ => [[]]
  | t + 1, l => (upsL e l n).flatMap fun p => (allN e n t (swapL l p)).map ((p + 1) :: ·)
section
variable {rs : HH.Row} {E : List Cow}
def totN (rs : HH.Row) (E : List Cow) : Nat := waysN (E.map (·.1)) rs.length (farN (E.map (·.1)) rs.length) (List.range rs.length)
def allE (rs : HH.Row) (E : List Cow) : List (List Nat) := allN (E.map (·.1)) rs.length (farN (E.map (·.1)) rs.length) (List.range rs.length)
end
end HH
set_option maxHeartbeats 4000000
namespace HH
open PySem PySem.Spec PyProof.Rows L2 Evl RZ
section
variable {rs : HH.Row} {E : List Cow} (tl : ∀ x ∈ rs, 0 ≤ x.2) (sE : Steps (tag 0 rs) E) (nE : Nf E)
include tl sE nE
end
end HH
set_option maxHeartbeats 4000000
namespace HH
open PySem PySem.Spec PyProof.Rows L2 Evl RZ
structure LayC (K : PySem.W.Frag) (H : Hp) (rs : HH.Row) (kvs : List (List Key × V)) (G : List (List Nat)) (f : List Nat → Nat) : Prop where
  keys : kvs.map (·.1) = G.map keyN
  nd : G.Nodup
  off : ∀ l, l ∉ G → f l = 0
  rows : ∀ l ∈ G, ∃ t rv L ds, valV kvs (keyN l) = some (.ref t) ∧ SqT K H t [.int (f l : Int), rv] ∧ MRun (tag 0 rs) L ds ∧ L.map (·.1) = l ∧ RowAt K H rv (rowsOf L)
section
variable {K : PySem.W.Frag} {H H' : Hp} {rs : HH.Row} {kvs : List (List Key × V)} {G : List (List Nat)} {f : List Nat → Nat} {l : List Nat}
theorem LayC.ex (h : LayC K H rs kvs G f) (e : Ex H H') : LayC K H' rs kvs G f := ⟨h.keys, h.nd, h.off, fun l hl => by
  obtain ⟨t, rv, L, ds, h1, h2, h3, h4, h5⟩ := h.rows l hl
  exact ⟨t, rv, L, ds, h1, ex_t e h2, h3, h4, h5.ex e⟩⟩
theorem LayC.has (h : LayC K H rs kvs G f) (l : List Nat) : (valV kvs (keyN l)).isSome = decide (l ∈ G) := by
  by_cases c : l ∈ G
  · obtain ⟨_, _, _, _, h1, _⟩ := h.rows l c
    rw [h1, decide_eq_true c]
    rfl
  · rw [decide_eq_false c, ← valV_any]
    rw [List.any_eq_false]
    intro kv hkv z
    have z := of_decide_eq_true z
    have : kv.1 ∈ G.map keyN := by rw [← h.keys]; exact List.mem_map.mpr ⟨kv, hkv, rfl⟩
    obtain ⟨m, hm, em⟩ := List.mem_map.mp this
    rw [z] at em
    exact c (keyN_inj em ▸ hm)
theorem LayC.none (h : LayC K H rs kvs G f) (hl : l ∉ G) : valV kvs (keyN l) = none := by
  have := h.has l
  rw [decide_eq_false hl] at this
  cases c : valV kvs (keyN l) with
  | none => rfl
  | some x => rw [c] at this; cases this
theorem LayC.nil : LayC K H rs [] [] (fun _ => 0) := ⟨rfl, List.nodup_nil, (fun _ _ => rfl), fun _ h => nomatch h⟩
end
end HH
set_option maxHeartbeats 4000000
namespace HH
open PySem PySem.Spec PyProof.Rows L2 Evl RZ
theorem XGet.ex {P : Program} {w : World} {H H' : Hp} {a : Addr} {y : V} {r : Option V} (h : XGet P w H a y r) (e : Ex H H') : XGet P w H' a y r := by
  obtain ⟨kb, k, b, g, e1, f, e2⟩ := h
  exact ⟨kb, k, b, g.ex e, e1, f.ex e, e2⟩
section
variable {K : PySem.W.Frag} {σ : L2.St} {H : Hp} {td ty te : TE}
end
end HH
set_option maxHeartbeats 4000000
namespace HH
open PySem PySem.Spec PyProof.Rows L2 Evl RZ
open PySem.W (dataLt alike alikeAll keyToksAll)
def listN (l : List Nat) : PyData := .list ((l.map fun (x : Nat) => (x : Int)).map PyData.int)
theorem dp_listN {K : PySem.W.Frag} {H : Hp} {a : Addr} {l : List Nat} (h : SqL K H a (natsV l)) : Dp K H (.ref a) (listN l) := by
  rw [natsV_int] at h
  exact .lst h (dp_ints _)
end HH
set_option maxHeartbeats 4000000
namespace HH
open PySem PySem.Spec PyProof.Rows L2 Evl RZ
section
variable {K : PySem.W.Frag} {σ : L2.St} {H : Hp}
end
end HH
set_option maxHeartbeats 4000000
namespace HH
open PySem PySem.Spec PyProof.Rows L2 Evl RZ
def ListNAt (H0 H : Hp) (v : V) (l : List Nat) : Prop := ∃ a, v = .ref a ∧ H0 a = none ∧ H a = some (.lst (natsV l))
section
variable {K : PySem.W.Frag} {H0 H H' : Hp} {v : V} {l : List Nat}
theorem ListNAt.ex (h : ListNAt H0 H v l) (e : Ex H H') : ListNAt H0 H' v l := by
  obtain ⟨a, h1, h0, h2⟩ := h
  exact ⟨a, h1, h0, e _ _ h2⟩
theorem ListNAt.back {H1 : Hp} (h : ListNAt H0 H v l) (e : Ex H1 H0) : ListNAt H1 H v l := by
  obtain ⟨a, h1, h0, h2⟩ := h
  exact ⟨a, h1, fresh_back e h0, h2⟩
theorem ListNAt.exB {q : Addr} (h : ListNAt H0 H v l) (e : ExB q H H') (hv : v ≠ .ref q) : ListNAt H0 H' v l := by
  obtain ⟨a, h1, h0, h2⟩ := h
  exact ⟨a, h1, h0, e _ _ (fun z => hv (by rw [h1, z])) h2⟩
theorem ListNAt.exK {q : Addr} (h : ListNAt H0 H v l) (e : ExB q H H') (hq : H0 q ≠ none) : ListNAt H0 H' v l := h.exB e fun z => by
  obtain ⟨a, h1, h0, h2⟩ := h
  rw [h1] at z
  cases z
  exact hq h0
theorem ListNAt.dp (h : ListNAt H0 H v l) : Dp K H v (listN l) := by
  obtain ⟨a, rfl, _, h2⟩ := h
  exact dp_listN (sq_of h2)
end
end HH
set_option maxHeartbeats 4000000
namespace HH
open PySem PySem.Spec PyProof.Rows L2 Evl RZ
section
variable {rs : HH.Row} {E : List Cow} (tl : ∀ x ∈ rs, 0 ≤ x.2) (sE : Steps (tag 0 rs) E) (nE : Nf E)
include tl sE nE
end
end HH
set_option maxHeartbeats 4000000
namespace HH
open PySem PySem.Spec PyProof.Rows L2 Evl RZ
structure KnownR (rs : HH.Row) (n : Nat) (kt : HH.Row) (due l0 h0 l1 h1 : Nat) : Prop where
  len : rs.length = n
  tl : ∀ b ∈ rs, 0 ≤ b.2
  ends : ∃ E B, EndsOf rs E B ∧ keptT E B n = kt
  cnt : cntF (aheadF kt n) 0 = due
  s0 : (aheadL kt 0).length = l0 ∧ n - 1 - (behindL kt 0).length = h0
  s1 : (aheadL kt (n - 1)).length = l1 ∧ n - 1 - (behindL kt (n - 1)).length = h1
end HH
set_option maxHeartbeats 4000000
namespace HH
open PySem PySem.Spec PyProof.Rows L2 Evl RZ
end HH
set_option maxHeartbeats 4000000
namespace HH
open PySem PySem.Spec PyProof.Rows L2 Evl RZ
end HH
set_option maxHeartbeats 4000000
namespace HH
open PySem PySem.Spec PyProof.Rows L2 Evl RZ
structure KnownW (rs : HH.Row) (E : List Cow) (many : Nat) (w1 w2 : List Nat) : Prop where
  r0 : 0 < rs.length
  r7 : rs.length ≤ 7
  tl : ∀ b ∈ rs, 0 ≤ b.2
  sE : Steps (tag 0 rs) E
  nE : Nf E
  tot : totN rs E = many
  fst : (allE rs E)[0]? = some w1
  lst : (allE rs E)[many - 1]? = some w2
end HH
set_option maxHeartbeats 4000000
namespace HH
open PySem PySem.Spec PyProof.Rows L2 Evl RZ
section
variable {X : Cx} {σ : L2.St} {H : Hp}
end
end HH
set_option maxHeartbeats 4000000
namespace HH
open PySem PySem.Spec PyProof.Rows L2 Evl RZ
section
variable {K : PySem.W.Frag} {σ : L2.St} {H : Hp} {tr : TA} {te ti : TE}
end
end HH
set_option maxHeartbeats 4000000
namespace HH
open PySem PySem.Spec PyProof.Rows L2 Evl RZ
section
variable {K : PySem.W.Frag} {σ : L2.St} {H : Hp} {ta tm t1 t2 te : TE} {p : Addr} {n : Nat} {Q : VK}
end
end HH
set_option maxHeartbeats 4000000
namespace HH
open PySem PySem.Spec PyProof.Rows L2 Evl RZ TL NumText
def mostN : Nat := 10 ^ 1000
def smallN : Nat := 10 ^ 200
theorem small_most {n : Nat} (h : n < smallN) : n < mostN := Nat.lt_of_lt_of_le h (Nat.pow_le_pow_right (by decide) (by decide))
def spNumTextL : Sp := fun vs H Q _ => ∃ n : Int, vs = [.int n] ∧ n.natAbs < smallN ∧ ∀ H', Ex H H' → Q (.str (mkS (numT n))) H'
def spNumTextS : Sp := fun vs H Q _ => ∃ n : Int, vs = [.int n] ∧ n.natAbs < mostN ∧ ∀ H', Ex H H' → Q (.str (mkS (numT n))) H'
def spNumInS : Sp := fun vs H Q _ => ∃ l : List Nat, vs = [.str (mkS l)] ∧ AllDigits (unS l) ∧ unS l ≠ [] ∧ l.length ≤ 50000 ∧ ∀ H', Ex H H' → Q (.int (numV l)) H'
def spFigS : Sp := fun vs H Q _ => ∃ l : List Nat, vs = [.str (mkS l)] ∧ l.length ≤ 50000 ∧ ∀ H', Ex H H' → Q (.bl (isFig l)) H'
def spNumIsS : Sp := fun vs H Q _ => ∃ l : List Nat, vs = [.str (mkS l)] ∧ l.length ≤ 50000 ∧ ∀ H', Ex H H' → Q (.bl (isNumT l)) H'
def spBeastIsS : Sp := fun vs H Q _ => ∃ l : List Nat, vs = [.str (mkS l)] ∧ l.length ≤ 50000 ∧ ∀ H', Ex H H' → Q (.bl (isBeast l)) H'
def FewB (rs : HH.Row) : Prop := ∀ b ∈ rs, b.1.natAbs < mostN ∧ b.2.natAbs < mostN
def spRowTextS (K : PySem.W.Frag) : Sp := fun vs H Q _ => ∃ (v : V) (rs : HH.Row), vs = [v] ∧ RowAt K H v rs ∧ rs.length ≤ 1000 ∧ FewB rs ∧ (rowT rs).length ≤ 50000 ∧ ∀ H', Ex H H' → Q (.str (mkS (rowT rs))) H'
def spBeastInS (K : PySem.W.Frag) : Sp := fun vs H Q _ => ∃ l : List Nat, vs = [.str (mkS l)] ∧ isBeast l = true ∧ l.length ≤ 50000 ∧ ∀ (t : Addr) (H' : Hp), H t = none → Ex H H' → H' t = some (.tup [.int (beastV l).1, .int (beastV l).2]) → Q (.ref t) H'
def spRowInX (K : PySem.W.Frag) (C : Addr) : Sp := fun vs H Q X => ∃ l : List Nat, vs = [.str (mkS l)] ∧ l.length ≤ 50000 ∧
  ((∀ p ∈ wordsS l, isBeast p = true) → ∀ (v : V) (H' : Hp), Ex H H' → RowAt K H' v ((wordsS l).map beastV) → Q v H') ∧
  (∀ (i : Nat) (w : List Nat), (wordsS l)[i]? = some w → isBeast w = false → (∀ (j : Nat) (x : List Nat), j < i → (wordsS l)[j]? = some x → isBeast x = true) → ∀ (d : Addr) (H' : Hp), Ex H H' → H' d = none → X (.ref C) (some d) (upd H' d (.xd [(("at" : Str), .int (i : Int))])))
theorem rgc_18 {a b m : Nat} (h : b = a + 18 * m) (hb : b ≤ 1000000) : RgC (a : Int) (b : Int) 18 m := by
  have e : Builtin.Range.rangeSize (a : Int) (b : Int) 18 = (m : Int) := by
    unfold Builtin.Range.rangeSize
    rw [if_pos (by decide)]
    split <;> omega
  refine ⟨by decide, by decide, ?_, e⟩
  unfold Builtin.Range.small
  rw [e]
  have f : ∀ x : Int, -(2 ^ 63) ≤ x → x < 2 ^ 63 → Builtin.Range.rangeFitsLong x = true := fun x h1 h2 => by
    unfold Builtin.Range.rangeFitsLong
    rw [decide_eq_true h1, decide_eq_true h2]
    rfl
  simp only [f (a : Int) (by omega) (by omega), f (b : Int) (by omega) (by omega), f 18 (by decide) (by decide), f (m : Int) (by omega) (by omega), Bool.true_and, Bool.and_true, Bool.or_true, Bool.true_or]
  rw [if_pos (by decide), f _ (by omega) (by omega), Bool.or_true]
section
variable {K : PySem.W.Frag} {σ : L2.St} {H : Hp}
theorem q_for18 {ta : TA} {tz tu : TS} {D : Ends} {j a b m : Nat} (h : EvA ta σ H [.int (a : Int), .int (b : Int), .int 18]) (hb : b = a + 18 * m) (hn : b ≤ 1000000) (Pv : Nat → L2.St → Hp → Prop) (h0 : ∀ H1, Ex H H1 → Pv 0 σ H1)
    (hs : ∀ i σ' H', i < m → Pv i σ' H' → tu { D with nx := Pv (i + 1), ct := Pv (i + 1), bk := tz D } (σ'.set j (some (.int ((a + 18 * i : Nat) : Int)))) H') (hd : ∀ σ' H', Pv m σ' H' → tz D σ' H') : tSeq (tFor (iRng3 ta) (gName j) tu) tz D σ H :=
  h H (Ex.refl H) _ fun H1 e => ⟨(a : Int), (b : Int), 18, m, rfl, rgc_18 hb hn, by
    refine for_rangeC (D := { D with nx := tz D }) Pv (h0 H1 e) (fun i σ' H' hi p => ?_) hd
    rw [show (a : Int) + ((i : Nat) : Int) * 18 = ((a + 18 * i : Nat) : Int) by omega]
    exact hs i σ' H' hi p⟩
theorem ev_joinN {te : TE} {ls : List (List Nat)} (h2 : EvL te σ H (strsV ls)) (hz : (ls.map List.length).sum ≤ 100000) :
    Ev (tM1 (fun x xs H Q => ∃ a p, ∃ ys : List Str, x = .str a ∧ xs = [.ref p] ∧ (SqL K H p (ys.map V.str) ∨ SqT K H p (ys.map V.str)) ∧ (ys.map (·.length)).sum + ys.length * a.length ≤ 16777216 ∧ Q (.str (Txt.join a ys)) H) (tC (.str "")) te) σ H (.str (mkS ls.flatten)) :=
  ev_is (ev_joinS (K := K) (s := []) (ls := ls) (te := te) (to := tC (.str (mkS []))) ev_c (fun H1 e => h2.mono e) (by show _ + ls.length * 0 ≤ 100000; omega)) (by rw [joinL_nil])
end
theorem digs_18 {l : List Nat} {a : Nat} (h : a + 18 ≤ l.length) : digitsVal (l.take (a + 18)) = digitsVal (l.take a) * 10 ^ 18 + digitsVal ((l.drop a).take 18) := by
  rw [List.take_add, digitsVal_app]
  have : ((l.drop a).take 18).length = 18 := by rw [List.length_take, List.length_drop]; omega
  rw [this]
section
variable {K : PySem.W.Frag} {σ : L2.St} {H : Hp} {te : TE}
theorem el_revV {a : Addr} {xs : List V} (h : Ev te σ H (.ref a)) (hs : SqL K H a xs) : EvL (tRevL K te) σ H xs.reverse := fun H1 e Q q => h H1 e _ fun H2 e2 => ⟨a, xs, rfl, ex_l (e.trans e2) hs, fun p hp => q p _ (fresh_back e2 hp) (e2.trans (Ex.new hp)) upd_same⟩
end
theorem flat18 {ps : List (List Nat)} (h : ∀ p ∈ ps, p.length = 18) : ps.flatten.length = 18 * ps.length := by
  induction ps with
  | nil => rfl
  | cons p r ih =>
    rw [List.flatten_cons, List.length_append, ih fun x hx => h x (List.mem_cons_of_mem _ hx), h p (List.mem_cons_self ..), List.length_cons]
    omega
theorem flat_sumS (ps : List (List Nat)) : (ps.map List.length).sum = ps.flatten.length := by
  rw [List.length_flatten]
theorem numT_len {n : Int} (h : n.natAbs < mostN) : (numT n).length ≤ 1001 := by
  have h1 : (numL n.natAbs).length ≤ 1000 := numL_len (by decide) h
  unfold numT
  rw [List.length_append]
  split
  · show 1 + _ ≤ 1001
    omega
  · show 0 + _ ≤ 1001
    omega
theorem sumS_le {m : Nat} : ∀ (ls : List (List Nat)), (∀ l ∈ ls, l.length ≤ m) → (ls.map List.length).sum ≤ m * ls.length
  | [], _ => Nat.zero_le _
  | l :: r, h => by
    have i := sumS_le r fun x hx => h x (List.mem_cons_of_mem _ hx)
    have := h l (List.mem_cons_self ..)
    rw [List.map_cons, List.sum_cons, List.length_cons, Nat.mul_succ]
    omega
theorem joinL_eq (s : List Nat) : ∀ {ls : List (List Nat)}, ls ≠ [] → (joinL s ls).length + s.length = (ls.map List.length).sum + ls.length * s.length
  | [], h => absurd rfl h
  | [p], _ => by show p.length + s.length = p.length + 0 + 1 * s.length; omega
  | p :: q :: r, _ => by
    have i := joinL_eq s (ls := q :: r) (by simp)
    show (p ++ (s ++ joinL s (q :: r))).length + s.length = p.length + ((q :: r).map List.length).sum + ((q :: r).length + 1) * s.length
    rw [List.length_append, List.length_append, Nat.add_mul]
    omega
theorem join_room {rs : HH.Row} {m : Nat} (h : (rowT rs).length ≤ m) : ((rs.map beastT).map List.length).sum + (rs.map beastT).length * ([32] : List Nat).length ≤ m + 1 := by
  cases rs with
  | nil => show 0 + 0 * 1 ≤ m + 1; omega
  | cons b r =>
    have := joinL_eq [32] (ls := (b :: r).map beastT) (by simp)
    have e : (joinL [32] ((b :: r).map beastT)).length ≤ m := h
    have e1 : ([32] : List Nat).length = 1 := rfl
    omega
def figsZ : Str := "0123456789"
theorem sign_fig (c : Nat) : decide (c ∈ figsZ.cps.toList) = decide (48 ≤ c ∧ c ≤ 57) := by
  have e : figsZ.cps.toList = [48, 49, 50, 51, 52, 53, 54, 55, 56, 57] := by decide +kernel
  rw [e]
  refine decide_eq_decide.mpr ?_
  simp only [List.mem_cons, List.not_mem_nil, or_false]
  omega
end HH
set_option maxHeartbeats 4000000
namespace HH
open PySem PySem.Spec PyProof.Rows L2 Evl RZ TL NumText
theorem par_len : ∀ (l acc a b : List Nat), par [58] acc l = some (a, b) → a.length + b.length ≤ acc.length + l.length
  | [], acc, a, b, h => by cases h
  | c :: r, acc, a, b, h => by
    cases hp : pre [58] (c :: r) with
    | true =>
      rw [par_hit hp] at h
      injection h with h
      injection h with h1 h2
      subst h1; subst h2
      rw [List.length_drop]
      omega
    | false =>
      rw [par_miss hp] at h
      have := par_len r (acc ++ [c]) a b h
      rw [List.length_append] at this
      show _ ≤ acc.length + (r.length + 1)
      have e : ([c] : List Nat).length = 1 := rfl
      omega
theorem parS_len (l : List Nat) : (parS l).1.length ≤ l.length ∧ (parS l).2.length ≤ l.length := by
  unfold parS
  cases h : par [58] [] l with
  | none => exact ⟨Nat.le_refl _, Nat.zero_le _⟩
  | some p =>
    obtain ⟨a, b⟩ := p
    have := par_len l [] a b h
    have e : ([] : List Nat).length = 0 := rfl
    show a.length ≤ _ ∧ b.length ≤ _
    omega
theorem spl_len : ∀ (l : List Nat) (k : Nat) (acc : List Nat), ∀ p ∈ spl [32] k acc l, p.length ≤ acc.length + l.length
  | [], k, acc, p, hp => by
    rw [spl_nil] at hp
    rw [List.mem_singleton.mp hp]
    exact Nat.le_add_right _ _
  | c :: r, k + 1, acc, p, hp => by
    have hp : p ∈ spl [32] k acc r := hp
    have := spl_len r k acc p hp
    rw [List.length_cons]
    omega
  | c :: r, 0, acc, p, hp => by
    rw [List.length_cons]
    cases h : pre [32] (c :: r) with
    | true =>
      rw [spl_hit h] at hp
      rcases List.mem_cons.mp hp with z | z
      · rw [z]; omega
      · have := spl_len r _ [] p z
        have e : ([] : List Nat).length = 0 := rfl
        omega
    | false =>
      rw [spl_miss h] at hp
      have := spl_len r 0 (acc ++ [c]) p hp
      rw [List.length_append] at this
      have e : ([c] : List Nat).length = 1 := rfl
      omega
theorem words_each {l p : List Nat} (h : p ∈ wordsS l) : p.length ≤ l.length := by
  have := spl_len l 0 [] p h
  have e : ([] : List Nat).length = 0 := rfl
  omega
theorem spl_many : ∀ (l : List Nat) (k : Nat) (acc : List Nat), (spl [32] k acc l).length ≤ l.length + 1
  | [], k, acc => by rw [spl_nil]; exact Nat.le_refl _
  | c :: r, k + 1, acc => by
    have := spl_many r k acc
    rw [List.length_cons]
    show (spl [32] k acc r).length ≤ _
    omega
  | c :: r, 0, acc => by
    rw [List.length_cons]
    cases h : pre [32] (c :: r) with
    | true =>
      rw [spl_hit h, List.length_cons]
      have := spl_many r ([32].length - 1) []
      omega
    | false =>
      rw [spl_miss h]
      have := spl_many r 0 (acc ++ [c])
      omega
theorem words_many (l : List Nat) : (wordsS l).length ≤ l.length + 1 := spl_many l 0 []
theorem unS_fig {l : List Nat} (h : isFig l = true) : unS l = l := by
  cases l with
  | nil => rfl
  | cons c r =>
    have := (isFig_digits h).1.head
    unfold unS
    split
    · rename_i e
      injection e with e
      omega
    · rfl
theorem unS_len (l : List Nat) : (unS l).length ≤ l.length := by
  unfold unS
  split
  · rw [List.length_cons]; omega
  · exact Nat.le_refl _
theorem beast_parts {l : List Nat} (h : isBeast l = true) : (AllDigits (unS (parS l).1) ∧ unS (parS l).1 ≠ []) ∧ (AllDigits (unS (parS l).2) ∧ unS (parS l).2 ≠ []) := by
  unfold isBeast at h
  obtain ⟨h1, h2⟩ := Bool.and_eq_true_iff.mp h
  unfold isNumT at h1
  refine ⟨isFig_digits (Bool.and_eq_true_iff.mp h1).1, ?_⟩
  rw [unS_fig h2]
  exact isFig_digits h2
section
variable {K : PySem.W.Frag} {σ : L2.St} {H : Hp} {te : TE}
theorem q_asgTU {xs : List V} {g : TG} {tz : TS} {D : Ends} (h : EvU te σ H xs) (k : ∀ T H1, H T = none → Ex H H1 → H1 T = some (.tup xs) → g (.ref T) σ H1 (tz D)) : tSeq (tAsg te g) tz D σ H := h H (Ex.refl _) _ k
theorem sp_figS {E : XK} {l : List Nat} (hl : l.length ≤ 50000) : SpV spFigS [.str (mkS l)] H (.bl (isFig l)) := fun H1 e Q q E => ⟨l, rfl, hl, fun H' e' => q H' e'⟩
theorem sp_numTextS {n : Int} (hn : n.natAbs < mostN) : SpV spNumTextS [.int n] H (.str (mkS (numT n))) := fun H1 e Q q E => ⟨n, rfl, hn, fun H' e' => q H' e'⟩
theorem sp_numInS {l : List Nat} (h1 : AllDigits (unS l)) (h2 : unS l ≠ []) (h3 : l.length ≤ 50000) : SpV spNumInS [.str (mkS l)] H (.int (numV l)) := fun H1 e Q q E => ⟨l, rfl, h1, h2, h3, fun H' e' => q H' e'⟩
theorem sp_numIsS {l : List Nat} (hl : l.length ≤ 50000) : SpV spNumIsS [.str (mkS l)] H (.bl (isNumT l)) := fun H1 e Q q E => ⟨l, rfl, hl, fun H' e' => q H' e'⟩
theorem sp_beastIsS {l : List Nat} (hl : l.length ≤ 50000) : SpV spBeastIsS [.str (mkS l)] H (.bl (isBeast l)) := fun H1 e Q q E => ⟨l, rfl, hl, fun H' e' => q H' e'⟩
theorem er_wordsS {a : Addr} {ws : List (List Nat)} {j : Nat} {vs : List Nat} {te2 : TE} (f : List Nat → Int × Int) (h : Ev te σ H (.ref a)) (ha : H a = some (.lst (strsV ws))) (hl : ws.length ≤ 60000) (hw : ∀ x, wipe ((wipe σ vs).set j (some x)) vs = wipe σ vs)
    (he : ∀ w ∈ ws, ∀ H1, Ex H H1 → ∀ Q : VK, (∀ (t : Addr) (H2 : Hp), H1 t = none → Ex H1 H2 → H2 t = some (.tup [.int (f w).1, .int (f w).2]) → Q (.ref t) H2) → te2 ((wipe σ vs).set j (some (.str (mkS w)))) H1 Q) :
    EvR K (tThen (tLc (iList K te) (gName j) tYes te2 vs) (kTup K)) σ H (ws.map f) := fun H0 e0 Q q => by
  have c_then : ∀ {ta : TE} {k : V → Hp → VK → Prop} {σ : L2.St} {H : Hp} {Q : VK}, ta σ H (fun x H1 => k x H1 Q) → tThen ta k σ H Q := fun h => h
  refine c_then ?_
  refine h H0 e0 _ fun H1 e1 => ⟨a, rfl, ⟨_, sq_of ((e0.trans e1) _ _ ha)⟩, fun Dl hDl => ?_⟩
  have ga := (e0.trans e1) _ _ ha
  have sl : (strsV ws).length = ws.length := List.length_map ..
  refine in_it (walk_list (xs := strsV ws)) (fun i H4 => Ex H1 H4 ∧ ∃ us, H4 Dl = some (.lst us) ∧ BeastsT H4 us ((ws.take i).map f)) ⟨Ex.new hDl, [], upd_same, All2.nil⟩ (fun i H2 _ p => sq_of (p.1 _ _ ga)) (fun i x H4 H5 hi p y => ?_) (fun H4 p => ?_)
  · obtain ⟨rfl, hx⟩ := y
    obtain ⟨r1, us, r2, r3⟩ := p
    rw [sl] at hi
    obtain ⟨w, hwk⟩ : ∃ w, ws[i]? = some w := ⟨_, List.getElem?_eq_getElem hi⟩
    have hx : x = V.str (mkS w) := by
      have h2 : (strsV ws)[i]? = some (V.str (mkS w)) := by
        unfold strsV
        rw [List.getElem?_map, hwk]
        rfl
      rw [h2] at hx
      exact (Option.some.inj hx).symm
    subst hx
    refine ⟨hw _, ?_⟩
    refine et_yes H5 (Ex.refl _) _ fun H6 e6 => ?_
    rw [if_pos rfl]
    refine he w (List.mem_of_getElem? hwk) H6 (((e0.trans e1).trans r1).trans e6) _ fun T H7 hT e7 gT => ?_
    have e57 := e6.trans e7
    have gD8 := e57 _ _ r2
    have ul := All2.len r3
    rw [List.length_map, List.length_take] at ul
    refine ⟨us, gD8, sz_lt (by omega), Ex.mut (r1.trans e57) hDl, us ++ [.ref T], upd_same, ?_⟩
    rw [List.take_succ, hwk, List.map_append]
    exact All2.app (BeastsT.exB' (BeastsT.ex' r3 e57) (ExB.refl _ _).upd gD8) (.cons ⟨T, rfl, (ExB.refl Dl H7).upd _ _ (fun z => by rw [z, gD8] at gT; cases gT) gT⟩ .nil)
  · obtain ⟨r1, us, r2, r3⟩ := p
    rw [sl, List.take_length] at r3
    refine .inl ⟨Dl, us, rfl, sq_of r2, fun T hT => ?_⟩
    have nT := Ex.new (o := .tup us) hT
    exact q _ _ ((e1.trans r1).trans nT) ⟨T, us, rfl, st_of upd_same, BeastsT.be (BeastsT.ex' r3 nT)⟩
end
end HH
set_option maxHeartbeats 4000000
namespace HH
open PySem PySem.Spec PyProof.Rows L2
def Mk4 (m : Nat) : Prop := MaskOk m ∨ m = 511
def from0 : Nat → Nat → List Nat
  | 0, _ => []
  | n + 1, x => x :: from0 n ((x * 5 + 1) % 512)
theorem from0_at : ∀ (n a b : Nat), b < n → (from0 n (lcgN 511 a))[b]? = some (lcgN 511 (a + b))
  | 0, _, _, c => absurd c (Nat.not_lt_zero _)
  | n + 1, a, 0, _ => rfl
  | n + 1, a, b + 1, c => by
    have z := from0_at n (a + 1) b (Nat.lt_of_succ_lt_succ c)
    rw [show a + 1 + b = a + (b + 1) by omega] at z
    exact z
theorem from0_all : ((List.range 512).all fun j => (from0 512 0).contains j) = true := by decide +kernel
theorem from0_end : lcgN 511 512 = 0 := by decide +kernel
theorem met511 {j : Nat} (c : j ≤ 511) : ∃ b, b ≤ 511 ∧ lcgN 511 b = j := by
  have z := List.all_eq_true.mp from0_all j (List.mem_range.mpr (by omega))
  obtain ⟨b, hb, e⟩ := List.getElem_of_mem (List.contains_iff_mem.mp z)
  have hl : ∀ n x, (from0 n x).length = n := fun n => by
    induction n with
    | zero => intro x; rfl
    | succ n ih => intro x; show (from0 n _).length + 1 = n + 1; rw [ih]
  have hb' : b < 512 := by rw [hl] at hb; exact hb
  refine ⟨b, by omega, ?_⟩
  have y := from0_at 512 0 b hb'
  rw [Nat.zero_add] at y
  have y2 : (from0 512 0)[b]? = some (lcgN 511 b) := y
  rw [List.getElem?_eq_getElem hb, e] at y2
  exact (Option.some.inj y2).symm
theorem round511 : ∀ k, lcgN 511 (512 + k) = lcgN 511 k
  | 0 => from0_end
  | k + 1 => by
    have z := round511 k
    show (lcgN 511 (512 + k) * 5 + 1) % 512 = (lcgN 511 k * 5 + 1) % 512
    rw [z]
theorem mk4_all {m i j : Nat} (c : Mk4 m) (hi : i ≤ m) (hj : j ≤ m) : ∃ k, k ≤ m ∧ lcgI m i k = j := by
  rcases c with c | rfl
  · exact lcgI_all c hi hj
  obtain ⟨a, ha, rfl⟩ := met511 hi
  obtain ⟨b, hb, rfl⟩ := met511 hj
  by_cases d : a ≤ b
  · exact ⟨b - a, by omega, by rw [lcgN_add, show a + (b - a) = b by omega]⟩
  · exact ⟨512 + b - a, by omega, by rw [lcgN_add, show a + (512 + b - a) = 512 + b by omega, round511]⟩
theorem mk4_run {m j : Nat} (c : Mk4 m) (g : Int) (hj : j ≤ m) : ∃ n, n ≤ m + 12 ∧ runI m (SetTable.bits g) n = j := by
  obtain ⟨k, hp1, h2⟩ := mk4_all c (runI_le m (SetTable.bits g) 12) hj
  exact ⟨12 + k, by omega, (runI_tail (bits_lt g) k).trans h2⟩
theorem mk4_first {m : Nat} (c : Mk4 m) (g : Int) {ps : List Nat} (hl : ps.length ≤ m) : ∃ K n, K < 10 * SetTable.turns m ∧ n < SetTable.turns m ∧ K ≤ off m (SetTable.bits g % (m + 1)) (SetTable.bits g) n ∧ way m g K ∉ ps ∧ way m g K ≤ m ∧ ∀ k, k < K → way m g k ∈ ps := by
  obtain ⟨j, hp1, h2⟩ := st_missing ps (m + 1) (by omega)
  obtain ⟨n, h3, h4⟩ := mk4_run c g (show j ≤ m by omega)
  have e : way m g (off m (SetTable.bits g % (m + 1)) (SetTable.bits g) n) = j := by
    have z := nth_off m n (SetTable.bits g % (m + 1)) (SetTable.bits g)
    rw [itL_run] at z
    exact (congrArg SetTable.Probe.j z).trans h4
  have ob : ∀ n i b, i ≤ m → off m i b n ≤ 10 * n := fun n => by
    induction n with
    | zero => intro i b _; exact Nat.le_refl _
    | succ n ih =>
      intro i b hi
      have r := (runEnd_bd hi).2.2
      have z := ih (SetTable.leap m i b).1 (SetTable.leap m i b).2 (leap_le m i b)
      show (SetTable.runEnd m i - i + 1) + off m (SetTable.leap m i b).1 (SetTable.leap m i b).2 n ≤ 10 * (n + 1)
      omega
  have bo := ob n (SetTable.bits g % (m + 1)) (SetTable.bits g) (Nat.le_of_lt_succ (Nat.mod_lt _ (Nat.succ_pos _)))
  obtain ⟨K, k1, k2, k3⟩ := st_least (p := fun k => way m g k ∉ ps) _ (by rw [e]; exact h2)
  have wl : ∀ k, way m g k ≤ m := fun k => by
    have hi : SetTable.bits g % (m + 1) ≤ m := Nat.le_of_lt_succ (Nat.mod_lt _ (Nat.succ_pos _))
    have r := runEnd_bd hi
    have q := nth_in k (runAt m (SetTable.bits g % (m + 1)) (SetTable.bits g)) (m := m) (by
      show SetTable.bits g % (m + 1) + (SetTable.runEnd m (SetTable.bits g % (m + 1)) - SetTable.bits g % (m + 1)) ≤ m
      clear bo k1 k2 k3 e
      omega)
    exact Nat.le_trans (Nat.le_add_right _ _) q
  refine ⟨K, n, by unfold SetTable.turns; omega, by unfold SetTable.turns; omega, k1, k2, wl K, fun k hk => ?_⟩
  exact Classical.byContradiction fun no => k3 k hk no
structure OwnN (m n : Nat) (ow : Array (Option Nat)) : Prop where
  sz : ow.size = m + 1
  ps : ∃ ps : List Nat, ps.Nodup ∧ ps.length = n ∧ (∀ j, j ≤ m → (oAt ow j ≠ none ↔ j ∈ ps)) ∧ ∀ j ∈ ps, j ≤ m
  low : ∀ j k, j ≤ m → oAt ow j = some k → k < n
theorem OwnN.new (m : Nat) : OwnN m 0 (Array.replicate (m + 1) none) :=
  ⟨by simp, ⟨[], List.nodup_nil, rfl, fun j hj => ⟨fun z => absurd (oAt_init hj) z, fun z => nomatch z⟩, fun j z => nomatch z⟩, fun j k hj e => by rw [oAt_init hj] at e; exact nomatch e⟩
theorem OwnN.next {m n : Nat} {ow : Array (Option Nat)} (c : Mk4 m) (W : OwnN m n ow) (hn : n ≤ m) (g : Int) :
    ∃ j, SetTable.layClean.free m ow (SetTable.turns m) (SetTable.bits g % (m + 1)) (SetTable.bits g) = some j ∧ OwnN m (n + 1) (ow.setIfInBounds j (some n)) := by
  obtain ⟨ps, p1, p2, p3, p4⟩ := W.ps
  obtain ⟨K, q, _, a2, a3, a4, a5, a6⟩ := mk4_first c g (ps := ps) (by omega)
  have wl : ∀ k, k < K → way m g k ≤ m := fun k hk => p4 _ (a6 k hk)
  have fr : oAt ow (way m g K) = none := Classical.byContradiction fun no => a4 ((p3 _ a5).mp no)
  refine ⟨way m g K, free_spec m ow _ q _ _ K a2 a3 (fun k hk => ?_) (by show (oAt ow (way m g K)).isNone = true; rw [fr]; rfl), by rw [Array.size_setIfInBounds]; exact W.sz, ⟨way m g K :: ps, ?_, ?_, fun j hj => ?_, fun j hj => ?_⟩, fun j k hj e => ?_⟩
  · have z := (p3 _ (wl k hk)).mpr (a6 k hk)
    show (oAt ow (way m g k)).isNone = false
    revert z
    cases oAt ow (way m g k) with
    | none => exact fun z => absurd rfl z
    | some _ => exact fun _ => rfl
  · exact List.nodup_cons.mpr ⟨a4, p1⟩
  · rw [List.length_cons, p2]
  · by_cases d : j = way m g K
    · rw [d, oAt_set_self _ (by rw [W.sz]; omega)]
      exact ⟨fun _ => List.mem_cons_self, fun _ z => nomatch z⟩
    · rw [oAt_set_ne _ d, p3 j hj, List.mem_cons]
      exact ⟨.inr, fun z => z.resolve_left d⟩
  · rcases List.mem_cons.mp hj with d | d
    · rw [d]; exact a5
    · exact p4 j d
  · by_cases d : j = way m g K
    · rw [d, oAt_set_self _ (by rw [W.sz]; omega)] at e
      cases e
      exact Nat.lt_succ_self _
    · rw [oAt_set_ne _ d] at e
      exact Nat.lt_succ_of_lt (W.low j k hj e)
section
variable {w : World} {P : Program} {s : Shared} {A : Around} {E : Value → Shared → Prop}
structure SetH (h : Heap) (a : Addr) (gs : List Int) (es : Array (Int × Value)) (ep : Nat) (t : SetTable) : Prop where
  ob : ∃ z, h.get? a = some z ∧ z.ExactSet ∧ z.data = .set es ep t
  sz : es.size = gs.length
  sub : ∀ e ∈ es.toList, e.1 ∈ gs
  ris : Ris t.place.toList
  pz : t.place.size = gs.length
  dm : t.dummies = #[]
  mok4 : Mk4 t.mask
  pl : t.plain = true
  room : gs.length * 5 < t.mask * 3
variable {a : Addr} {gs : List Int} {es : Array (Int × Value)} {ep : Nat} {t : SetTable}
end
end HH
set_option maxHeartbeats 4000000
namespace HH
open PySem PySem.Spec PyProof.Rows L2
section
variable {w : World} {P : Program} {s : Shared} {A : Around} {E : Value → Shared → Prop}
theorem SetH.keep {h h' : Heap} {a : Addr} {gs : List Int} {es : Array (Int × Value)} {ep : Nat} {t : SetTable} (R : SetH h a gs es ep t) (k : ∀ z, h.get? a = some z → h'.get? a = some z) : SetH h' a gs es ep t := by
  obtain ⟨z, h1, h2⟩ := R.ob
  exact { R with ob := ⟨z, k z h1, h2⟩ }
abbrev newS (w : World) : Obj := { cls := .type "set", dict := none, data := .set #[] 0 (.fresh 0 0 (!w.params.followText "set-order")) }
theorem SetH.new {h : Heap} {a : Addr} (e : h.get? a = some (newS w)) : SetH h a [] #[] 0 (.fresh 0 0 (!w.params.followText "set-order")) where
  ob := ⟨_, e, ⟨rfl, rfl, rfl⟩, rfl⟩
  sz := rfl
  sub := fun _ z => nomatch z
  ris := List.Pairwise.nil
  pz := rfl
  dm := rfl
  mok4 := .inl (.inl rfl)
  pl := rfl
  room := by show 0 * 5 < 7 * 3; decide
end
section
variable {X : Cx}
end
end HH
set_option maxHeartbeats 4000000
namespace HH
open PySem PySem.Spec PyProof.Rows L2
end HH
set_option maxHeartbeats 4000000
namespace HH
open PySem PySem.Spec PyProof.Rows L2 Evl RZ
section
variable {K : PySem.W.Frag} {σ : L2.St} {H H' : Hp} {ta tb tc td te : TE} {x y v : V} {Q : VK}
end
end HH
set_option maxHeartbeats 4000000
namespace HH
open PySem PySem.Spec PyProof.Rows L2 Evl RZ
inductive Way (L0 : List Cow) : List (List Cow) → List Cow → Prop
  | nil : Way L0 [L0] L0
  | step {LL : List (List Cow)} {pre post : List Cow} {a b : Cow} : Way L0 LL (pre ++ a :: b :: post) → b.2.1 - a.2.2 > a.2.1 → Way L0 (LL ++ [pre ++ (b.1, (b.2.1 - a.2.2, b.2.2)) :: a :: post]) (pre ++ (b.1, (b.2.1 - a.2.2, b.2.2)) :: a :: post)
theorem Way.last {L0 : List Cow} {LL : List (List Cow)} {L : List Cow} (w : Way L0 LL L) : ∃ r, LL = r ++ [L] := by
  cases w with
  | nil => exact ⟨[], rfl⟩
  | step => exact ⟨_, rfl⟩
theorem Way.at' {L0 : List Cow} {LL : List (List Cow)} {L : List Cow} (w : Way L0 LL L) : ∀ (j : Nat) (M : List Cow), LL[j]? = some M → StepsN j L0 M ∧ StepsN (LL.length - 1 - j) M L ∧ j < LL.length := by
  induction w with
  | nil =>
    intro j M h
    cases j with
    | zero => cases h; exact ⟨.refl _, .refl _, Nat.succ_pos _⟩
    | succ j => cases h
  | @step LL pre post a b w hp ih =>
    have sN : StepsN 1 (pre ++ a :: b :: post) (pre ++ (b.1, (b.2.1 - a.2.2, b.2.2)) :: a :: post) := .head ⟨pre, post, a, b, rfl, hp, rfl⟩ (.refl _)
    have hl : 0 < LL.length := by
      obtain ⟨r, e⟩ := w.last
      rw [e, List.length_append]
      exact Nat.succ_pos _
    obtain ⟨r, e⟩ := w.last
    have end' := ih (LL.length - 1) _ (by rw [e, List.length_append]; show (r ++ _)[r.length + 1 - 1]? = _; rw [Nat.add_sub_cancel, List.getElem?_append_right (Nat.le_refl _), Nat.sub_self]; rfl)
    intro j M h
    rw [List.length_append]
    show _ ∧ StepsN (LL.length + 1 - 1 - j) _ _ ∧ j < LL.length + 1
    by_cases c : j < LL.length
    · rw [List.getElem?_append_left c] at h
      obtain ⟨h1, h2, _⟩ := ih j M h
      refine ⟨h1, ?_, by omega⟩
      have z := h2.trans sN
      rw [show LL.length - 1 - j + 1 = LL.length + 1 - 1 - j by omega] at z
      exact z
    · have hj : j = LL.length := by
        have := (List.getElem?_eq_some_iff.mp h).1
        rw [List.length_append] at this
        have : j < LL.length + 1 := this
        omega
      subst hj
      rw [List.getElem?_append_right (Nat.le_refl _), Nat.sub_self] at h
      cases h
      refine ⟨?_, ?_, by omega⟩
      · have z := end'.1.trans sN
        rw [show LL.length - 1 + 1 = LL.length by omega] at z
        exact z
      · rw [show LL.length + 1 - 1 - LL.length = 0 by omega]
        exact .refl _
theorem StepsN.unmap {f : Nat → Nat} {c : Nat} {L Z : List Cow} (h : StepsN c L Z) : ∀ {L0 : List Cow}, L = rlL f L0 → ∃ Z0, StepsN c L0 Z0 ∧ Z = rlL f Z0 := by
  induction h with
  | refl => exact fun e => ⟨_, .refl _, e⟩
  | head s _ ih =>
    intro L0 e
    subst e
    obtain ⟨M0, s0, rfl⟩ := s.unmap
    obtain ⟨Z0, h1, h2⟩ := ih rfl
    exact ⟨Z0, .head s0 h1, h2⟩
end HH
set_option maxHeartbeats 4000000
namespace HH
open PySem PySem.Spec PyProof.Rows L2 Evl RZ
theorem All2.cut {α : Type} {R : V → α → Prop} : ∀ {A B : List α} {us : List V}, All2 R us (A ++ B) → ∃ u1 u2, us = u1 ++ u2 ∧ All2 R u1 A ∧ All2 R u2 B
  | [], B, us, h => ⟨[], us, rfl, .nil, h⟩
  | a :: A, B, _, .cons r h => by
    obtain ⟨u1, u2, e, h1, h2⟩ := All2.cut h
    exact ⟨_ :: u1, u2, by rw [e]; rfl, .cons r h1, h2⟩
section
variable {K : PySem.W.Frag} {σ : L2.St} {H H' : Hp} {ta tb te : TE} {v : V}
end
end HH
set_option maxHeartbeats 4000000
namespace PySem
namespace HandSPX
section
variable {prog : Program} {w : World} {A : Around} {E : Value → Shared → Prop} {R : Result → Shared → Prop} {h : Heap} {g : Array GenState} {d : Drawn} {t : Nat} {os : OsState} {M : Model}
variable {nm q : Str} {C N : Addr} {bs bm bmB : List Value} {hdct : Bool} {sn : List Str} {sub : List Value} {ab : Bool} {col : Option Bool} {dd : Option Addr} {k0 k1 k2 k3 k5 : Option Value} {B newId initId : String} {kn : Str} {kv : Value}
end
end HandSPX
end PySem
set_option maxHeartbeats 4000000
namespace HH
open PySem PySem.Spec PyProof.Rows L2 Evl RZ
section
variable {X : Cx} {C fI : Addr} {f : Str} {b : Bk}
def XIn (H : Hp) (a d C : Addr) (f : Str) (v : V) : Prop := H a = some (exo a C (some d)) ∧ H d = some (exd d [(f, v)])
theorem XIn.ex {H H' : Hp} {a d C : Addr} {v : V} (h : XIn H a d C f v) (e : Ex H H') : XIn H' a d C f v := ⟨e _ _ h.1, e _ _ h.2⟩
end
section
variable {K : PySem.W.Frag} {σ : L2.St} {H : Hp} {te : TE} {ta : TA} {C fI : Addr} {f : Str} {b : Bk}
end
end HH
set_option maxHeartbeats 4000000
namespace HH
open PySem PySem.Spec PyProof.Rows L2 Evl RZ
def PairX (H : Hp) (x : V) (c : Addr × Str × V) : Prop := ∃ p a b d e : Addr, x = .ref p ∧ H p = some (.tup [.ref a, .ref b]) ∧ XIn H a d c.1 c.2.1 c.2.2 ∧ XIn H b e c.1 c.2.1 c.2.2
theorem PairX.ex {H H' : Hp} {x : V} {c : Addr × Str × V} (h : PairX H x c) (e : Ex H H') : PairX H' x c := by
  obtain ⟨p, a, b, d, f, h1, h2, h3, h4⟩ := h
  exact ⟨p, a, b, d, f, h1, e _ _ h2, h3.ex e, h4.ex e⟩
theorem exo_lst {e C : Addr} {d : Option Addr} {xs : List V} : HO.lst xs ≠ exo e C d := fun z => by
  have z' : HO.lst xs = HO.ext _ := z
  cases z'
theorem exd_lst {e : Addr} {fs : List (Str × V)} {xs : List V} : HO.lst xs ≠ exd e fs := fun z => by
  have z' : HO.lst xs = HO.ext _ := z
  cases z'
theorem XIn.app {H : Hp} {a d C : Addr} {f : Str} {v : V} {l : Addr} {xs ys : List V} (h : XIn H a d C f v) (g : H l = some (.lst xs)) : XIn (upd H l (.lst ys)) a d C f v :=
  ⟨by rw [upd_ne (at_ne g h.1 exo_lst)]; exact h.1, by rw [upd_ne (at_ne g h.2 exd_lst)]; exact h.2⟩
theorem PairX.app {H : Hp} {x : V} {c : Addr × Str × V} {l : Addr} {xs ys : List V} (h : PairX H x c) (g : H l = some (.lst xs)) : PairX (upd H l (.lst ys)) x c := by
  obtain ⟨p, a, b, d, f, h1, h2, h3, h4⟩ := h
  exact ⟨p, a, b, d, f, h1, by rw [upd_ne (at_ne g h2 (fun z => by cases z))]; exact h2, h3.app g, h4.app g⟩
def Pairs (H : Hp) (us : List V) (cs : List (Addr × Str × V)) : Prop := All2 (PairX H) us cs
section
variable {K : PySem.W.Frag} {σ : L2.St} {H : Hp} {te ta tb : TE} {C : Addr} {f : Str} {v : V} {D : Ends} {tz : TS}
theorem Pairs.len {us : List V} {cs : List (Addr × Str × V)} (h : Pairs H us cs) : us.length = cs.length := All2.len h
theorem Pairs.ex {H' : Hp} {us : List V} {cs : List (Addr × Str × V)} (h : Pairs H us cs) (e : Ex H H') : Pairs H' us cs := All2.mono (fun _ _ g => g.ex e) h
theorem Pairs.app {l : Addr} {xs ys : List V} {us : List V} {cs : List (Addr × Str × V)} (h : Pairs H us cs) (g : H l = some (.lst xs)) : Pairs (upd H l (.lst ys)) us cs := All2.mono (fun _ _ k => k.app g) h
end
section
variable {K : PySem.W.Frag} {σ : L2.St} {H : Hp} {ta : TA} {C fI : Addr} {f : Str} {b : Bk}
end
end HH
set_option maxHeartbeats 4000000
namespace HH
open PySem PySem.Spec PyProof.Rows L2 Evl RZ
def bl (n i : Nat) : List V := ((List.range n).map fun j => decide (j = i)).map V.bl
section
variable {K : PySem.W.Frag} {σ : L2.St} {H : Hp} {te ta tb : TE} {D : Ends} {tz : TS}
end
end HH
set_option maxHeartbeats 4000000
namespace HH
open PySem PySem.Spec PyProof.Rows L2 Evl RZ TL NumText
def Tall (b : Int × Int) : Prop := -1000000000000 ≤ b.1 ∧ b.1 ≤ 1000000000000 ∧ 0 ≤ b.2 ∧ b.2 ≤ 1000000000000
def FewL (rs : HH.Row) : Prop := ∀ b ∈ rs, b.1.natAbs < smallN ∧ b.2.natAbs < smallN
theorem tall_small {rs : HH.Row} (h : ∀ b ∈ rs, Tall b) : FewL rs := fun b hb => by
  obtain ⟨h1, h2, h3, h4⟩ := h b hb
  have : (10 : Nat) ^ 13 ≤ smallN := Nat.pow_le_pow_right (by decide) (by decide)
  have e : (10 : Nat) ^ 13 = 10000000000000 := by decide
  omega
section
variable {K : PySem.W.Frag} {σ : L2.St} {H : Hp} {p : Addr} {ta tb te te2 : TE} {tr : TA}
end
end HH
set_option maxHeartbeats 4000000
namespace HH
open PySem PySem.Spec PyProof.Rows L2 Evl RZ TL NumText
section
variable {K : PySem.W.Frag} {σ : L2.St} {H : Hp} {p : Addr} {ta tb te te2 : TE} {tr : TA}
end
theorem log_most {n : Nat} (h : n < smallN) : n.log2 < 1920 := by
  have h4 : n < 2 ^ 1000 := Nat.lt_of_lt_of_le h (by unfold smallN; decide +kernel)
  exact Nat.lt_trans (PySem.Flt.log2_lt_of (by decide) h4) (by decide)
theorem sp_numTextL {H : Hp} {n : Int} (hn : n.natAbs < smallN) : SpV spNumTextL [.int n] H (.str (mkS (numT n))) := fun H1 e Q q E => ⟨n, rfl, hn, fun H' e' => q H' e'⟩
def spSpeltS (K : PySem.W.Frag) : Sp := fun vs H Q _ => ∃ (v : V) (rs : HH.Row), vs = [v] ∧ RowAt K H v rs ∧ rs.length ≤ 1000 ∧ FewL rs ∧ (∀ b ∈ rs, 0 ≤ b.2) ∧ (rowT rs).length ≤ 50000 ∧ ∀ H', Ex H H' → Q (.str (mkS (rowT rs))) H'
end HH
set_option maxHeartbeats 4000000
namespace HH
open PySem PySem.Spec PyProof.Rows L2 Evl RZ TL NumText
def Plain (r : HH.Row) : Prop := r ≠ [] ∧ r.length ≤ 24 ∧ FewL r ∧ ∀ b ∈ r, 0 ≤ b.2
theorem row_fine {r : HH.Row} (h : Plain r) : ∀ p ∈ wordsS (rowT r), isBeast p = true := by
  rw [words_row h.1]
  intro p hp
  obtain ⟨b, hb, rfl⟩ := List.mem_map.mp hp
  exact isBeast_beast (h.2.2.2 b hb)
theorem tall_plain {r : HH.Row} (h0 : 0 < r.length) (hl : r.length ≤ 24) (h : ∀ b ∈ r, Tall b) : Plain r := ⟨fun e => by rw [e] at h0; exact absurd h0 (by decide), hl, tall_small h, fun b hb => (h b hb).2.2.1⟩
section
variable {K : PySem.W.Frag} {σ : L2.St} {H : Hp} {te : TE} {E : XK} {C : Addr} {r : HH.Row}
end
theorem alike_2s {K : PySem.W.Frag} {H : Hp} {d : Nat} {a b : Addr} {x1 x2 y1 y2 : V} (h : SqL K H a [x1, x2]) (g : SqL K H b [y1, y2]) (h1 : Alike K H d x1 y1) (h2 : Alike K H d x2 y2) : Alike K H (d + 1) (.ref a) (.ref b) := .inr ⟨a, b, _, _, rfl, rfl, .inl ⟨h, g⟩, rfl, by show 2 ≤ 40000; decide, fun i u w hu hw => by
  match i, hu, hw with
  | 0, hu, hw => cases hu; cases hw; exact h1
  | 1, hu, hw => cases hu; cases hw; exact h2
  | i + 2, hu, hw => cases hu⟩
end HH
set_option maxHeartbeats 4000000
namespace HH
open PySem PySem.Spec PyProof.Rows L2 Evl RZ TL NumText
def tRevS (te : TE) : TE := fun σ H Q => te σ H fun x H1 => ∃ z, x = .str z ∧ z.length ≤ sizeLine ∧ ∀ y : Str, y.length ≤ z.length → Q (.str y) H1
theorem pe_revS {X : Cx} {e : Expr} {te : TE} {k : Nat} {p1 p2 p3 pos : Pos} (he : PE X e te) : PE X (.Subscript e (.Slice none none (some (.UnaryOp .USub (.Constant (.int 1) k p1) p2)) p3) pos) (tRevS te) := by
  refine ⟨fun pins s σ H Q I h => ?_⟩
  refine Subscript_ (thn (he.run pins s σ H _ I h) fun v s1 ⟨x, H1, I1, r1, q1⟩ => ?_)
  obtain ⟨z, ex, hz, q⟩ := q1
  subst ex
  obtain ⟨t, rfl⟩ := r1
  have hst : PO X (some (.UnaryOp .USub (.Constant (.int 1) k p1) p2)) (tPart (tUn (rU fun i => .int (-i)) (tC (.int 1)))) := po_some (pe_un un_neg pe_int)
  refine wpAny_Slice (thn (po_none.run pins s1 σ H1 (fun o H2 => o = none ∧ H2 = H1) I1 ⟨rfl, rfl⟩) fun vl s2 ⟨l, H2, I2, pl, el, e2⟩ => ?_)
  subst el e2
  refine thn (po_none.run pins s2 σ H2 (fun o H3 => o = none ∧ H3 = H2) I2 ⟨rfl, rfl⟩) fun vu s3 ⟨u, H3, I3, pu, eu, e3⟩ => ?_
  subst eu e3
  refine thn (hst.run pins s3 σ H3 (fun o H4 => o = some (-1) ∧ H4 = H3) I3 ⟨1, rfl, -1, rfl, rfl, rfl⟩) fun vs s4 ⟨o, H4, I4, ps, eo, e4⟩ => ?_
  subst eo e4
  have I5 : Inv X pins σ H4 { s4 with heap := s4.heap.push { cls := .type "slice", data := .fields #[vl, vu, vs] } } := I4.kept (t' := s4.toks) fun b ob q => Heap.get?_push_of_some _ q
  obtain ⟨l1, rfl, m1⟩ := IsPart.raw pl
  obtain ⟨l2, rfl, m2⟩ := IsPart.raw pu
  obtain ⟨l3, rfl, m3⟩ := IsPart.raw ps
  show wpAny (model X.prog X.w) X.A (subscriptTail e (.Slice none none (some (.UnaryOp .USub (.Constant (.int 1) k p1) p2)) p3) (.str z t) (.ref s4.heap.objs.size)) (EP X pins σ Q) X.xe { s4 with heap := s4.heap.push { cls := .type "slice", data := .fields #[partValue l1, partValue l2, partValue l3] } }
  refine tail_any (ops := [.str z t, .ref s4.heap.objs.size]) (typeIs_str _ _ _) (PySem.F.slot_str_getitem.lookup) ?_ (by with_unfolding_all rfl)
  refine wpAny_getItem_str_slice (l := l1) (u := l2) (st := l3) ⟨_, Heap.get?_push_size _ rfl, rfl, rfl⟩ (by rw [m3]; rfl) ?_
  unfold sliceMade
  rw [m3]
  show Made.post (if ((-1 : Int) == 1 && (slicePicked z l1 l2 l3).length == z.length) = true then Made.val (.str z t) else Made.str ⟨((slicePicked z l1 l2 l3).filterMap (z.cps[·]?)).toArray⟩) (EP X pins σ Q) _
  rw [if_neg (by rw [Bool.and_eq_true]; intro h; exact absurd h.1 (by decide))]
  have lp : (slicePicked z l1 l2 l3).length ≤ z.length := by
    unfold slicePicked
    rw [m1, m2, m3]
    show (sliceRange (((z.length : Nat) : Int) - 1) (-1) (-1)).length ≤ z.length
    rw [PySem.W.krv_sliceRange, List.length_map, List.length_range]
    exact Nat.le_refl _
  have lf : (⟨((slicePicked z l1 l2 l3).filterMap (z.cps[·]?)).toArray⟩ : Str).length ≤ z.length := by
    show (((slicePicked z l1 l2 l3).filterMap (z.cps[·]?)).toArray).size ≤ z.length
    rw [List.size_toArray]
    exact Nat.le_trans (List.length_filterMap_le _ _) lp
  exact ⟨Nat.le_trans lf hz, .str _, H4, I5.tok _, ⟨_, rfl⟩, q _ lf⟩
def spOfA (K : PySem.W.Frag) : Sp := fun vs H Q X => spOf K vs H Q X ∨ ∃ (p : Addr) (l : List Nat) (n : Nat), vs = [.ref p, .str (mkS l)] ∧ 0 < l.length ∧ l.length ≤ 1000 ∧ Bx H p n ∧ n < Lim ∧ ∀ (c : Nat) H', c ∈ l → ExB p H H' → Bx H' p (n + 1) → Q (.str (mkS [c])) H'
def EvS (te : TE) (σ : L2.St) (H : Hp) (k : Nat) : Prop := ∀ H1, Ex H H1 → ∀ Q : VK, (∀ (m : List Nat) (H2 : Hp), m.length ≤ k → Ex H1 H2 → Q (.str (mkS m)) H2) → te σ H1 Q
theorem str_mk (z : Str) : z = mkS (tl z) := (mkS_tl z).symm
section
variable {K : PySem.W.Frag} {σ : L2.St} {H : Hp} {ta tb te to : TE} {l : List Nat} {k m : Nat}
theorem es_ev (h : Ev te σ H (.str (mkS l))) (hl : l.length ≤ k) : EvS te σ H k := fun H1 e Q q => h H1 e _ fun H2 e2 => q l H2 hl e2
theorem es_sl {tl' th : TO} {lo hi : Option Int} (h : Ev te σ H (.str (mkS l))) (h1 : EvO tl' σ H lo) (h2 : EvO th σ H hi) (hl : l.length ≤ 100000) : EvS (tSl rSlS te tl' th) σ H l.length := fun H1 e Q q =>
  ev_slS h h1 h2 hl (str_mk _) H1 e _ fun H2 e2 => q _ H2 (by
    rw [← len_tl]
    exact Nat.le_trans (cutS_length _ _ _) (by rw [len_mkS]; exact Nat.le_refl _)) e2
theorem es_cat (h1 : EvS ta σ H k) (h2 : EvS tb σ H m) (hl : k + m ≤ 100000) : EvS (tOp (fun x y H Q => ∃ i j, x = .str i ∧ y = .str j ∧ i.length + j.length ≤ sizeLine ∧ Q (.str (i ++ j)) H) ta tb) σ H (k + m) := fun H1 e Q q =>
  h1 H1 e _ fun a H2 ha e2 => h2 H2 (e.trans e2) _ fun b H3 hb e3 => ⟨_, _, rfl, rfl, by rw [len_mkS, len_mkS]; exact sz_of (by omega), by
    rw [mkS_app]
    exact q _ H3 (by rw [List.length_append]; omega) (e2.trans e3)⟩
theorem es_rev (h : EvS te σ H k) (hk : k ≤ 100000) : EvS (tRevS te) σ H k := fun H1 e Q q => h H1 e _ fun a H2 ha e2 => ⟨_, rfl, by rw [len_mkS]; exact sz_of (by omega), fun y hy => by
    rw [str_mk y]
    refine q _ H2 ?_ e2
    rw [← len_tl]
    rw [len_mkS] at hy
    omega⟩
theorem es_join {W : Nat} (h2 : ∀ H1, Ex H H1 → ∀ Q : VK, (∀ p (ls : List (List Nat)) H2, Ex H1 H2 → H2 p = some (.lst (strsV ls)) → (ls.map List.length).sum + ls.length ≤ W → Q (.ref p) H2) → te σ H1 Q) (hW : W ≤ 100000) :
    EvS (tM1 (fun x xs H Q => ∃ a p, ∃ ys : List Str, x = .str a ∧ xs = [.ref p] ∧ (SqL K H p (ys.map V.str) ∨ SqT K H p (ys.map V.str)) ∧ (ys.map (·.length)).sum + ys.length * a.length ≤ 16777216 ∧ Q (.str (Txt.join a ys)) H) (tC (.str " ")) te) σ H W := fun H1 e Q q =>
  ⟨⟨_, rfl⟩, h2 H1 e _ fun p ls H3 e3 g3 hw => ⟨mkS [32], p, ls.map mkS, rfl, rfl, .inl (by rw [strs_map]; exact sq_of g3), by
    have e1 : ((ls.map mkS).map fun (x : Str) => x.length) = ls.map List.length := by
      rw [List.map_map]
      exact List.map_congr_left fun x _ => len_mkS x
    rw [e1, List.length_map, len_mkS]
    have : ls.length * ([32] : List Nat).length = ls.length := Nat.mul_one _
    omega, by
    rw [join_mk]
    refine q _ H3 ?_ e3
    have := joinL_len [32] ls
    have e2 : ls.length * ([32] : List Nat).length = ls.length := Nat.mul_one _
    omega⟩⟩
end
theorem strip_fig (l : List Nat) : decide (Txt.stripChars (mkS l) figsZ = mkS []) = l.all fun c => decide (48 ≤ c ∧ c ≤ 57) := by
  have hg : ∀ c, figsZ.cps.contains c = decide (48 ≤ c ∧ c ≤ 57) := fun c => by
    rw [← sign_fig, Bool.eq_iff_iff, decide_eq_true_iff]
    simp
  unfold Txt.stripChars
  rw [PyProof.Rows.stripBy_eq]
  obtain ⟨lo1, lo2, lo3⟩ := lo_facts figsZ.cps.contains (mkS l)
  obtain ⟨hi1, hi2, hi3, hi4⟩ := hi_facts figsZ.cps.contains (mkS l) _ lo1
  generalize stripLo figsZ.cps.contains true (mkS l) = lo at *
  generalize stripHi figsZ.cps.contains true (mkS l) lo = hi at *
  rw [len_mkS] at lo1 lo3 hi2 hi3
  have gd : ∀ k, (mkS l).cps.getD k 0 = l.getD k 0 := fun k => by rw [← getD_list]; rfl
  have lenS : tl (Builtin.Str.strSub (mkS l) lo hi) = (l.drop lo).take (hi - lo) := tl_strSub _ _ _
  have eE : (Builtin.Str.strSub (mkS l) lo hi = mkS []) ↔ hi = lo := by
    constructor
    · intro h
      have := congrArg List.length (congrArg tl h)
      rw [lenS, List.length_take, List.length_drop] at this
      have e0 : (tl (mkS [])).length = 0 := rfl
      omega
    · intro h
      refine ext_tl ?_
      rw [lenS, h, Nat.sub_self, List.take_zero]
      rfl
  rw [Bool.eq_iff_iff, decide_eq_true_iff, List.all_eq_true, eE]
  constructor
  · intro h c hc
    obtain ⟨k, hk⟩ := List.getElem?_of_mem hc
    have kl := (List.getElem?_eq_some_iff.mp hk).1
    have ek : l.getD k 0 = c := by simp [List.getD, hk]
    have : figsZ.cps.contains ((mkS l).cps.getD k 0) = true := by
      rcases Nat.lt_or_ge k lo with z | z
      · exact lo2 k z
      · exact hi3 k (by omega) kl
    rw [gd, ek, hg] at this
    exact this
  · intro h
    rcases lo3 with z | z
    · omega
    · rcases Nat.lt_or_ge lo l.length with y | y
      · exfalso
        rw [gd, hg] at z
        have hm : l.getD lo 0 ∈ l := by
          have : l.getD lo 0 = l[lo] := by simp [List.getD, y]
          rw [this]
          exact List.getElem_mem y
        rw [h _ hm] at z
        cases z
      · omega
end HH
set_option maxHeartbeats 4000000
namespace HH
open PySem PySem.Spec PyProof.Rows L2 Evl RZ TL NumText
theorem spl_par : ∀ (l acc : List Nat), spl [58] 0 acc l = match par [58] acc l with | some (a, b) => a :: spl [58] 0 [] b | none => [acc ++ l]
  | [], acc => by rw [spl_nil, List.append_nil]; rfl
  | c :: r, acc => by
    cases h : pre [58] (c :: r) with
    | true =>
      rw [spl_hit h, par_hit h]
      rfl
    | false =>
      rw [spl_miss h, par_miss h, spl_par r (acc ++ [c])]
      cases par [58] (acc ++ [c]) r with
      | none => show [acc ++ [c] ++ r] = [acc ++ c :: r]; rw [List.append_assoc]; rfl
      | some p => rfl
theorem spl_one {b : List Nat} : ∀ {acc : List Nat}, 58 ∉ b → spl [58] 0 acc b = [acc ++ b] := fun h => spl_last1 h
theorem spl_two : ∀ (b acc : List Nat), 58 ∈ b → 2 ≤ (spl [58] 0 acc b).length
  | [], _, h => nomatch h
  | c :: r, acc, h => by
    cases hp : pre [58] (c :: r) with
    | true =>
      rw [spl_hit hp, List.length_cons]
      have : (spl [58] ([58].length - 1) [] r) ≠ [] := by
        cases r with
        | nil => rw [spl_nil]; simp
        | cons d s =>
          show spl [58] 0 [] (d :: s) ≠ []
          rw [spl_par]
          cases par [58] [] (d :: s) with
          | none => simp
          | some p => simp
      have := List.length_pos_iff.mpr this
      omega
    | false =>
      rw [spl_miss hp]
      refine spl_two r _ ?_
      rcases List.mem_cons.mp h with z | z
      · subst z
        exact absurd hp (by simp [pre])
      · exact z
def colonsS (l : List Nat) : List (List Nat) := spl [58] 0 [] l
def beastLaw (l : List Nat) : Bool := match colonsS l with
  | [a, b] => isFig b && (isFig a || (decide (a.head? = some 45) && (!decide (a = [45, 48]) && isFig (a.drop 1))))
  | _ => false
theorem fig_no58 {l : List Nat} (h : isFig l = true) : 58 ∉ l := fun hm => by
  have := (isFig_digits h).1 58 hm
  omega
theorem numT_law (a : List Nat) : isNumT a = (isFig a || (decide (a.head? = some 45) && (!decide (a = [45, 48]) && isFig (a.drop 1)))) := by
  unfold isNumT
  cases a with
  | nil => rfl
  | cons c r =>
    by_cases h : c = 45
    · subst h
      have e1 : isFig (45 :: r) = false := by
        cases hf : isFig (45 :: r) with
        | false => rfl
        | true =>
          have := (isFig_digits hf).1.head
          omega
      have e5 : decide ((45 :: r).head? = some 45) = true := decide_eq_true rfl
      rw [e1, Bool.false_or, e5, Bool.true_and]
      show (isFig r && !decide (45 :: r = [45, 48])) = (!decide (45 :: r = [45, 48]) && isFig r)
      rw [Bool.and_comm]
    · have e2 : unS (c :: r) = c :: r := by
        unfold unS
        split
        · rename_i e
          injection e with e
          exact absurd e h
        · rfl
      have e3 : decide ((c :: r).head? = some 45) = false := decide_eq_false fun e => by
        injection e with e
        exact h e
      have e4 : decide (c :: r = [45, 48]) = false := decide_eq_false fun e => by
        injection e with e
        exact h e
      rw [e2, e3, e4, Bool.false_and, Bool.or_false]
      show (isFig (c :: r) && true) = _
      rw [Bool.and_true]
theorem beast_law (l : List Nat) : beastLaw l = isBeast l := by
  unfold beastLaw colonsS isBeast parS
  rw [spl_par]
  cases par [58] [] l with
  | none =>
    show false = (isNumT l && isFig [])
    rw [show isFig [] = false from rfl, Bool.and_false]
  | some p =>
    obtain ⟨a, b⟩ := p
    show (match a :: spl [58] 0 [] b with | [a, b] => _ | _ => false) = (isNumT a && isFig b)
    by_cases hb : 58 ∈ b
    · have h2 := spl_two b [] hb
      have e : isFig b = false := by
        cases hf : isFig b with
        | false => rfl
        | true => exact absurd hb (fig_no58 hf)
      rw [e, Bool.and_false]
      match hs : spl [58] 0 [] b, h2 with
      | [], h2 => exact absurd h2 (by decide)
      | [x], h2 => exact absurd h2 (by show ¬ 2 ≤ 1; decide)
      | x :: y :: z, _ => rfl
    · rw [spl_one hb, List.nil_append]
      show (isFig b && _) = _
      rw [← numT_law, Bool.and_comm]
theorem isFig_front : ∀ {l : List Nat} {c : Nat}, l ≠ [] → isFig (l ++ [c]) = true → isFig l = true ∧ l ≠ [48] := fun {l c} h0 h => by
  obtain ⟨d, n⟩ := isFig_digits h
  unfold isFig at h ⊢
  rw [Bool.and_eq_true, Bool.and_eq_true] at h
  obtain ⟨⟨h1, h2⟩, h3⟩ := h
  have hh : (l ++ [c]).head? = l.head? := by
    cases l with
    | nil => exact absurd rfl h0
    | cons x r => rfl
  have hn : decide (l ++ [c] = [48]) = false := decide_eq_false fun e => by
    have := congrArg List.length e
    rw [List.length_append] at this
    have e1 : ([c] : List Nat).length = 1 := rfl
    have e2 : ([48] : List Nat).length = 1 := rfl
    have := List.length_pos_iff.mpr h0
    omega
  rw [hn, hh, Bool.false_or] at h3
  have h48 : l ≠ [48] := fun e => by
    rw [e] at h3
    exact absurd h3 (by decide)
  refine ⟨?_, h48⟩
  rw [decide_eq_false h0, decide_eq_false h48, h3, List.all_eq_true.mpr fun x hx => decide_eq_true (d x (List.mem_append_left _ hx))]
  rfl
theorem snoc_of {l : List Nat} (h : l ≠ []) : ∃ m c, l = m ++ [c] := ⟨l.dropLast, l.getLast h, (List.dropLast_concat_getLast h).symm⟩
theorem fig_pos : ∀ (k : Nat) {l : List Nat}, l.length ≤ k → isFig l = true → l ≠ [48] → 0 < digitsVal l
  | 0, l, hk, h, _ => by
    have := (isFig_digits h).2
    exact absurd (List.length_eq_zero_iff.mp (by omega)) this
  | k + 1, l, hk, h, h48 => by
    obtain ⟨m, c, rfl⟩ := snoc_of (isFig_digits h).2
    rw [digitsVal_app]
    have hc := (isFig_digits h).1 c (List.mem_append_right _ (List.mem_singleton.mpr rfl))
    have e : digitsVal [c] = c - 48 := by simp [digitsVal]
    cases m with
    | nil =>
      rw [e]
      have : c ≠ 48 := fun z => h48 (by rw [z]; rfl)
      show 0 < digitsVal [] * 10 ^ 1 + (c - 48)
      omega
    | cons x r =>
      obtain ⟨f1, f2⟩ := isFig_front (by simp) h
      rw [List.length_append] at hk
      have e1 : ([c] : List Nat).length = 1 := rfl
      have := fig_pos k (l := x :: r) (by omega) f1 f2
      show 0 < digitsVal (x :: r) * 10 ^ 1 + digitsVal [c]
      omega
theorem fig_back : ∀ (k : Nat) {l : List Nat}, l.length ≤ k → isFig l = true → numL (digitsVal l) = l
  | 0, l, hk, h => by
    have := (isFig_digits h).2
    exact absurd (List.length_eq_zero_iff.mp (by omega)) this
  | k + 1, l, hk, h => by
    obtain ⟨m, c, rfl⟩ := snoc_of (isFig_digits h).2
    have hc := (isFig_digits h).1 c (List.mem_append_right _ (List.mem_singleton.mpr rfl))
    have e : digitsVal [c] = c - 48 := by simp [digitsVal]
    rw [digitsVal_app, e]
    cases m with
    | nil =>
      show numL (digitsVal [] * 10 ^ 1 + (c - 48)) = [c]
      rw [show digitsVal [] = 0 from rfl, Nat.zero_mul, Nat.zero_add, numL_lt (by omega), show 48 + (c - 48) = c by omega]
    | cons x r =>
      obtain ⟨f1, f2⟩ := isFig_front (by simp) h
      rw [List.length_append] at hk
      have e1 : ([c] : List Nat).length = 1 := rfl
      have p := fig_pos k (l := x :: r) (by omega) f1 f2
      have i := fig_back k (l := x :: r) (by omega) f1
      show numL (digitsVal (x :: r) * 10 ^ 1 + (c - 48)) = x :: r ++ [c]
      rw [Nat.pow_one, numL_step (by omega), show (digitsVal (x :: r) * 10 + (c - 48)) / 10 = digitsVal (x :: r) by omega, show (digitsVal (x :: r) * 10 + (c - 48)) % 10 = c - 48 by omega, i, show 48 + (c - 48) = c by omega]
theorem num_back {a : List Nat} (h : isNumT a = true) : numT (numV a) = a := by
  unfold isNumT at h
  obtain ⟨h1, h2⟩ := Bool.and_eq_true_iff.mp h
  have fb := fig_back _ (Nat.le_refl _) h1
  cases a with
  | nil => cases h1
  | cons c r =>
    by_cases hc : c = 45
    · subst hc
      have hr : r ≠ [48] := fun e => by
        rw [e] at h2
        exact absurd h2 (by decide)
      have p := fig_pos _ (Nat.le_refl _) h1 hr
      show numT (-(digitsVal r : Int)) = 45 :: r
      have p : 0 < digitsVal r := p
      unfold numT
      rw [if_pos (by omega), show (-(digitsVal r : Int)).natAbs = digitsVal r by omega]
      show [45] ++ numL (digitsVal r) = 45 :: r
      rw [show numL (digitsVal r) = r from fb]
      rfl
    · have e1 : negS (c :: r) = false := by
        unfold negS
        split
        · rename_i e
          injection e with e
          exact absurd e hc
        · rfl
      have e2 : unS (c :: r) = c :: r := by
        unfold unS
        split
        · rename_i e
          injection e with e
          exact absurd e hc
        · rfl
      rw [e2] at fb
      unfold numV
      rw [e1, e2]
      rw [if_neg (by decide), numT_pos (by omega), Int.natAbs_natCast]
      exact fb
theorem par_whole : ∀ (l acc a b : List Nat), par [58] acc l = some (a, b) → a ++ ([58] ++ b) = acc ++ l
  | [], acc, a, b, h => by cases h
  | c :: r, acc, a, b, h => by
    cases hp : pre [58] (c :: r) with
    | true =>
      rw [par_hit hp] at h
      injection h with h
      injection h with h1 h2
      subst h1; subst h2
      have : c = 58 := by
        have := eq_of_beq hp
        simp at this
        exact this
      subst this
      rfl
    | false =>
      rw [par_miss hp] at h
      rw [par_whole r _ a b h, List.append_assoc]
      rfl
theorem beast_back {w : List Nat} (h : isBeast w = true) : beastT (beastV w) = w := by
  unfold isBeast at h
  obtain ⟨h1, h2⟩ := Bool.and_eq_true_iff.mp h
  unfold beastT beastV
  have n2 : numT (numV (parS w).2) = (parS w).2 := num_back (by
    rw [numT_law, h2]
    rfl)
  show numT (numV (parS w).1) ++ ([58] ++ numT (numV (parS w).2)) = w
  rw [num_back h1, n2]
  unfold parS at h2 ⊢
  cases hp : par [58] [] w with
  | none => rw [hp] at h2; cases h2
  | some p =>
    obtain ⟨a, b⟩ := p
    exact par_whole w [] a b hp
theorem words_join : ∀ (l acc : List Nat), joinL [32] (spl [32] 0 acc l) = acc ++ l
  | [], acc => by rw [spl_nil, List.append_nil]; rfl
  | c :: r, acc => by
    cases hp : pre [32] (c :: r) with
    | true =>
      rw [spl_hit hp]
      have hc : c = 32 := by
        have := eq_of_beq hp
        simp at this
        exact this
      subst hc
      show joinL [32] (acc :: spl [32] 0 [] r) = acc ++ 32 :: r
      have ih := words_join r []
      cases hs : spl [32] 0 [] r with
      | nil =>
        have := spl_ne r []
        exact absurd hs this
      | cons x y =>
        rw [hs] at ih
        show acc ++ ([32] ++ joinL [32] (x :: y)) = _
        rw [ih]
        rfl
    | false =>
      rw [spl_miss hp, words_join r (acc ++ [c]), List.append_assoc]
      rfl
where spl_ne : ∀ (l acc : List Nat), spl [32] 0 acc l ≠ []
  | [], acc => by rw [spl_nil]; simp
  | c :: r, acc => by
    cases hp : pre [32] (c :: r) with
    | true => rw [spl_hit hp]; simp
    | false => rw [spl_miss hp]; exact spl_ne r _
theorem text_back {l : List Nat} (h : ∀ p ∈ wordsS l, isBeast p = true) : rowT ((wordsS l).map beastV) = l := by
  unfold rowT
  rw [List.map_map]
  have : (wordsS l).map (beastT ∘ beastV) = wordsS l := (List.map_congr_left (g := id) fun w hw => beast_back (h w hw)).trans (List.map_id _)
  rw [this]
  exact words_join l []
end HH
set_option maxHeartbeats 4000000
namespace HH
open PySem PySem.Spec PyProof.Rows L2 Evl RZ TL NumText
def badAt (l : List Nat) (k : Nat) : Bool := !isBeast ((wordsS l).getD k [])
def firstBad (l : List Nat) : Option Nat := (List.range (wordsS l).length).find? (badAt l)
def toldT (l : List Nat) : List V := match firstBad l with
  | some i => [.str "bad", .int (i : Int)]
  | none => [.str "row", .str (mkS l), .int ((wordsS l).length : Int)]
theorem bad_some {l w : List Nat} {i : Nat} (h : (wordsS l)[i]? = some w) (hb : isBeast w = false) (hall : ∀ (j : Nat) (x : List Nat), j < i → (wordsS l)[j]? = some x → isBeast x = true) : firstBad l = some i := by
  have hi := (List.getElem?_eq_some_iff.mp h).1
  unfold firstBad
  rw [List.find?_range_eq_some]
  refine ⟨?_, List.mem_range.mpr hi, fun j hj => ?_⟩
  · unfold badAt
    rw [show (wordsS l).getD i [] = w by simp [List.getD, h], hb]
    rfl
  · have hjl : j < (wordsS l).length := by omega
    have := hall j _ hj (List.getElem?_eq_getElem hjl)
    unfold badAt
    rw [show (wordsS l).getD j [] = (wordsS l)[j] by simp [List.getD, hjl], this]
    rfl
theorem bad_none {l : List Nat} (h : ∀ p ∈ wordsS l, isBeast p = true) : firstBad l = none := by
  unfold firstBad
  rw [List.find?_eq_none]
  intro k hk
  have hkl := List.mem_range.mp hk
  unfold badAt
  rw [show (wordsS l).getD k [] = (wordsS l)[k] by simp [List.getD, hkl], h _ (List.getElem_mem hkl)]
  decide
theorem bad_list (l : List Nat) : (given (wordsS l).length (badAt l) (fun k => V.int (k : Int))).head? = (firstBad l).map (fun (k : Nat) => V.int (k : Int)) := by
  unfold given firstBad
  rw [List.head?_map, List.head?_filter]
theorem spl_lenG (S : List Nat) : ∀ (l : List Nat) (k : Nat) (acc : List Nat), ∀ p ∈ spl S k acc l, p.length ≤ acc.length + l.length
  | [], k, acc, p, hp => by
    rw [spl_nil] at hp
    rw [List.mem_singleton.mp hp]
    exact Nat.le_add_right _ _
  | c :: r, k + 1, acc, p, hp => by
    have hp : p ∈ spl S k acc r := hp
    have := spl_lenG S r k acc p hp
    rw [List.length_cons]
    omega
  | c :: r, 0, acc, p, hp => by
    rw [List.length_cons]
    cases h : pre S (c :: r) with
    | true =>
      rw [spl_hit h] at hp
      rcases List.mem_cons.mp hp with z | z
      · rw [z]; omega
      · have := spl_lenG S r _ [] p z
        have e : ([] : List Nat).length = 0 := rfl
        omega
    | false =>
      rw [spl_miss h] at hp
      have := spl_lenG S r 0 (acc ++ [c]) p hp
      rw [List.length_append] at this
      have e : ([c] : List Nat).length = 1 := rfl
      omega
theorem colons_each {l p : List Nat} (h : p ∈ colonsS l) : p.length ≤ l.length := by
  have := spl_lenG [58] l 0 [] p h
  have e : ([] : List Nat).length = 0 := rfl
  omega
def spSpoilt (K : PySem.W.Frag) : Sp := fun vs H Q _ => ∃ (p : Addr) (l : List Nat) (n : Nat), vs = [.ref p, .str (mkS l)] ∧ l.length ≤ 1000 ∧ Bx H p n ∧ n + 10 < Lim ∧ ∀ (m : List Nat) H', m.length ≤ 2 * l.length + 20 → ExB p H H' → Bx H' p (n + 10) → Q (.str (mkS m)) H'
def spTold (K : PySem.W.Frag) : Sp := fun vs H Q _ => ∃ l : List Nat, vs = [.str (mkS l)] ∧ l.length ≤ 950 ∧ ∀ (t : Addr) H', H t = none → Ex H H' → H' t = some (.tup (toldT l)) → Q (.ref t) H'
section
variable {K : PySem.W.Frag} {σ : L2.St} {H : Hp} {ta tb te to : TE} {l : List Nat} {t : TT}
theorem el_colons (h1 : Ev to σ H (.str (mkS l))) (hl : l.length ≤ 50000) : EvL (tM1 (fun x xs H Q => ∃ a b, x = .str a ∧ xs = [.str b] ∧ (b.length == 0) = false ∧ a.length + 2 ≤ sizeLine ∧ rNewStrs (Txt.split a b) H Q) to (tC (.str ":"))) σ H (strsV (colonsS l)) := fun H1 e Q q =>
  h1 H1 e _ fun H2 e2 => ⟨⟨_, rfl⟩, mkS l, mkS [58], rfl, rfl, by decide, by rw [len_mkS]; exact sz_of (by omega), fun p hp => by
    have es : Txt.split (mkS l) (mkS [58]) = (colonsS l).map mkS := by
      refine map_tl_inj ?_
      rw [split_spl _ _ (by decide) (kind_ok (by rw [← Array.all_toList]; decide)), List.map_map]
      show spl [58] 0 [] l = (colonsS l).map (fun x => x)
      rw [List.map_id']
      rfl
    rw [es, strs_map]
    exact q p _ (fresh_back e2 hp) (e2.trans (Ex.new hp)) upd_same⟩
theorem ev_strip (h1 : Ev to σ H (.str (mkS l))) (hl : l.length ≤ 100000) : Ev (tOp rEq (tM1 (fun x xs H Q => ∃ a b, x = .str a ∧ xs = [.str b] ∧ a.length ≤ sizeLine ∧ Q (.str (Txt.stripChars a b)) H) to (tC (.str "0123456789"))) (tC (.str ""))) σ H (.bl (l.all fun c => decide (48 ≤ c ∧ c ≤ 57))) :=
  ev_is (ev_op (x := .str (Txt.stripChars (mkS l) figsZ)) (y := .str (mkS [])) (ev_m1 (y := .str figsZ) h1 (fun _ _ => ev_c) ⟨_, rfl⟩ fun H1 e Q q => ⟨_, _, rfl, rfl, by rw [len_mkS]; exact sz_of hl, q⟩) ev_c (rv_eq rfl)) (by
    rw [← strip_fig]
    congr 1
    exact decide_eq_decide.mpr ⟨fun h => by injection h, fun h => by rw [h]⟩)
theorem ev_ixS {c : Nat} {r : List Nat} (h1 : Ev to σ H (.str (mkS (c :: r)))) (hl : (c :: r).length ≤ 100000) : Ev (tOp rIxS to (tC (.int 0))) σ H (.str (mkS [c])) :=
  ev_op h1 ev_c (rv_ixS (by rw [len_mkS]; exact hl) (atI_nat (j := 0) rfl))
theorem el_enumS {i1 i2 : Nat} {vs : List Nat} {ws : List (List Nat)} {a : Addr} (f : Nat → Bool) (h : Ev te σ H (.ref a)) (ha : H a = some (.lst (strsV ws))) (hl : ws.length ≤ 40000) (hw : ∀ x y, wipe (((wipe σ vs).set i1 (some x)).set i2 (some y)) vs = wipe σ vs) (c1 : ∀ x y : V, (((wipe σ vs).set i1 (some x)).set i2 (some y))[i1]? = some (some x))
    (ht : ∀ (k : Nat) (x : List Nat) H1, Ex H H1 → ws[k]? = some x → EvT t (((wipe σ vs).set i1 (some (.int (k : Int)))).set i2 (some (.str (mkS x)))) H1 (f k)) : EvL (tLc (iEnum K (tCons te tNil)) (gTup K 2 (gCons (gName i1) (gCons (gName i2) gNil))) t (tVar i1) vs) σ H (given ws.length f (fun k => .int (k : Int))) := fun H0 e0 Q q => by
  refine h H0 e0 _ fun H1 e1 => ⟨a, strsV ws, rfl, sq_of ((e0.trans e1) _ _ ha), fun D hD => ?_⟩
  have e01 := e0.trans e1
  have ln : (strsV ws).length = ws.length := List.length_map ..
  refine in_it (walk_enum (xs := strsV ws)) (fun k H2 => Ex H1 H2 ∧ H2 D = some (.lst (given k f (fun k => .int (k : Int))))) ⟨Ex.new hD, upd_same⟩ (fun k H2 _ p => sq_of ((e01.trans p.1) _ _ ha)) (fun k x H2 H3 hk p y => ?_) (fun H2 p => ?_)
  · obtain ⟨T, u, z, rfl, nT, rfl, hu, hz⟩ := y
    cases hu
    obtain ⟨p1, p2⟩ := p
    have hk' : k < ws.length := by omega
    have hz : (strsV ws)[k]? = some z := hz
    unfold strsV at hz
    rw [List.getElem?_map, List.getElem?_eq_getElem hk'] at hz
    cases hz
    have n1 := Ex.new (o := .tup [V.int (k : Nat), .str (mkS ws[k])]) nT
    refine ⟨T, _, rfl, st_of upd_same, rfl, _, _, rfl, _, _, rfl, rfl, hw _ _, ?_⟩
    refine t_ev (ht k _ _ ((e01.trans p1).trans n1) (List.getElem?_eq_getElem hk')) fun H4 e4 => ?_
    cases c : f k with
    | true =>
      refine ⟨_, c1 _ _, _, e4 _ _ (n1 _ _ p2), sz_lt (by have := given_len k f (fun k => V.int (k : Int)); omega), Ex.mut ((p1.trans n1).trans e4) hD, ?_⟩
      rw [upd_same, given_yes c]
    | false =>
      refine ⟨(p1.trans n1).trans e4, ?_⟩
      rw [given_no c]
      exact e4 _ _ (n1 _ _ p2)
  · obtain ⟨p1, p2⟩ := p
    rw [ln] at p2
    exact q D H2 (fresh_back e1 hD) (e1.trans p1) p2
theorem alike_tupV {d : Nat} {a b : Addr} {xs : List V} (h : SqT K H a xs) (g : SqT K H b xs) (hl : xs.length ≤ 40000) (hf : ∀ x ∈ xs, Flat x) : Alike K H (d + 2) (.ref a) (.ref b) :=
  .inr ⟨a, b, _, _, rfl, rfl, .inr ⟨h, g⟩, rfl, hl, fun i u w hu hw => by
    rw [hu] at hw
    cases hw
    exact .inl ⟨rfl, hf u (List.mem_of_getElem? hu)⟩⟩
end
theorem toldT_flat (l : List Nat) : ∀ x ∈ toldT l, Flat x := by
  unfold toldT
  cases firstBad l with
  | none =>
    intro x hx
    simp only [List.mem_cons, List.not_mem_nil, or_false] at hx
    rcases hx with rfl | rfl | rfl <;> exact True.intro
  | some i =>
    intro x hx
    simp only [List.mem_cons, List.not_mem_nil, or_false] at hx
    rcases hx with rfl | rfl <;> exact True.intro
theorem toldT_len (l : List Nat) : (toldT l).length ≤ 3 := by
  unfold toldT
  cases firstBad l with
  | none => exact Nat.le_refl 3
  | some i => exact (by decide : 2 ≤ 3)
theorem atI_natN {α : Type} {xs : List α} {j : Nat} {v : α} (h : xs[j]? = some v) : atI xs (j : Int) = some v := by
  have hj := (List.getElem?_eq_some_iff.mp h).1
  unfold atI
  rw [ixN_nat hj]
  exact h
theorem cut_first (x : List Nat) : cutS (mkS x) none (some 1) = mkS (x.take 1) := by
  unfold cutS
  rw [HT.sIx_none, show (some (1 : Int)) = some ((1 : Nat) : Int) from rfl, HT.sIx_nat, len_mkS]
  show mkS ((x.drop 0).take (min 1 x.length - 0)) = _
  rw [List.drop_zero, Nat.sub_zero]
  congr 1
  cases x with
  | nil => rfl
  | cons c r => rw [List.length_cons, show min 1 (r.length + 1) = 1 by omega]
theorem cut_rest (x : List Nat) : cutS (mkS x) (some 1) none = mkS (x.drop 1) := by
  unfold cutS
  rw [HT.sIx_none, show (some (1 : Int)) = some ((1 : Nat) : Int) from rfl, HT.sIx_nat, len_mkS]
  show mkS ((x.drop (min 1 x.length)).take (x.length - min 1 x.length)) = _
  congr 1
  cases x with
  | nil => rfl
  | cons c r =>
    rw [List.length_cons, show min 1 (r.length + 1) = 1 by omega]
    exact List.take_of_length_le (by rw [List.length_drop, List.length_cons]; omega)
theorem numV_small {a : List Nat} (h : isNumT a = true) (hl : a.length ≤ 1000) : (numV a).natAbs < mostN := by
  unfold isNumT at h
  have hd := (isFig_digits (Bool.and_eq_true_iff.mp h).1).1
  have h1 := digitsVal_lt hd
  have h2 : (10 : Nat) ^ (unS a).length ≤ 10 ^ 1000 := Nat.pow_le_pow_right (by decide) (Nat.le_trans (unS_len a) hl)
  have h3 : digitsVal (unS a) < mostN := Nat.lt_of_lt_of_le h1 h2
  unfold numV
  split
  · rw [Int.natAbs_neg, Int.natAbs_natCast]; exact h3
  · rw [Int.natAbs_natCast]; exact h3
theorem read_few {l : List Nat} (hl : l.length ≤ 1000) (h : ∀ p ∈ wordsS l, isBeast p = true) : FewB ((wordsS l).map beastV) := fun b hb => by
  obtain ⟨w, hw, rfl⟩ := List.mem_map.mp hb
  have hB := h w hw
  unfold isBeast at hB
  obtain ⟨h1, h2⟩ := Bool.and_eq_true_iff.mp hB
  have pl := parS_len w
  have wl := words_each hw
  exact ⟨numV_small h1 (by omega), numV_small (by rw [numT_law, h2]; rfl) (by omega)⟩
end HH
set_option maxHeartbeats 4000000
namespace K54
open PySem PySem.Spec PyProof.Rows L2 Evl HH RZ
def topS (i : Nat) : Stmt := PySem.Challenge.pw_hayherd_k54_texts_spoilt.main.body.getD i (.Pass ⟨0, 0, 0, 0⟩)
abbrev s_number_text : Stmt := topS 8
theorem sc_number_text : FnScope ["number", "left", "parts", "part", "sign"] ["number"] (defScope s_number_text) := ⟨rfl, rfl, rfl, by decide +kernel, rfl, by decide +kernel, by decide +kernel⟩
abbrev s_number_in : Stmt := topS 9
theorem sc_number_in : FnScope ["word", "figures", "cut", "number", "at"] ["word"] (defScope s_number_in) := ⟨rfl, rfl, rfl, by decide +kernel, rfl, by decide +kernel, by decide +kernel⟩
abbrev s_is_figures : Stmt := topS 10
theorem sc_is_figures : FnScope ["word", "sign"] ["word"] (defScope s_is_figures) := ⟨rfl, rfl, rfl, by decide +kernel, rfl, by decide +kernel, by decide +kernel⟩
abbrev s_is_number_text : Stmt := topS 11
theorem sc_is_number_text : FnScope ["word"] ["word"] (defScope s_is_number_text) := ⟨rfl, rfl, rfl, by decide +kernel, rfl, by decide +kernel, by decide +kernel⟩
abbrev s_is_beast_text : Stmt := topS 12
theorem sc_is_beast_text : FnScope ["word", "strength", "colon", "toll"] ["word"] (defScope s_is_beast_text) := ⟨rfl, rfl, rfl, by decide +kernel, rfl, by decide +kernel, by decide +kernel⟩
abbrev s_row_text : Stmt := topS 13
theorem sc_row_text : FnScope ["row", "strength", "toll"] ["row"] (defScope s_row_text) := ⟨rfl, rfl, rfl, by decide +kernel, rfl, by decide +kernel, by decide +kernel⟩
abbrev s_beast_in : Stmt := topS 14
theorem sc_beast_in : FnScope ["word", "strength", "colon", "toll"] ["word"] (defScope s_beast_in) := ⟨rfl, rfl, rfl, by decide +kernel, rfl, by decide +kernel, by decide +kernel⟩
abbrev s_row_in : Stmt := topS 15
theorem sc_row_in : FnScope ["text", "words", "at", "word"] ["text"] (defScope s_row_in) := ⟨rfl, rfl, rfl, by decide +kernel, rfl, by decide +kernel, by decide +kernel⟩
abbrev s_law_dip : Stmt := topS 17
theorem sc_law_dip : FnScope ["_law_script", "_law_k", "_law_cell"] ["_law_script", "_law_k"] (defScope s_law_dip) := ⟨rfl, rfl, rfl, by decide +kernel, rfl, by decide +kernel, by decide +kernel⟩
abbrev s_law_take : Stmt := topS 18
theorem sc_law_take : FnScope ["_law_box", "_law_many", "_law_found", "_law_once", "_law_pair"] ["_law_box", "_law_many"] (defScope s_law_take) := ⟨rfl, rfl, rfl, by decide +kernel, rfl, by decide +kernel, by decide +kernel⟩
abbrev s_law_folded : Stmt := topS 19
theorem sc_law_folded : FnScope ["_law_script", "_law_many", "_law_cells", "_law_k", "_law_cell"] ["_law_script", "_law_many"] (defScope s_law_folded) := ⟨rfl, rfl, rfl, by decide +kernel, rfl, by decide +kernel, by decide +kernel⟩
abbrev s_law_same : Stmt := topS 20
theorem sc_law_same : FnScope ["_law_found", "_law_due", "_law_one", "_law_two"] ["_law_found", "_law_due"] (defScope s_law_same) := ⟨rfl, rfl, rfl, by decide +kernel, rfl, by decide +kernel, by decide +kernel⟩
abbrev s_law_of : Stmt := topS 21
theorem sc_law_of : FnScope ["_law_box", "_law_pool"] ["_law_box", "_law_pool"] (defScope s_law_of) := ⟨rfl, rfl, rfl, by decide +kernel, rfl, by decide +kernel, by decide +kernel⟩
abbrev s_law_row : Stmt := topS 22
theorem sc_law_row : FnScope ["_law_box", "_law_most", "_law_many", "_law_way", "_law_rise", "_law_high", "_law_dear", "_law_base", "_law_toll", "_law_found", "_law_place"] ["_law_box", "_law_most"] (defScope s_law_row) := ⟨rfl, rfl, rfl, by decide +kernel, rfl, by decide +kernel, by decide +kernel⟩
abbrev s_law_number_text : Stmt := topS 23
theorem sc_law_number_text : FnScope ["_law_number"] ["_law_number"] (defScope s_law_number_text) := ⟨rfl, rfl, rfl, by decide +kernel, rfl, by decide +kernel, by decide +kernel⟩
abbrev s_law_spelt : Stmt := topS 24
theorem sc_law_spelt : FnScope ["_law_row_here", "_law_strength", "_law_toll"] ["_law_row_here"] (defScope s_law_spelt) := ⟨rfl, rfl, rfl, by decide +kernel, rfl, by decide +kernel, by decide +kernel⟩
abbrev s_law_is_plain : Stmt := topS 25
theorem sc_law_is_plain : FnScope ["_law_word"] ["_law_word"] (defScope s_law_is_plain) := ⟨rfl, rfl, rfl, by decide +kernel, rfl, by decide +kernel, by decide +kernel⟩
abbrev s_law_is_beast : Stmt := topS 26
theorem sc_law_is_beast : FnScope ["_law_word", "_law_parts"] ["_law_word"] (defScope s_law_is_beast) := ⟨rfl, rfl, rfl, by decide +kernel, rfl, by decide +kernel, by decide +kernel⟩
abbrev s_law_spoilt : Stmt := topS 27
theorem sc_law_spoilt : FnScope ["_law_box", "_law_spelt_here", "_law_way", "_law_at", "_law_sign", "_law_words", "_law_spot", "_law_some", "_law_odd"] ["_law_box", "_law_spelt_here"] (defScope s_law_spoilt) := ⟨rfl, rfl, rfl, by decide +kernel, rfl, by decide +kernel, by decide +kernel⟩
abbrev s_law_told : Stmt := topS 28
theorem sc_law_told : FnScope ["_law_spelt_here", "_law_found", "_law_caught", "error", "_law_fine"] ["_law_spelt_here"] (defScope s_law_told) := ⟨rfl, rfl, rfl, by decide +kernel, rfl, by decide +kernel, by decide +kernel⟩
abbrev s_law_right : Stmt := topS 29
theorem sc_law_right : FnScope ["_law_box", "_law_row_here", "_law_turn", "_law_spelt_here", "_law_words", "_law_bad", "_law_due", "_law_odd", "_law_at", "_law_word"] ["_law_box"] (defScope s_law_right) := ⟨rfl, rfl, rfl, by decide +kernel, rfl, by decide +kernel, by decide +kernel⟩
abbrev s_law : Stmt := topS 30
theorem sc_law : FnScope ["_law_script", "_law_cells", "_law_k"] ["_law_script"] (defScope s_law) := ⟨rfl, rfl, rfl, by decide +kernel, rfl, by decide +kernel, by decide +kernel⟩
abbrev s_ini_BadText : Stmt := (HH.clsB (topS 1)).getD 0 (.Pass ⟨0, 0, 0, 0⟩)
theorem sc_ini_BadText : FnScope ["self", "at"] ["self", "at"] (defScope s_ini_BadText) := ⟨rfl, rfl, rfl, by decide +kernel, rfl, by decide +kernel, by decide +kernel⟩
abbrev s_ini_BadRow : Stmt := (HH.clsB (topS 2)).getD 0 (.Pass ⟨0, 0, 0, 0⟩)
theorem sc_ini_BadRow : FnScope ["self", "number"] ["self", "number"] (defScope s_ini_BadRow) := ⟨rfl, rfl, rfl, by decide +kernel, rfl, by decide +kernel, by decide +kernel⟩
abbrev s_ini_BadDeed : Stmt := (HH.clsB (topS 3)).getD 0 (.Pass ⟨0, 0, 0, 0⟩)
theorem sc_ini_BadDeed : FnScope ["self", "number"] ["self", "number"] (defScope s_ini_BadDeed) := ⟨rfl, rfl, rfl, by decide +kernel, rfl, by decide +kernel, by decide +kernel⟩
end K54
set_option maxHeartbeats 4000000
namespace K54
open PySem PySem.Spec PyProof.Rows L2 Evl HH RZ TL NumText
section
variable {P : Program} {w : World} {K : PySem.W.Frag} {mg : Str → Option Value} {base : Heap}
theorem ok_number_text {f : Addr} {fd : FuncData} (F : FnP K "number_text" s_number_text f fd) (g : mg "number_text" = some (.ref f)) (b : Binds K fd ["number"] []) (g_STEP : ∃ t, mg "STEP" = some (.int 1000000000000000000 t)) (g_STEP_FIGURES : ∃ t, mg "STEP_FIGURES" = some (.int 18 t)) (m_abs : mg "abs" = none) (m_divmod : mg "divmod" = none) (m_str : mg "str" = none) : Has P w K mg base 1 "number_text" ["number"] spNumTextS f fd := by
  refine ⟨F.ok sc_number_text (fun vs H Q E h => ?_) (fun cdv A outer s H vs Q E hr h => ?_), g, F.kp, b⟩
  · obtain ⟨n, rfl, _⟩ := h
    rfl
  · obtain ⟨n, rfl, hn, q⟩ := h
    refine ⟨_, PSs.nox (pss_cons (ps_set (i := 1) sc_number_text.nd rfl (.inl rfl) (pe_callB call_abs (by rfl) m_abs (by decide +kernel) (pa_cons (pv 0) pa_nil)))
      (pss_cons (ps_set (i := 2) sc_number_text.nd rfl (.inl rfl) (pe_lst pa_nil))
      (pss_cons (ps_while PassesOwn.never (pt_cmpR op_ge (pv 1) (pe_gnum (by rfl) g_STEP) (nomark _)) (pss_cons (ps_asg (pe_callB HH.call_divmodW (by rfl) m_divmod (by decide +kernel) (pa_cons (pv 1) (pa_cons (pe_gnum (by rfl) g_STEP) pa_nil))) (pg_tup rfl (pgs_cons (pg_name (i := 1) sc_number_text.nd rfl (Or.inl rfl)) (pgs_cons (pg_name (i := 3) sc_number_text.nd rfl (Or.inl rfl)) pgs_nil))))
      (pss_one (ps_expr (pe_bm PySem.F.plainAttrs_list PySem.F.slot_list_append PySem.F.type_list_append mt_append (pv 2) (pa_cons (pe_m1 PySem.F.slot_str_zfill PySem.F.type_str_zfill mt_zfill (pe_callTy call_str_int (by rfl) m_str (by decide +kernel) (pa_cons (pv 3) pa_nil)) (pe_gnum (by rfl) g_STEP_FIGURES)) pa_nil))))))
      (pss_cons (ps_expr (pe_bm PySem.F.plainAttrs_list PySem.F.slot_list_append PySem.F.type_list_append mt_append (pv 2) (pa_cons (pe_callTy call_str_int (by rfl) m_str (by decide +kernel) (pa_cons (pv 1) pa_nil)) pa_nil)))
      (pss_cons (ps_set (i := 4) sc_number_text.nd rfl (.inl rfl) (pe_ifExp (pt_cmpR op_lt (pv 0) pe_int (nomark _)) pe_str pe_str))
      (pss_one (ps_ret (pe_op op_add_str (pv 4) (pe_m1 PySem.F.slot_str_join PySem.F.type_str_join mt_join pe_str (pe_revL (pv 2))))))))))), ?_⟩
    refine q_asg (v := .int (n.natAbs : Int)) (ev_cb (ea_cons (ev_var rfl) ea_nil) fun H1 e Q q => ⟨n, rfl, by
      rw [show (if n < 0 then -n else n) = (n.natAbs : Int) by split <;> omega]
      exact q H1 (Ex.refl _)⟩) fun H1 e1 => ?_
    refine s_at [some (.int n), some (.int (n.natAbs : Int)), none, none, none] rfl ?_
    refine q_asgL (el_lst ea_nil (by show 0 ≤ 100000; decide)) fun pa H2 hpa e2 ga => ?_
    refine s_at [some (.int n), some (.int (n.natAbs : Int)), some (.ref pa), none, none] rfl ?_
    have hpH : H pa = none := fresh_back e1 hpa
    have e02 := e1.trans e2
    have len0 : (numL n.natAbs).length ≤ 1000 := numL_len (by decide) hn
    refine q_while (fun m σ' H' => ∃ (left : Nat) (ps : List (List Nat)) (y3 : Option V), σ' = [some (.int n), some (.int (left : Int)), some (.ref pa), y3, none] ∧ m = left ∧ Ex H H' ∧ H' pa = some (.lst (strsV ps)) ∧ (∀ p ∈ ps, p.length = 18) ∧ numL n.natAbs = numL left ++ ps.reverse.flatten) n.natAbs ⟨n.natAbs, [], none, rfl, rfl, e02, ga, (fun p hp => nomatch hp), by rw [List.reverse_nil, List.flatten_nil, List.append_nil]⟩ fun m σ' H' hW => ?_
    obtain ⟨left, ps, y3, rfl, hm, x, gp, h18, hnum⟩ := hW
    rw [hm]
    have fl : ps.length ≤ 1000 := by
      have h1 : (numL n.natAbs).length = (numL left).length + 18 * ps.length := by
        rw [hnum, List.length_append, flat18 (fun p hp => h18 p (List.mem_reverse.mp hp)), List.length_reverse]
      omega
    refine ⟨decide ((1000000000000000000 : Int) ≤ (left : Int)), et_test (ev_op (ev_var rfl) ev_c rv_I0), fun hd H3 e3 => ?_, fun hd H3 e3 => ?_⟩
    · have hd := of_decide_eq_true hd
      have hq : 0 < left / 10 ^ 18 := Nat.div_pos (by omega) (by decide)
      refine ⟨_, fun σ2 H2 h => h, ?_⟩
      refine ⟨.int (left : Int), rfl, (left : Int), 1000000000000000000, rfl, wide_div (b := 64) (by decide) (by decide) (by decide) (by decide), fun tq htq => ?_⟩
      have n5 := Ex.new (o := .tup [V.int ((left : Int) / 1000000000000000000), .int ((left : Int) % 1000000000000000000)]) htq
      have gt5 : (upd H3 tq (.tup [V.int ((left : Int) / 1000000000000000000), .int ((left : Int) % 1000000000000000000)])) tq = some (.tup [V.int ((left : Int) / 1000000000000000000), .int ((left : Int) % 1000000000000000000)]) := upd_same
      have gp5 := (e3.trans n5) _ _ gp
      have x5 := x.trans (e3.trans n5)
      generalize upd H3 tq (.tup [V.int ((left : Int) / 1000000000000000000), .int ((left : Int) % 1000000000000000000)]) = H5 at n5 gt5 gp5 x5 ⊢
      refine ⟨tq, _, rfl, st_of gt5, rfl, _, _, rfl, _, _, rfl, rfl, ?_⟩
      dsimp only
      rw [show (left : Int) / 1000000000000000000 = ((left / 10 ^ 18 : Nat) : Int) by omega, show (left : Int) % 1000000000000000000 = ((left % 10 ^ 18 : Nat) : Int) by omega]
      refine s_at [some (.int n), some (.int ((left / 10 ^ 18 : Nat) : Int)), some (.ref pa), some (.int ((left % 10 ^ 18 : Nat) : Int)), none] rfl ?_
      have hr : left % 10 ^ 18 < 10 ^ 18 := Nat.mod_lt _ (by decide)
      refine s_app gp5 (ev_var rfl) (ev_zfillS (ev_strN (ev_var rfl) (Nat.lt_trans (PySem.Flt.log2_lt_of (by decide) (Nat.lt_of_lt_of_le hr (by decide : 10 ^ 18 ≤ 2 ^ 64))) (by decide))) (fun _ _ => ev_c) hr) (by show (strsV ps).length < 100000; unfold strsV; rw [List.length_map]; omega) fun H6 e6 => ?_
      have gp6 := e6 _ _ gp5
      refine ⟨left / 10 ^ 18, by omega, left / 10 ^ 18, ps ++ [digK 18 (left % 10 ^ 18)], _, rfl, rfl, (x5.trans e6).mut hpH, ?_, fun p hp => ?_, ?_⟩
      · rw [upd_same]
        unfold strsV
        rw [List.map_append]
        rfl
      · rcases List.mem_append.mp hp with z | z
        · exact h18 p z
        · rw [List.mem_singleton.mp z]
          exact digK_len _ _
      · have := numL_cat 18 hq hr
        rw [Nat.mul_comm, Nat.div_add_mod] at this
        rw [hnum, this, List.reverse_append, List.append_assoc]
        rfl
    · have hd := of_decide_eq_false hd
      have lln : left.log2 < 1920 := Nat.lt_trans (PySem.Flt.log2_lt_of (by decide) (show left < 2 ^ 64 by omega)) (by decide)
      refine q_app (e3 _ _ gp) (ev_var rfl) (ev_strN (ev_var rfl) lln) (by show (strsV ps).length < 100000; unfold strsV; rw [List.length_map]; omega) fun H4 e4 => ?_
      have x4 : Ex H (upd H4 pa (.lst (strsV ps ++ [V.str (mkS (numL left))]))) := (x.trans (e3.trans e4)).mut hpH
      have gp4 : (upd H4 pa (.lst (strsV ps ++ [V.str (mkS (numL left))]))) pa = some (.lst (strsV (ps ++ [numL left]))) := by
        rw [upd_same]
        unfold strsV
        rw [List.map_append]
        rfl
      generalize upd H4 pa (.lst (strsV ps ++ [V.str (mkS (numL left))])) = H5 at x4 gp4 ⊢
      refine q_asg (v := .str (mkS (if n < 0 then [45] else []))) (ev_if (b := decide (n < 0)) (et_test (ev_op (ev_var rfl) ev_c rv_I0)) (fun hd => ?_) (fun hd => ?_)) fun H6 e6 => ?_
      · rw [if_pos (of_decide_eq_true hd)]
        exact ev_c (v := .str (mkS [45]))
      · rw [if_neg (of_decide_eq_false hd)]
        exact ev_c (v := .str (mkS []))
      refine s_at [some (.int n), some (.int (left : Int)), some (.ref pa), y3, some (.str (mkS (if n < 0 then [45] else [])))] rfl ?_
      have erev : (strsV (ps ++ [numL left])).reverse = strsV (numL left :: ps.reverse) := by
        unfold strsV
        rw [← List.map_reverse, List.reverse_append]
        rfl
      have fl2 : (numL left :: ps.reverse).flatten = numL n.natAbs := by
        rw [List.flatten_cons, hnum]
      have en : numT n = (if n < 0 then [45] else []) ++ (numL left :: ps.reverse).flatten := by
        rw [fl2]
        rfl
      have eu := el_revV (K := K) (te := tVar 2) (σ := [some (.int n), some (.int (left : Int)), some (.ref pa), y3, some (.str (mkS (if n < 0 then [45] else [])))]) (ev_var rfl) (sq_of (e6 _ _ gp4))
      rw [erev] at eu
      refine s_ret (v := .str (mkS (numT n))) ?_ fun H7 e7 => q H7 (x4.trans (e6.trans e7))
      rw [en]
      refine ev_catS (ev_var rfl) (ev_joinN (K := K) eu (by rw [flat_sumS, fl2]; omega)) (by
        rw [fl2]
        have : (if n < 0 then [45] else ([] : List Nat)).length ≤ 1 := by split <;> decide
        omega)
theorem ok_number_in {f : Addr} {fd : FuncData} (F : FnP K "number_in" s_number_in f fd) (g : mg "number_in" = some (.ref f)) (b : Binds K fd ["word"] []) (g_STEP : ∃ t, mg "STEP" = some (.int 1000000000000000000 t)) (g_STEP_FIGURES : ∃ t, mg "STEP_FIGURES" = some (.int 18 t)) (m_len : mg "len" = none) (m_int : mg "int" = none) (m_range : mg "range" = none) : Has P w K mg base 1 "number_in" ["word"] spNumInS f fd := by
  refine ⟨F.ok sc_number_in (fun vs H Q E h => ?_) (fun cdv A outer s H vs Q E hr h => ?_), g, F.kp, b⟩
  · obtain ⟨l, rfl, _⟩ := h
    rfl
  · obtain ⟨l, rfl, hd, h0, hl, q⟩ := h
    refine ⟨_, PSs.nox (pss_cons (ps_set (i := 1) sc_number_in.nd rfl (.inl rfl) (pe_m1 PySem.F.slot_str_removeprefix PySem.F.type_str_removeprefix mt_removeprefix (pv 0) pe_str))
      (pss_cons (ps_set (i := 2) sc_number_in.nd rfl (.inl rfl) (pe_op op_modN (pe_callB call_len_str (by rfl) m_len PySem.boot_len (pa_cons (pv 1) pa_nil)) (pe_gnum (by rfl) g_STEP_FIGURES)))
      (pss_cons (ps_set (i := 3) sc_number_in.nd rfl (.inl rfl) (pe_callTy call_int_str (by rfl) m_int (by decide +kernel) (pa_cons (pe_op op_add_str pe_str (pe_slice sl_str (pv 1) po_none (po_some (pv 2)))) pa_nil)))
      (pss_cons (ps_for PassesOwn.never rfl (pi_range3 (by rfl) m_range (pa_cons (pv 2) (pa_cons (pe_callB call_len_str (by rfl) m_len PySem.boot_len (pa_cons (pv 1) pa_nil)) (pa_cons (pe_gnum (by rfl) g_STEP_FIGURES) pa_nil)))) (pg_name (i := 4) sc_number_in.nd rfl (Or.inl rfl))
        (pss_one (ps_set (i := 3) sc_number_in.nd rfl (.inl rfl) (pe_op op_add (pe_op op_mul (pv 3) (pe_gnum (by rfl) g_STEP)) (pe_callTy call_int_str (by rfl) m_int (by decide +kernel) (pa_cons (pe_slice sl_str (pv 1) (po_some (pv 4)) (po_some (pe_op op_add (pv 4) (pe_gnum (by rfl) g_STEP_FIGURES)))) pa_nil))))))
      (pss_one (ps_ret (pe_ifExp (pt_val (pe_m1 PySem.F.slot_str_startswith PySem.F.type_str_startswith mt_startswith (pv 0) pe_str)) (pe_un un_neg (pv 3)) (pv 3)))))))), ?_⟩
    have ul := unS_len l
    refine q_asg (ev_remS (ev_var rfl) (by omega)) fun H1 e1 => ?_
    refine s_at [some (.str (mkS l)), some (.str (mkS (unS l))), none, none, none] rfl ?_
    generalize hD : unS l = D at hd h0 ul
    refine q_asg (v := .int ((D.length % 18 : Nat) : Int)) (ev_is (ev_op (ev_lenS (ev_var rfl) (by omega)) ev_c (rv_I (by decide))) (by
      congr 1
      rw [Int.fmod_eq_emod_of_nonneg _ (by decide)]
      omega)) fun H2 e2 => ?_
    refine s_at [some (.str (mkS l)), some (.str (mkS D)), some (.int ((D.length % 18 : Nat) : Int)), none, none] rfl ?_
    have dt : ∀ k, AllDigits (D.take k) := fun k c hc => hd c (List.mem_of_mem_take hc)
    refine q_asg (v := .int ((digitsVal (D.take (D.length % 18)) : Nat) : Int)) (ev_is (ev_intS (l := 48 :: D.take (D.length % 18)) (ev_catS (l := [48]) ev_c (ev_slS (ev_var rfl) eo_none (eo_some (ev_var rfl)) (by omega) (cutS_take (by omega))) (by rw [List.length_take]; show 1 + _ ≤ _; omega)) (fun c hc => by
      rcases List.mem_cons.mp hc with z | z
      · omega
      · exact dt _ c z) (by simp) (by rw [List.length_cons, List.length_take]; omega)) (by rw [HH.digitsVal_zero])) fun H3 e3 => ?_
    refine s_at [some (.str (mkS l)), some (.str (mkS D)), some (.int ((D.length % 18 : Nat) : Int)), some (.int ((digitsVal (D.take (D.length % 18)) : Nat) : Int)), none] rfl ?_
    refine q_for18 (a := D.length % 18) (b := D.length) (m := D.length / 18) (ea_cons (ev_var rfl) (ea_cons (ev_lenS (ev_var rfl) (by omega)) (ea_cons ev_c ea_nil))) (by omega) (by omega) (fun i σ' H' => ∃ y4, σ' = [some (.str (mkS l)), some (.str (mkS D)), some (.int ((D.length % 18 : Nat) : Int)), some (.int ((digitsVal (D.take (D.length % 18 + 18 * i)) : Nat) : Int)), y4] ∧ Ex H H') (fun H4 e4 => ⟨none, rfl, ((e1.trans e2).trans e3).trans e4⟩) (fun i σ' H4 hi hW => ?_) (fun σ' H4 hW => ?_)
    · obtain ⟨y4, rfl, x⟩ := hW
      refine s_at [some (.str (mkS l)), some (.str (mkS D)), some (.int ((D.length % 18 : Nat) : Int)), some (.int ((digitsVal (D.take (D.length % 18 + 18 * i)) : Nat) : Int)), some (.int ((D.length % 18 + 18 * i : Nat) : Int))] rfl ?_
      have hb : D.length % 18 + 18 * i + 18 ≤ D.length := by omega
      refine s_asg (v := .int ((digitsVal (D.take (D.length % 18 + 18 * (i + 1))) : Nat) : Int)) (ev_is (ev_op (ev_op (ev_var rfl) ev_c (rv_I (.inr (by decide)))) (ev_intS (l := (D.drop (D.length % 18 + 18 * i)).take 18) (ev_slS (hi := some ((D.length % 18 + 18 * i + 18 : Nat) : Int)) (ev_var rfl) (eo_some (ev_var rfl)) (eo_some (ev_op (ev_var rfl) ev_c rv_I0)) (by omega) (by
        rw [cutS_mid (by omega) hb, Nat.add_sub_cancel_left])) (fun c hc => hd c (List.mem_of_mem_drop (List.mem_of_mem_take hc))) (by
          intro e
          have := congrArg List.length e
          rw [List.length_take, List.length_drop] at this
          have e0 : ([] : List Nat).length = 0 := rfl
          omega) (by rw [List.length_take]; omega)) rv_I0) (by
        congr 1
        rw [show D.length % 18 + 18 * (i + 1) = D.length % 18 + 18 * i + 18 by omega, digs_18 hb]
        generalize digitsVal (D.take (D.length % 18 + 18 * i)) = u
        generalize digitsVal ((D.drop (D.length % 18 + 18 * i)).take 18) = v
        show (u : Int) * 1000000000000000000 + (v : Int) = ((u * 10 ^ 18 + v : Nat) : Int)
        omega)) fun H5 e5 => ⟨_, rfl, x.trans e5⟩
    · obtain ⟨y4, rfl, x⟩ := hW
      rw [show D.length % 18 + 18 * (D.length / 18) = D.length by omega, List.take_length]
      refine s_ret (v := .int (numV l)) (ev_if (b := negS l) (et_test (ev_startN (ev_var rfl))) (fun hn => ?_) (fun hn => ?_)) fun H5 e5 => q H5 (x.trans e5)
      · refine ev_is (ev_un (ev_var rfl) ru_neg) ?_
        unfold numV
        rw [hn, hD]
        rfl
      · refine ev_is (ev_var rfl) ?_
        unfold numV
        rw [hn, hD]
        rfl
theorem ok_is_figures {f : Addr} {fd : FuncData} (F : FnP K "is_figures" s_is_figures f fd) (g : mg "is_figures" = some (.ref f)) (b : Binds K fd ["word"] []) (g_FIGURES : ∃ t, mg "FIGURES" = some (.str "0123456789" t)) (m_all : mg "all" = none) : Has P w K mg base 1 "is_figures" ["word"] spFigS f fd := by
  refine ⟨F.ok sc_is_figures (fun vs H Q E h => ?_) (fun cdv A outer s H vs Q E hr h => ?_), g, F.kp, b⟩
  · obtain ⟨l, rfl, _⟩ := h
    rfl
  · obtain ⟨l, rfl, hl, q⟩ := h
    refine ⟨_, PSs.nox (pss_cons (ps_if (PW.pt (pw_or (pt_cmpR op_eq (pv 0) pe_str (nomark _)) (pw_or1 (pt_not (pt_val (pe_callB (cr_all rfl) (by rfl) m_all (by decide +kernel) (pa_cons (pe_lc (own := [("sign", 1)]) (g := gName 1) (by rfl) sc_is_figures.nd (pi_str (pv 0)) (blkOk_by (own := [("sign", 1)]) (N := ["word", "sign"]) (sc := defScope s_is_figures) (by decide +kernel)) (fun _ _ _ _ _ => (pg_name (i := 1) sc_is_figures.nd rfl (Or.inl rfl))) (fun _ _ _ _ _ => pts_nil) (fun _ _ _ _ _ => (pe_cmpR op_in_sign (pv 1) (pe_gstr (by rfl) g_FIGURES) (by with_unfolding_all rfl)))) pa_nil))))))) (pss_one (ps_ret pe_bl)) pss_nil)
      (pss_one (ps_ret (pe_or (pe_cmpR op_eq (pv 0) pe_str (nomark _)) (pe_one (pe_not (pe_m1 PySem.F.slot_str_startswith PySem.F.type_str_startswith mt_startswith (pv 0) pe_str))))))), ?_⟩
    have ea : ∀ (H1 : Hp), Ev (tCB (rAll K) (tCons (tLc (iStr (tVar 0)) (gName 1) tYes (tOp (fun x y H Q => ∃ (c : Nat) (z : Str), x = .str ⟨#[c]⟩ ∧ y = .str z ∧ Q (.bl (decide (c ∈ z.cps.toList))) H) (tVar 1) (tC (.str "0123456789"))) [1]) tNil)) [some (.str (mkS l)), none] H1 (.bl (l.all fun c => decide (48 ≤ c ∧ c ≤ 57))) := fun H1 => by
      have h1 := el_signs (σ := [some (.str (mkS l)), none]) (H := H1) (j := 1) (vs := [1]) (ta := tVar 0) (te := tOp (fun x y H Q => ∃ (c : Nat) (z : Str), x = .str ⟨#[c]⟩ ∧ y = .str z ∧ Q (.bl (decide (c ∈ z.cps.toList))) H) (tVar 1) (tC (.str "0123456789"))) (fun c => V.bl (decide (48 ≤ c ∧ c ≤ 57))) (ev_var rfl) hl (fun x => rfl) (fun c hc H2 e2 => by
        rw [← sign_fig]
        exact ev_signIn (ev_var rfl) ev_c)
      rw [show l.map (fun c => V.bl (decide (48 ≤ c ∧ c ≤ 57))) = (l.map fun c => decide (48 ≤ c ∧ c ≤ 57)).map V.bl by rw [List.map_map]; rfl] at h1
      have h2 := ev_allB (K := K) h1
      rw [List.all_map] at h2
      exact h2
    refine q_when (b := decide (l = []) || !(l.all fun c => decide (48 ≤ c ∧ c ≤ 57))) (et_or (et_test (ev_eqS (m := []) (ev_var rfl) ev_c)) fun _ => et_not (et_B (ea _))) (fun hb H1 e1 => ?_) fun hb H1 e1 => ?_
    · refine s_ret (v := .bl (isFig l)) (ev_is ev_c ?_) fun H2 e2 => q H2 (e1.trans e2)
      unfold isFig
      rcases Bool.or_eq_true_iff.mp hb with z | z
      · rw [z]; rfl
      · rw [Bool.not_eq_true'] at z
        rw [z, Bool.and_false, Bool.false_and]
    · refine s_ret (v := .bl (isFig l)) (ev_is (ev_orV (ev_eqS (m := [48]) (ev_var rfl) ev_c) fun _ => ev_notV (ev_start0 (ev_var rfl))) ?_) fun H2 e2 => q H2 (e1.trans e2)
      unfold isFig
      rw [Bool.or_eq_false_iff] at hb
      rw [hb.1]
      have := hb.2
      rw [Bool.not_eq_false'] at this
      rw [this]
      rfl
theorem ok_is_number_text {f f1 : Addr} {fd fd1 : FuncData} (F : FnP K "is_number_text" s_is_number_text f fd) (g : mg "is_number_text" = some (.ref f)) (b : Binds K fd ["word"] []) (h_is_figures : Has P w K mg base 1 "is_figures" ["word"] spFigS f1 fd1) : Has P w K mg base 2 "is_number_text" ["word"] spNumIsS f fd := by
  refine ⟨F.ok sc_is_number_text (fun vs H Q E h => ?_) (fun cdv A outer s H vs Q E hr h => ?_), g, F.kp, b⟩
  · obtain ⟨l, rfl, _⟩ := h
    rfl
  · obtain ⟨l, rfl, hl, q⟩ := h
    refine ⟨_, PSs.nox (pss_one (ps_ret (pe_and (pe_call h_is_figures.G (hr.mono (by decide)) (by rfl) h_is_figures.g h_is_figures.kp h_is_figures.b .nil pass0 (pa_cons (pe_m1 PySem.F.slot_str_removeprefix PySem.F.type_str_removeprefix mt_removeprefix (pv 0) pe_str) pa_nil)) (pe_one (pe_cmpR op_ne (pv 0) pe_str (nomark _)))))), ?_⟩
    have ul := unS_len l
    refine s_ret (v := .bl (isNumT l)) (ev_andV (ev_call (ea_cons (ev_remS (ev_var rfl) (by omega)) ea_nil) (sp_figS (E := E) (by omega))) fun _ => ev_neS (m := [45, 48]) (ev_var rfl) ev_c) fun H2 e2 => q H2 e2
theorem ok_is_beast_text {f f1 f2 : Addr} {fd fd1 fd2 : FuncData} (F : FnP K "is_beast_text" s_is_beast_text f fd) (g : mg "is_beast_text" = some (.ref f)) (b : Binds K fd ["word"] []) (h_is_figures : Has P w K mg base 1 "is_figures" ["word"] spFigS f1 fd1) (h_is_number_text : Has P w K mg base 2 "is_number_text" ["word"] spNumIsS f2 fd2) : Has P w K mg base 3 "is_beast_text" ["word"] spBeastIsS f fd := by
  refine ⟨F.ok sc_is_beast_text (fun vs H Q E h => ?_) (fun cdv A outer s H vs Q E hr h => ?_), g, F.kp, b⟩
  · obtain ⟨l, rfl, _⟩ := h
    rfl
  · obtain ⟨l, rfl, hl, q⟩ := h
    refine ⟨_, PSs.nox (pss_cons (ps_asg (pe_m1 PySem.F.slot_str_partition PySem.F.type_str_partition mt_partition (pv 0) pe_str) (pg_tup rfl (pgs_cons (pg_name (i := 1) sc_is_beast_text.nd rfl (Or.inl rfl)) (pgs_cons (pg_name (i := 2) sc_is_beast_text.nd rfl (Or.inl rfl)) (pgs_cons (pg_name (i := 3) sc_is_beast_text.nd rfl (Or.inl rfl)) pgs_nil)))))
      (pss_one (ps_ret (pe_and (pe_call h_is_number_text.G (hr.mono (by decide)) (by rfl) h_is_number_text.g h_is_number_text.kp h_is_number_text.b .nil pass0 (pa_cons (pv 1) pa_nil)) (pe_one (pe_call h_is_figures.G (hr.mono (by decide)) (by rfl) h_is_figures.g h_is_figures.kp h_is_figures.b .nil pass0 (pa_cons (pv 3) pa_nil))))))), ?_⟩
    obtain ⟨c, hc⟩ := eu_parS (σ := [some (.str (mkS l)), none, none, none]) (H := H) (to := tVar 0) (l := l) (ev_var rfl) (by omega)
    have pl := parS_len l
    refine q_asgTU hc fun T H1 hT e1 gT => ⟨T, _, rfl, st_of gT, rfl, _, _, rfl, _, _, rfl, _, _, rfl, rfl, ?_⟩
    refine s_at [some (.str (mkS l)), some (.str (mkS (parS l).1)), some (.str c), some (.str (mkS (parS l).2))] rfl ?_
    refine s_ret (v := .bl (isBeast l)) (ev_andV (ev_call (ea_cons (ev_var rfl) ea_nil) (sp_numIsS (by omega))) fun _ => ev_call (ea_cons (ev_var rfl) ea_nil) (sp_figS (E := E) (by omega))) fun H2 e2 => q H2 (e1.trans e2)
theorem ok_row_text {f f1 : Addr} {fd fd1 : FuncData} (F : FnP K "row_text" s_row_text f fd) (g : mg "row_text" = some (.ref f)) (b : Binds K fd ["row"] []) (h_number_text : Has P w K mg base 1 "number_text" ["number"] spNumTextS f1 fd1) : Has P w K mg base 2 "row_text" ["row"] (spRowTextS K) f fd := by
  refine ⟨F.ok sc_row_text (fun vs H Q E h => ?_) (fun cdv A outer s H vs Q E hr h => ?_), g, F.kp, b⟩
  · obtain ⟨v, rs, rfl, _⟩ := h
    rfl
  · obtain ⟨v, rs, rfl, hv, hl, few, room, q⟩ := h
    refine ⟨_, PSs.nox (pss_one (ps_ret (pe_m1 PySem.F.slot_str_join PySem.F.type_str_join mt_join pe_str (pe_lc (own := [("strength", 1), ("toll", 2)]) (g := gTup K 2 (gCons (gName 1) (gCons (gName 2) gNil))) (by rfl) sc_row_text.nd (pi_tup (pv 0)) (blkOk_by (own := [("strength", 1), ("toll", 2)]) (N := ["row", "strength", "toll"]) (sc := defScope s_row_text) (by decide +kernel)) (fun _ _ _ _ _ => (pg_tup rfl (pgs_cons (pg_name (i := 1) sc_row_text.nd rfl (Or.inl rfl)) (pgs_cons (pg_name (i := 2) sc_row_text.nd rfl (Or.inl rfl)) pgs_nil)))) (fun _ _ _ _ _ => pts_nil) (fun _ _ _ _ _ => (pe_op op_add_str (pe_op op_add_str (pe_call h_number_text.G (hr.mono (by decide)) (by rfl) h_number_text.g h_number_text.kp h_number_text.b .nil pass0 (pa_cons (pv 1) pa_nil)) pe_str) (pe_call h_number_text.G (hr.mono (by decide)) (by rfl) h_number_text.g h_number_text.kp h_number_text.b .nil pass0 (pa_cons (pv 2) pa_nil)))))))), ?_⟩
    have cl := fun (b : Int × Int) (hb : b ∈ rs) => (⟨numT_len (few b hb).1, numT_len (few b hb).2⟩ : (numT b.1).length ≤ 1001 ∧ (numT b.2).length ≤ 1001)
    refine s_ret (v := .str (mkS (rowT rs))) (ev_joinS (K := K) (s := [32]) (ls := rs.map beastT) ev_c (fun H1 e1 => ?_) (by have := join_room room; omega)) fun H2 e2 => q H2 e2
    unfold strsV
    rw [List.map_map]
    refine el_mapRow (K := K) (rs := rs) _ (er_val (ev_var rfl) (hv.ex e1)) (by omega) (fun x y => rfl) fun b H2 e2 hb => ?_
    have := cl b hb
    refine ev_is (ev_catS (ev_catS (ev_call (ea_cons (ev_var rfl) ea_nil) (sp_numTextS (few b hb).1)) (ev_c (v := .str (mkS [58]))) (by show _ + 1 ≤ _; omega)) (ev_call (ea_cons (ev_var rfl) ea_nil) (sp_numTextS (few b hb).2)) (by rw [List.length_append]; show _ + 1 + _ ≤ _; omega)) ?_
    show V.str (mkS (numT b.1 ++ [58] ++ numT b.2)) = V.str (mkS (beastT b))
    unfold beastT
    rw [List.append_assoc]
theorem ok_beast_in {f f1 : Addr} {fd fd1 : FuncData} (F : FnP K "beast_in" s_beast_in f fd) (g : mg "beast_in" = some (.ref f)) (b : Binds K fd ["word"] []) (h_number_in : Has P w K mg base 1 "number_in" ["word"] spNumInS f1 fd1) : Has P w K mg base 2 "beast_in" ["word"] (spBeastInS K) f fd := by
  refine ⟨F.ok sc_beast_in (fun vs H Q E h => ?_) (fun cdv A outer s H vs Q E hr h => ?_), g, F.kp, b⟩
  · obtain ⟨l, rfl, _⟩ := h
    rfl
  · obtain ⟨l, rfl, hb, hl, q⟩ := h
    refine ⟨_, PSs.nox (pss_cons (ps_asg (pe_m1 PySem.F.slot_str_partition PySem.F.type_str_partition mt_partition (pv 0) pe_str) (pg_tup rfl (pgs_cons (pg_name (i := 1) sc_beast_in.nd rfl (Or.inl rfl)) (pgs_cons (pg_name (i := 2) sc_beast_in.nd rfl (Or.inl rfl)) (pgs_cons (pg_name (i := 3) sc_beast_in.nd rfl (Or.inl rfl)) pgs_nil)))))
      (pss_one (ps_ret (pe_tup (pa_cons (pe_call h_number_in.G (hr.mono (by decide)) (by rfl) h_number_in.g h_number_in.kp h_number_in.b .nil pass0 (pa_cons (pv 1) pa_nil)) (pa_cons (pe_call h_number_in.G (hr.mono (by decide)) (by rfl) h_number_in.g h_number_in.kp h_number_in.b .nil pass0 (pa_cons (pv 3) pa_nil)) pa_nil)))))), ?_⟩
    obtain ⟨c, hc⟩ := eu_parS (σ := [some (.str (mkS l)), none, none, none]) (H := H) (to := tVar 0) (l := l) (ev_var rfl) (by omega)
    have pl := parS_len l
    obtain ⟨⟨a1, a2⟩, a3, a4⟩ := beast_parts hb
    refine q_asgTU hc fun T H1 hT e1 gT => ⟨T, _, rfl, st_of gT, rfl, _, _, rfl, _, _, rfl, _, _, rfl, rfl, ?_⟩
    refine s_at [some (.str (mkS l)), some (.str (mkS (parS l).1)), some (.str c), some (.str (mkS (parS l).2))] rfl ?_
    refine s_retU (eu_tup (ea_cons (ev_call (ea_cons (ev_var rfl) ea_nil) (sp_numInS a1 a2 (by omega))) (ea_cons (ev_call (ea_cons (ev_var rfl) ea_nil) (sp_numInS a3 a4 (by omega))) ea_nil)) (by show 2 ≤ 100000; decide)) fun p H2 hp e2 g2 => q p H2 (fresh_back e1 hp) (e1.trans e2) g2
end
end K54
set_option maxHeartbeats 4000000
namespace K54
open PySem PySem.Spec PyProof.Rows L2 Evl HH RZ TL NumText
section
variable {P : Program} {w : World} {K : PySem.W.Frag} {mg : Str → Option Value} {base : Heap}
theorem ok_ini_BadText {C f : Addr} {fd : FuncData} (F : FunD K "__init__" "BadText.__init__" (defArgs s_ini_BadText) (defBody s_ini_BadText) (defScope s_ini_BadText) [] [] f fd) (T : ExcTy K .val "at" C f) (g : mg "BadText" = some (.ref C)) (b : Binds K fd ["self", "at"] []) (m_ValueError : mg "ValueError" = none) : HasE P w K mg base .val "BadText" "at" C f fd := by
  refine ⟨T, F.ok sc_ini_BadText (fun vs H Q E h => ?_) (fun cdv A outer s H vs Q E hr h => ?_), b, g⟩
  · obtain ⟨a, v, rfl, _⟩ := h
    rfl
  · obtain ⟨a, v, rfl, ha, q⟩ := h
    refine ⟨_, PSs.nox (pss_cons (ps_expr (pe_bini (b := .val) (by rfl) m_ValueError T.bi (pa_cons (pv 0) (pa_cons pe_str pa_nil)) (by decide) (by decide) (by decide +kernel))) (pss_one (ps_xs (pv 0) (pv 1)))), ?_⟩
    refine ⟨.ref a, rfl, a, C, _, rfl, by show 1 ≤ 1000; decide, T.ok, ha, ?_⟩
    exact ⟨v, rfl, .ref a, rfl, a, C, f, .val, rfl, T, ha, fun dx n ne => q dx n ne⟩
theorem ok_ini_BadRow {C f : Addr} {fd : FuncData} (F : FunD K "__init__" "BadRow.__init__" (defArgs s_ini_BadRow) (defBody s_ini_BadRow) (defScope s_ini_BadRow) [] [] f fd) (T : ExcTy K .val "number" C f) (g : mg "BadRow" = some (.ref C)) (b : Binds K fd ["self", "number"] []) (m_ValueError : mg "ValueError" = none) : HasE P w K mg base .val "BadRow" "number" C f fd := by
  refine ⟨T, F.ok sc_ini_BadRow (fun vs H Q E h => ?_) (fun cdv A outer s H vs Q E hr h => ?_), b, g⟩
  · obtain ⟨a, v, rfl, _⟩ := h
    rfl
  · obtain ⟨a, v, rfl, ha, q⟩ := h
    refine ⟨_, PSs.nox (pss_cons (ps_expr (pe_bini (b := .val) (by rfl) m_ValueError T.bi (pa_cons (pv 0) (pa_cons pe_str pa_nil)) (by decide) (by decide) (by decide +kernel))) (pss_one (ps_xs (pv 0) (pv 1)))), ?_⟩
    refine ⟨.ref a, rfl, a, C, _, rfl, by show 1 ≤ 1000; decide, T.ok, ha, ?_⟩
    exact ⟨v, rfl, .ref a, rfl, a, C, f, .val, rfl, T, ha, fun dx n ne => q dx n ne⟩
theorem ok_ini_BadDeed {C f : Addr} {fd : FuncData} (F : FunD K "__init__" "BadDeed.__init__" (defArgs s_ini_BadDeed) (defBody s_ini_BadDeed) (defScope s_ini_BadDeed) [] [] f fd) (T : ExcTy K .val "number" C f) (g : mg "BadDeed" = some (.ref C)) (b : Binds K fd ["self", "number"] []) (m_ValueError : mg "ValueError" = none) : HasE P w K mg base .val "BadDeed" "number" C f fd := by
  refine ⟨T, F.ok sc_ini_BadDeed (fun vs H Q E h => ?_) (fun cdv A outer s H vs Q E hr h => ?_), b, g⟩
  · obtain ⟨a, v, rfl, _⟩ := h
    rfl
  · obtain ⟨a, v, rfl, ha, q⟩ := h
    refine ⟨_, PSs.nox (pss_cons (ps_expr (pe_bini (b := .val) (by rfl) m_ValueError T.bi (pa_cons (pv 0) (pa_cons pe_str pa_nil)) (by decide) (by decide) (by decide +kernel))) (pss_one (ps_xs (pv 0) (pv 1)))), ?_⟩
    refine ⟨.ref a, rfl, a, C, _, rfl, by show 1 ≤ 1000; decide, T.ok, ha, ?_⟩
    exact ⟨v, rfl, .ref a, rfl, a, C, f, .val, rfl, T, ha, fun dx n ne => q dx n ne⟩
theorem ok_row_in {f f1 f2 f3 C1 : Addr} {fd fd1 fd2 fd3 : FuncData} (F : FnP K "row_in" s_row_in f fd) (g : mg "row_in" = some (.ref f)) (b : Binds K fd ["text"] []) (x_BadText : HasE P w K mg base .val "BadText" "at" C1 f3 fd3) (h_is_beast_text : Has P w K mg base 3 "is_beast_text" ["word"] spBeastIsS f1 fd1) (h_beast_in : Has P w K mg base 2 "beast_in" ["word"] (spBeastInS K) f2 fd2) (m_enumerate : mg "enumerate" = none) (m_tuple : mg "tuple" = none) : HasX P w K mg base 4 "row_in" ["text"] (spRowInX K C1) f fd := by
  refine ⟨F.ok sc_row_in (fun vs H Q E h => ?_) (fun cdv A outer s H vs Q E hr h => ?_), g, F.kp, b⟩
  · obtain ⟨l, rfl, _⟩ := h
    rfl
  · obtain ⟨l, rfl, hl, q, qx⟩ := h
    refine ⟨_, (pss_cons (ps_set (i := 1) sc_row_in.nd rfl (.inl rfl) (pe_m1 PySem.F.slot_str_split PySem.F.type_str_split mt_split (pv 0) pe_str))
      (pss_cons (ps_for (passes_of rfl) rfl (pi_enum (by rfl) m_enumerate (pa_cons (pv 1) pa_nil)) (pg_tup rfl (pgs_cons (pg_name (i := 2) sc_row_in.nd rfl (Or.inl rfl)) (pgs_cons (pg_name (i := 3) sc_row_in.nd rfl (Or.inl rfl)) pgs_nil)))
        (pss_one (ps_if (pt_not (pt_val (pe_call h_is_beast_text.G (hr.mono (by decide)) (by rfl) h_is_beast_text.g h_is_beast_text.kp h_is_beast_text.b .nil pass0 (pa_cons (pv 3) pa_nil)))) (pss_one (ps_raise rfl (takes_of rfl rfl rfl rfl) (pmk_x x_BadText.T x_BadText.F (hr.mono (by decide)) x_BadText.b x_BadText.g (by rfl) (pa_cons (pv 2) pa_nil)))) pss_nil)))
      (pss_one (ps_ret (pe_tupleOf (by rfl) m_tuple (pe_lc (own := [("word", 3)]) (g := gName 3) (by rfl) sc_row_in.nd (pi_list (pv 1)) (blkOk_by (own := [("word", 3)]) (N := ["text", "words", "at", "word"]) (sc := defScope s_row_in) (by decide +kernel)) (fun _ _ _ _ _ => (pg_name (i := 3) sc_row_in.nd rfl (Or.inl rfl))) (fun _ _ _ _ _ => pts_nil) (fun _ _ _ _ _ => (pe_call h_beast_in.G (hr.mono (by decide)) (by rfl) h_beast_in.g h_beast_in.kp h_beast_in.b .nil pass0 (pa_cons (pv 3) pa_nil))))))))), ?_⟩
    refine q_asgL (el_words (ev_var rfl) (by omega)) fun wq H1 hwq e1 gw => ?_
    refine s_at [some (.str (mkS l)), some (.ref wq), none, none] rfl ?_
    have wl := words_many l
    have we := fun p hp => words_each (l := l) (p := p) hp
    generalize wordsS l = ws at q qx gw wl we ⊢
    refine q_forEv (xs := strsV ws) (c := wq) (ev_var rfl) (sq_of gw) (fun i σ' H' => ∃ y2 y3, σ' = [some (.str (mkS l)), some (.ref wq), y2, y3] ∧ Ex H1 H' ∧ ∀ (j : Nat) (x : List Nat), j < i → ws[j]? = some x → isBeast x = true) (fun H2 e2 => ⟨none, none, rfl, e2, fun j x hj => absurd hj (by omega)⟩) (fun i σ' H' _ hW => sq_of (hW.choose_spec.choose_spec.2.1 _ _ gw)) (fun i x σ' H2 T hx hW hT => ?_) (fun σ' H2 hW => ?_)
    · obtain ⟨y2, y3, rfl, x2, hall⟩ := hW
      have hi : i < ws.length := by
        have := (List.getElem?_eq_some_iff.mp hx).1
        unfold strsV at this
        rw [List.length_map] at this
        exact this
      obtain ⟨u, hu⟩ : ∃ u, ws[i]? = some u := ⟨_, List.getElem?_eq_getElem hi⟩
      have hx : x = V.str (mkS u) := by
        have h2 : (strsV ws)[i]? = some (V.str (mkS u)) := by
          unfold strsV
          rw [List.getElem?_map, hu]
          rfl
        rw [h2] at hx
        exact (Option.some.inj hx).symm
      subst hx
      have hul := we u (List.mem_of_getElem? hu)
      have nT := Ex.new (o := .tup [V.int (i : Nat), .str (mkS u)]) hT
      refine ⟨T, _, rfl, st_of upd_same, rfl, _, _, rfl, _, _, rfl, rfl, ?_⟩
      try dsimp only
      refine s_at [some (.str (mkS l)), some (.ref wq), some (.int (i : Nat)), some (.str (mkS u))] rfl ?_
      refine s_when (b := !(isBeast u)) (et_not (et_B (ev_call (ea_cons (ev_var rfl) ea_nil) (sp_beastIsS (by omega))))) (fun hb H3 e3 => ?_) (fun hb H3 e3 => ⟨_, _, rfl, (x2.trans nT).trans e3, fun j x hj hxj => ?_⟩)
      · rw [Bool.not_eq_true'] at hb
        exact ⟨.int (i : Nat), rfl, .int (i : Nat), rfl, fun dx hdx => qx i u hu hb hall dx H3 (((e1.trans x2).trans nT).trans e3) hdx⟩
      · rcases Nat.lt_or_ge j i with z | z
        · exact hall j x z hxj
        · have : j = i := by omega
          subst this
          rw [hu] at hxj
          cases hxj
          rw [Bool.not_eq_false'] at hb
          exact hb
    · obtain ⟨y2, y3, rfl, x2, hall⟩ := hW
      have hall2 : ∀ p ∈ ws, isBeast p = true := fun p hp => by
        obtain ⟨j, hj⟩ := List.getElem?_of_mem hp
        have := (List.getElem?_eq_some_iff.mp hj).1
        exact hall j p (by unfold strsV; rw [List.length_map]; exact this) hj
      have := er_wordsS (K := K) (σ := [some (.str (mkS l)), some (.ref wq), y2, y3]) (H := H2) (te := tVar 1) (j := 3) (vs := [3]) (te2 := tCall (spBeastInS K) [] E0 (tCons (tVar 3) tNil)) beastV (ev_var rfl) (x2 _ _ gw) (by omega) (fun x => rfl) (fun u hu H3 e3 Q q => ⟨.str (mkS u), rfl, u, rfl, hall2 u hu, by have := we u hu; omega, fun t H4 ht e4 g4 => q t H4 ht e4 g4⟩)
      refine this H2 (Ex.refl _) _ fun v H3 e3 hv => q hall2 v H3 ((e1.trans x2).trans e3) hv
end
end K54
set_option maxHeartbeats 4000000
namespace K54
open PySem PySem.Spec PyProof.Rows L2 Evl HH RZ
section
variable {P : Program} {w : World} {K : PySem.W.Frag} {mg : Str → Option Value} {base : Heap}
theorem ok_law_dip {f : Addr} {fd : FuncData} (F : FnP K "_law_dip" s_law_dip f fd) (g : mg "_law_dip" = some (.ref f)) (b : Binds K fd ["_law_script", "_law_k"] []) (m_len : mg "len" = none) (m_abs : mg "abs" = none) (m_int : mg "int" = none) :
    Has P w K mg base 1 "_law_dip" ["_law_script", "_law_k"] (spDip K) f fd := by
  refine ⟨F.ok sc_law_dip (fun vs H Q E h => ?_) (fun cdv A outer s H vs Q E hr h => ?_), g, F.kp, b⟩
  · obtain ⟨a, k, ns, rfl, _⟩ := h
    rfl
  · obtain ⟨a, k, ns, rfl, hS, hk, q⟩ := h
    refine ⟨_, PSs.nox (pss_cons (ps_set (i := 2) sc_law_dip.nd rfl (.inl rfl) (pe_ifExp (pt_cmpR op_lt (pv 1) (pe_callB call_len_seq (by rfl) m_len PySem.boot_len (pa_cons (pv 0) pa_nil)) (nomark _)) (pe_ix ix_list (pv 0) (pv 1) (fun _ _ => rfl)) pe_int))
      (pss_one (ps_ret (pe_lst (pa_cons (pe_op op_mul (pe_callB call_abs (by rfl) m_abs (by decide +kernel) (pa_cons (pv 2) pa_nil)) (pe_callTy call_int1 (by rfl) m_int (by decide +kernel) (pa_cons (pe_cmpR op_ge (pe_callB call_abs (by rfl) m_abs (by decide +kernel) (pa_cons (pv 2) pa_nil)) (pe_op op_pow pe_int pe_int) (nomark _)) pa_nil))) (pa_cons (pe_op op_add (pe_op op_add (pe_op op_modN (pv 2) pe_int) (pe_op op_mul pe_int (pv 1))) pe_int) (pa_cons pe_int pa_nil))))))), ?_⟩
    refine q_asg (v := .int (ns.getD k 0)) (ev_if (b := decide ((k : Int) < ((ns.map V.int).length : Int))) (et_test (ev_op (ev_var rfl) (ev_len (ev_var rfl) hS) rv_I0)) (fun hd => ?_) (fun hd => ?_)) fun H1 e1 => ?_
    · have hk2 : k < ns.length := by
        have := of_decide_eq_true hd
        rw [List.length_map] at this
        omega
      have e : (ns.map V.int)[k]? = some (.int (ns.getD k 0)) := by
        rw [List.getElem?_map, List.getElem?_eq_getElem hk2, List.getD_eq_getElem?_getD, List.getElem?_eq_getElem hk2] <;> rfl
      exact ev_op (ev_var rfl) (ev_var rfl) (rv_ixL hS (atI_nat e))
    · have hk2 : ns.length ≤ k := by
        have := of_decide_eq_false hd
        rw [List.length_map] at this
        omega
      refine ev_is ev_c ?_
      rw [List.getD_eq_getElem?_getD, List.getElem?_eq_none hk2] <;> rfl
    · generalize ns.getD k 0 = c
      have r1 := fmod_lo (a := c) (show (0 : Int) < 2305843009213693951 by decide)
      have r2 := fmod_hi (a := c) (show (0 : Int) < 2305843009213693951 by decide)
      refine s_retL (el_lst (ea_cons (ev_op (ev_cb (ea_cons (ev_var rfl) ea_nil) rc_abs) (ev_cb (ea_cons (ev_op (ev_cb (ea_cons (ev_var rfl) ea_nil) rc_abs) (ev_op ev_c ev_c (rv_I ⟨by decide, by decide, by decide⟩)) rv_I0) ea_nil) rc_intB) (rv_I (.inr ?_))) (ea_cons (ev_op (ev_op (ev_op (ev_var rfl) ev_c (rv_I (by decide))) (ev_op ev_c (ev_var rfl) (rv_I (.inl ⟨by decide, by decide⟩))) rv_I0) ev_c rv_I0) (ea_cons ev_c ea_nil))) (by show 3 ≤ 100000; decide)) fun p H2 hp e2 h2 => ?_
      · exact b01 _
      · refine q p H2 (fresh_back e1 hp) (e1.trans e2) ⟨_, _, _, h2, ?_, by omega, by omega, by decide, by decide⟩
        refine Int.mul_nonneg ?_ ?_
        · split <;> omega
        · exact b01n _
theorem ok_law_take {f : Addr} {fd : FuncData} (F : FnP K "_law_take" s_law_take f fd) (g : mg "_law_take" = some (.ref f)) (b : Binds K fd ["_law_box", "_law_many"] []) : Has P w K mg base 1 "_law_take" ["_law_box", "_law_many"] spTake f fd := by
  refine ⟨F.ok sc_law_take (fun vs H Q E h => ?_) (fun cdv A outer s H vs Q E hr h => ?_), g, F.kp, b⟩
  · obtain ⟨p, m, n, rfl, _⟩ := h
    rfl
  · obtain ⟨p, m, n, rfl, hm, hm2, ⟨a, b, c, hb, ha, hb0, hb1, hc0, hc1⟩, hn, q⟩ := h
    refine ⟨_, PSs.nox (pss_cons (ps_if (pt_cmpR op_gt (pe_ix ix_list (pv 0) pe_int (fun _ _ => rfl)) pe_int (nomark _)) (pss_cons (ps_set (i := 2) sc_law_take.nd rfl (.inl rfl) (pe_op op_modN (pe_ix ix_list (pv 0) pe_int (fun _ _ => rfl)) (pv 1)))
      (pss_cons (ps_asg (pe_op op_fdivW (pe_ix ix_list (pv 0) pe_int (fun _ _ => rfl)) (pv 1)) (pg_sub (pv 0) pe_int set_list))
      (pss_one (ps_ret (pv 2))))) pss_nil)
      (pss_cons (ps_asg (pe_op op_add (pe_ix ix_list (pv 0) pe_int (fun _ _ => rfl)) pe_int) (pg_sub (pv 0) pe_int set_list))
      (pss_cons (ps_set (i := 3) sc_law_take.nd rfl (.inl rfl) (pe_op op_modN (pe_op op_powW (pe_op op_add (pe_ix ix_list (pv 0) pe_int (fun _ _ => rfl)) (pe_op op_mul pe_int (pe_ix ix_list (pv 0) pe_int (fun _ _ => rfl)))) pe_int) pe_int))
      (pss_cons (ps_set (i := 4) sc_law_take.nd rfl (.inl rfl) (pe_op op_modN (pe_op op_mulW (pe_op op_add (pe_op op_add (pv 3) (pe_ix ix_list (pv 0) pe_int (fun _ _ => rfl))) (pe_op op_fdivW (pe_ix ix_list (pv 0) pe_int (fun _ _ => rfl)) pe_int)) (pe_op op_add (pe_op op_add (pe_op op_modN (pv 3) pe_int) pe_int) (pe_ix ix_list (pv 0) pe_int (fun _ _ => rfl)))) pe_int))
      (pss_one (ps_ret (pe_op op_modN (pe_op op_fdivW (pe_op op_modN (pe_op op_add (pe_op op_mul (pv 4) pe_int) (pv 3)) pe_int) pe_int) (pv 1)))))))), ?_⟩
    refine q_when (b := decide (a > 0)) (et_B (ev_op (ev_op (ev_var rfl) ev_c (rv_ixL (sq_of hb) rfl)) ev_c rv_I0)) (fun hd H1 e1 => ?_) (fun hd H1 e1 => ?_)
    · have hb1' := e1 _ _ hb
      refine q_asg (ev_op (ev_op (ev_var rfl) ev_c (rv_ixL (sq_of hb1') rfl)) (ev_var rfl) (rv_I (show m ≠ 0 by omega))) fun H2 e2 => ?_
      have hb2' := e2 _ _ hb1'
      refine q_setL (j := 0) hb2' (ev_op (ev_op (ev_var rfl) ev_c (rv_ixL (sq_of hb2') rfl)) (ev_var rfl) (rv_I (divW_ok hm hm2))) (ev_var rfl) ev_c (by show 0 < 3; decide) fun H3 e3 => ?_
      refine s_ret (ev_var rfl) fun H4 e4 => ?_
      refine q _ H4 (fmod_lo hm) (fmod_hi hm) (((ExB.of ((e1.trans e2).trans e3)).upd).trans (.of e4)) ⟨a / m, b, c, e4 _ _ upd_same, Int.ediv_nonneg ha (by omega), hb0, hb1, hc0, by omega⟩
    · have hb1' := e1 _ _ hb
      refine q_setL (j := 2) hb1' (ev_op (ev_op (ev_var rfl) ev_c (rv_ixL (sq_of hb1') rfl)) ev_c rv_I0) (ev_var rfl) ev_c (by show 2 < 3; decide) fun H2 e2 => ?_
      have hx : upd H2 p (.lst ([V.int a, .int b, .int c].set 2 (.int (c + 1)))) p = some (.lst [V.int a, .int b, .int (c + 1)]) := upd_same
      have eb : ExB p H (upd H2 p (.lst ([V.int a, .int b, .int c].set 2 (.int (c + 1))))) := (ExB.of (e1.trans e2)).upd
      generalize upd H2 p (.lst ([V.int a, .int b, .int c].set 2 (.int (c + 1)))) = H3 at hx eb ⊢
      have hlim : c + 1 ≤ (Lim : Int) + 1 := by omega
      have g1 : CPowW (b + 39373 * (c + 1)) 5 := pow_ok (big_of (by omega) hlim 39373 b (by decide) (by decide) hb0 (by omega))
      have r1 := fmod_lo (a := (b + 39373 * (c + 1)) ^ (5 : Int).toNat) (show (0 : Int) < 2147483647 by decide)
      have r2 := fmod_hi (a := (b + 39373 * (c + 1)) ^ (5 : Int).toNat) (show (0 : Int) < 2147483647 by decide)
      refine q_asg (v := .int (((b + 39373 * (c + 1)) ^ (5 : Int).toNat).fmod 2147483647)) (ev_op (ev_op (ev_op (ev_op (ev_var rfl) ev_c (rv_ixL (sq_of hx) rfl)) (ev_op ev_c (ev_op (ev_var rfl) ev_c (rv_ixL (sq_of hx) rfl)) (rv_I (.inl ⟨by decide, by decide⟩))) rv_I0) ev_c (rv_I g1)) ev_c (rv_I (by decide))) fun H4 e4 => ?_
      generalize ((b + 39373 * (c + 1)) ^ (5 : Int).toNat).fmod 2147483647 = o at r1 r2 ⊢
      have hx4 := e4 _ _ hx
      have d0 : 0 ≤ b / 1000003 := by omega
      have d1 : b / 1000003 ≤ b := by omega
      have g2 : CMulW (o + (c + 1) + b / 1000003) (o.fmod 40009 + 7 + (c + 1)) := by
        have s1 := fmod_lo (a := o) (show (0 : Int) < 40009 by decide)
        have s2 := fmod_hi (a := o) (show (0 : Int) < 40009 by decide)
        have e1 : o + (c + 1) + b / 1000003 = (o + b / 1000003) + 1 * (c + 1) := by omega
        have e2 : o.fmod 40009 + 7 + (c + 1) = (o.fmod 40009 + 7) + 1 * (c + 1) := by omega
        rw [e1, e2]
        exact mulW_ok (big_of (by omega) hlim 1 _ (by decide) (by decide) (by omega) (by omega)) (big_of (by omega) hlim 1 _ (by decide) (by decide) (by omega) (by omega))
      refine q_asg (ev_op (ev_op (ev_op (ev_op (ev_var rfl) (ev_op (ev_var rfl) ev_c (rv_ixL (sq_of hx4) rfl)) rv_I0) (ev_op (ev_op (ev_var rfl) ev_c (rv_ixL (sq_of hx4) rfl)) ev_c (rv_I (divW_ok (by decide) (by decide)))) rv_I0) (ev_op (ev_op (ev_op (ev_var rfl) ev_c (rv_I (by decide))) ev_c rv_I0) (ev_op (ev_var rfl) ev_c (rv_ixL (sq_of hx4) rfl)) rv_I0) (rv_I g2)) ev_c (rv_I (by decide))) fun H5 e5 => ?_
      refine s_ret (ev_op (ev_op (ev_op (ev_op (ev_op (ev_var rfl) ev_c (rv_I (.inr ⟨by decide, by decide⟩))) (ev_var rfl) rv_I0) ev_c (rv_I (by decide))) ev_c (rv_I (divW_ok (by decide) (by decide)))) (ev_var rfl) (rv_I (show m ≠ 0 by omega))) fun H6 e6 => ?_
      refine q _ H6 (fmod_lo hm) (fmod_hi hm) (eb.trans (.of ((e4.trans e5).trans e6))) ⟨a, b, c + 1, e6 _ _ (e5 _ _ hx4), ha, hb0, hb1, by omega, by omega⟩
theorem ok_law_folded {f : Addr} {fd : FuncData} (F : FnP K "_law_folded" s_law_folded f fd) (g : mg "_law_folded" = some (.ref f)) (b : Binds K fd ["_law_script", "_law_many"] []) (m_list : mg "list" = none) (m_enumerate : mg "enumerate" = none) :
    Has P w K mg base 1 "_law_folded" ["_law_script", "_law_many"] (spFolded K) f fd := by
  refine ⟨F.ok sc_law_folded (fun vs H Q E h => ?_) (fun cdv A outer s H vs Q E hr h => ?_), g, F.kp, b⟩
  · obtain ⟨a, k, ns, rfl, _⟩ := h
    rfl
  · obtain ⟨a, m, ns, rfl, hm, hm2, hS, hlen, q⟩ := h
    refine ⟨_, PSs.nox (pss_cons (ps_set (i := 2) sc_law_folded.nd rfl (.inl rfl) (pe_callTy call_list_of (by rfl) m_list (by decide +kernel) (pa_cons (pe_slice sl_list (pv 0) po_none (po_some (pv 1))) pa_nil)))
      (pss_cons (ps_for PassesOwn.never rfl (pi_enum (by rfl) m_enumerate (pa_cons (pe_slice sl_list (pv 0) (po_some (pv 1)) (po_some pe_int)) pa_nil)) (pg_tup rfl (pgs_cons (pg_name (i := 3) sc_law_folded.nd rfl (Or.inl rfl)) (pgs_cons (pg_name (i := 4) sc_law_folded.nd rfl (Or.inl rfl)) pgs_nil)))
        (pss_one (ps_asg (pe_op op_add (pe_ix ix_list (pv 2) (pe_op op_modN (pv 3) (pv 1)) (fun _ _ => rfl)) (pe_op op_mul (pv 4) (pe_op op_add (pv 3) pe_int))) (pg_sub (pv 2) (pe_op op_modN (pv 3) (pv 1)) set_list))))
      (pss_one (ps_ret (pv 2))))), ?_⟩
    refine q_asgL (el_listN (el_sl (ev_var rfl) eo_none (eo_some (ev_var rfl)) hS)) fun l H1 hl e1 h1 => ?_
    rw [cut_to, ← List.map_take] at h1
    obtain ⟨zs, hzs, hzl⟩ := cut_ints ns (some (m : Int)) (some 63)
    rw [HT.sIx_nat] at hzl
    refine q_forE (el_sl (ev_var rfl) (eo_some (ev_var rfl)) (eo_some ev_c) (ex_l e1 hS)) (fun c i σ' H' => ∃ (y3 y4 : Option V) (ms : List Int), σ' = [some (.ref a), some (.int (m : Int)), some (.ref l), y3, y4] ∧ ms.length = min m ns.length ∧ H' l = some (.lst (ms.map V.int)) ∧ H' c = some (.lst (cutV (ns.map V.int) (some (m : Int)) (some 63))) ∧ Ex H H' ∧ l ≠ c) (fun c H2 hc e2 h2 => ?_) (fun c i σ' H' hi p => ?_) (fun c i x σ' H' T hx p hT => ?_) (fun c σ' H' p => ?_)
    · exact ⟨none, none, ns.take m, rfl, by rw [List.length_take], e2 _ _ h1, h2, e1.trans e2, ne_of_none h1 hc⟩
    · obtain ⟨y3, y4, ms, rfl, p1, p2, p3, p4, p5⟩ := p
      exact sq_of p3
    · obtain ⟨y3, y4, ms, rfl, p1, p2, p3, p4, p5⟩ := p
      rw [hzs, List.getElem?_map] at hx
      obtain ⟨z, hz, rfl⟩ := Option.map_eq_some_iff.mp hx
      have hi := (List.getElem?_eq_some_iff.mp hz).1
      have hms : ms.length = m := by omega
      refine ⟨T, _, rfl, st_of upd_same, rfl, _, _, rfl, _, _, rfl, rfl, ?_⟩
      have hlT : l ≠ T := ne_of_none p2 hT
      have h2 : (upd H' T (.tup [.int (i : Nat), .int z])) l = some (.lst (ms.map V.int)) := by
        rw [upd_ne hlT]
        exact p2
      have hj : i % m < ms.length := by
        rw [hms]
        exact Nat.mod_lt _ hm
      have hg : (ms.map V.int)[i % m]? = some (.int (ms[i % m])) := by
        rw [List.getElem?_map, List.getElem?_eq_getElem hj] <;> rfl
      have eI : Ev (tOp (rI (fun _ j => j ≠ 0) fun i j => .int (i.fmod j)) (tVar 3) (tVar 1)) [some (.ref a), some (.int (m : Int)), some (.ref l), some (.int (i : Nat)), some (.int z)] (upd H' T (.tup [.int (i : Nat), .int z])) (.int ((i % m : Nat) : Int)) := ev_is (ev_op (ev_var rfl) (ev_var rfl) (rv_I (show (m : Int) ≠ 0 by omega))) (by rw [fmod_nat])
      refine s_setL (j := i % m) h2 (ev_op (ev_op (ev_var rfl) eI (rv_ixL (sq_of h2) (atI_nat hg))) (ev_op (ev_var rfl) (ev_op (ev_var rfl) ev_c rv_I0) (rv_I (.inr ?_))) rv_I0) (ev_var rfl) eI (by rw [List.length_map]; exact hj) fun H3 e3 => ?_
      · have : zs.length ≤ 63 := by omega
        exact ⟨by omega, by omega⟩
      · refine ⟨some (.int (i : Nat)), some (.int z), ms.set (i % m) (ms[i % m] + z * ((i : Int) + 2)), rfl, by rw [List.length_set]; exact p1, ?_, ?_, ?_, p5⟩
        · rw [upd_same, List.map_set]
        · rw [upd_ne (Ne.symm p5)]
          exact e3 _ _ (Ex.new hT _ _ p3)
        · exact Ex.mut ((p4.trans (Ex.new hT)).trans e3) hl
    · obtain ⟨y3, y4, ms, rfl, p1, p2, p3, p4, p5⟩ := p
      exact s_ret (ev_var rfl) fun H2 e2 => q l H2 ms hl (p4.trans e2) (by omega) (e2 _ _ p2)
theorem ok_law_same {f : Addr} {fd : FuncData} (F : FnP K "_law_same" s_law_same f fd) (g : mg "_law_same" = some (.ref f)) (b : Binds K fd ["_law_found", "_law_due"] []) (m_isinstance : mg "isinstance" = none) (m_list : mg "list" = none) (m_tuple : mg "tuple" = none) (m_bool : mg "bool" = none) (m_str : mg "str" = none) (m_int : mg "int" = none) (m_len : mg "len" = none) (m_all : mg "all" = none) (m_zip : mg "zip" = none) :
    ∀ d, Has P w K mg base d "_law_same" ["_law_found", "_law_due"] (spSame K d) f fd
  | 0 => ⟨has_none, g, F.kp, b⟩
  | d + 1 => by
    have h_law_same := ok_law_same F g b m_isinstance m_list m_tuple m_bool m_str m_int m_len m_all m_zip d
    refine ⟨F.ok sc_law_same (fun vs H Q E h => ?_) (fun cdv A outer s H vs Q E hr h => ?_), g, F.kp, b⟩
    · obtain ⟨x, y, rfl, _⟩ := h
      rfl
    · obtain ⟨x, y, rfl, hA, q⟩ := h
      refine ⟨_, PSs.nox (pss_cons (ps_if (pt_val (pe_callB call_isiT (by rfl) m_isinstance (by decide +kernel) (pa_cons (pv 1) (pa_cons (pe_tup (pa_cons (pe_bltn (v := .ty "list") (by rfl) m_list (by decide +kernel) rfl) (pa_cons (pe_bltn (v := .ty "tuple") (by rfl) m_tuple (by decide +kernel) rfl) pa_nil))) pa_nil)))) (pss_cons (ps_if (PW.pt (pw_or (pt_cmpR op_ne (pe_callB call_isi (by rfl) m_isinstance (by decide +kernel) (pa_cons (pv 0) (pa_cons (pe_bltn (v := .ty "list") (by rfl) m_list (by decide +kernel) rfl) pa_nil))) (pe_callB call_isi (by rfl) m_isinstance (by decide +kernel) (pa_cons (pv 1) (pa_cons (pe_bltn (v := .ty "list") (by rfl) m_list (by decide +kernel) rfl) pa_nil))) (nomark _)) (pw_or1 (pt_cmpR op_ne (pe_callB call_isi (by rfl) m_isinstance (by decide +kernel) (pa_cons (pv 0) (pa_cons (pe_bltn (v := .ty "tuple") (by rfl) m_tuple (by decide +kernel) rfl) pa_nil))) (pe_callB call_isi (by rfl) m_isinstance (by decide +kernel) (pa_cons (pv 1) (pa_cons (pe_bltn (v := .ty "tuple") (by rfl) m_tuple (by decide +kernel) rfl) pa_nil))) (nomark _))))) (pss_one (ps_ret pe_bl)) pss_nil)
      (pss_one (ps_ret (pe_and (pe_cmpR op_eq (pe_callB call_len_seq (by rfl) m_len PySem.boot_len (pa_cons (pv 0) pa_nil)) (pe_callB call_len_seq (by rfl) m_len PySem.boot_len (pa_cons (pv 1) pa_nil)) (nomark _)) (pe_one (pe_callB (cr_all rfl) (by rfl) m_all (by decide +kernel) (pa_cons (pe_lc (own := [("_law_one", 2), ("_law_two", 3)]) (g := gTup K 2 (gCons (gName 2) (gCons (gName 3) gNil))) (by rfl) sc_law_same.nd (pi_zipA (by rfl) m_zip (pa_cons (pv 0) (pa_cons (pv 1) pa_nil))) (blkOk_by (own := [("_law_one", 2), ("_law_two", 3)]) (N := ["_law_found", "_law_due", "_law_one", "_law_two"]) (sc := defScope s_law_same) (by decide +kernel)) (fun _ _ _ _ _ => (pg_tup rfl (pgs_cons (pg_name (i := 2) sc_law_same.nd rfl (Or.inl rfl)) (pgs_cons (pg_name (i := 3) sc_law_same.nd rfl (Or.inl rfl)) pgs_nil)))) (fun _ _ _ _ _ => pts_nil) (fun _ _ _ _ _ => (pe_call h_law_same.G hr (by rfl) h_law_same.g h_law_same.kp h_law_same.b .nil pass0 (pa_cons (pv 2) (pa_cons (pv 3) pa_nil))))) pa_nil))))))) pss_nil)
      (pss_cons (ps_if (PW.pt (pw_or (pt_cmpR op_isN (pv 1) pe_non (nomark _)) (pw_or1 (pt_cmpR op_isN (pv 0) pe_non (nomark _))))) (pss_one (ps_ret (pe_and (pe_cmpR op_isN (pv 1) pe_non (nomark _)) (pe_one (pe_cmpR op_isN (pv 0) pe_non (nomark _)))))) pss_nil)
      (pss_cons (ps_if (PW.pt (pw_or (pt_val (pe_callB call_isi (by rfl) m_isinstance (by decide +kernel) (pa_cons (pv 1) (pa_cons (pe_bltn (v := .ty "bool") (by rfl) m_bool (by decide +kernel) rfl) pa_nil)))) (pw_or1 (pt_val (pe_callB call_isi (by rfl) m_isinstance (by decide +kernel) (pa_cons (pv 1) (pa_cons (pe_bltn (v := .ty "str") (by rfl) m_str (by decide +kernel) rfl) pa_nil))))))) (pss_one (ps_ret (pe_and (pe_cmpR op_eq (pe_callB call_isi (by rfl) m_isinstance (by decide +kernel) (pa_cons (pv 0) (pa_cons (pe_bltn (v := .ty "bool") (by rfl) m_bool (by decide +kernel) rfl) pa_nil))) (pe_callB call_isi (by rfl) m_isinstance (by decide +kernel) (pa_cons (pv 1) (pa_cons (pe_bltn (v := .ty "bool") (by rfl) m_bool (by decide +kernel) rfl) pa_nil))) (nomark _)) (pe_one (pe_cmpR op_eq (pv 0) (pv 1) (nomark _)))))) pss_nil)
      (pss_one (ps_ret (pe_and (pe_callB call_isi (by rfl) m_isinstance (by decide +kernel) (pa_cons (pv 0) (pa_cons (pe_bltn (v := .ty "int") (by rfl) m_int (by decide +kernel) rfl) pa_nil))) (pe_and (pe_not (pe_callB call_isi (by rfl) m_isinstance (by decide +kernel) (pa_cons (pv 0) (pa_cons (pe_bltn (v := .ty "bool") (by rfl) m_bool (by decide +kernel) rfl) pa_nil)))) (pe_one (pe_cmpR op_eq (pv 0) (pv 1) (nomark _)))))))))), ?_⟩
      rcases hA with ⟨rfl, hf⟩ | ⟨a, c, xs, ys, rfl, rfl, h3, h4, h5, h6⟩
      · cases x with
        | int i =>
          refine q_when (et_B (ev_isiT (ev_var rfl) (.int i) kit_int)) (fun hd => by cases hd) fun _ H1 e1 => ?_
          refine q_when (b := false) (et_or (a := false) (b := false) (et_test (ev_op (ev_var rfl) ev_c (rv_isN2 rfl))) fun _ => et_test (ev_op (ev_var rfl) ev_c (rv_isN2 rfl))) (fun hd => by cases hd) fun _ H2 e2 => ?_
          refine q_when (b := false) (et_or (a := false) (b := false) (et_B (ev_isi (T := "int") (C := "bool") (ev_var rfl) (.int i) (by decide +kernel))) fun _ => et_B (ev_isi (T := "int") (C := "str") (ev_var rfl) (.int i) (by decide +kernel))) (fun hd => by cases hd) fun _ H3 e3 => ?_
          refine s_ret (v := .bl true) (ev_andV (a := true) (b := true) (ev_isi (T := "int") (C := "int") (b := true) (ev_var rfl) (.int i) (by decide +kernel)) fun _ => ev_andV (a := true) (b := true) (ev_notV (ev_isi (T := "int") (C := "bool") (b := false) (ev_var rfl) (.int i) (by decide +kernel))) fun _ => ev_is (ev_op (ev_var rfl) (ev_var rfl) (rv_eq rfl)) (by rw [decide_eq_true rfl])) fun H4 e4 => q H4 (((e1.trans e2).trans e3).trans e4)
        | bl i =>
          refine q_when (et_B (ev_isiT (ev_var rfl) (.bl i) kit_bool)) (fun hd => by cases hd) fun _ H1 e1 => ?_
          refine q_when (b := false) (et_or (a := false) (b := false) (et_test (ev_op (ev_var rfl) ev_c (rv_isN2 rfl))) fun _ => et_test (ev_op (ev_var rfl) ev_c (rv_isN2 rfl))) (fun hd => by cases hd) fun _ H2 e2 => ?_
          refine q_when (b := true) (et_or (a := true) (b := true) (et_B (ev_isi (T := "bool") (C := "bool") (ev_var rfl) (.bl i) (by decide +kernel))) fun hd => by cases hd) (fun _ H3 e3 => ?_) (fun hd => by cases hd)
          refine s_ret (v := .bl true) (ev_andV (a := true) (b := true) (ev_op (ev_isi (T := "bool") (C := "bool") (b := true) (ev_var rfl) (.bl i) (by decide +kernel)) (ev_isi (T := "bool") (C := "bool") (b := true) (ev_var rfl) (.bl i) (by decide +kernel)) (rv_eq rfl)) fun _ => ev_is (ev_op (ev_var rfl) (ev_var rfl) (rv_eq rfl)) (by rw [decide_eq_true rfl])) fun H4 e4 => q H4 (((e1.trans e2).trans e3).trans e4)
        | str i =>
          refine q_when (et_B (ev_isiT (ev_var rfl) (.str i) kit_str)) (fun hd => by cases hd) fun _ H1 e1 => ?_
          refine q_when (b := false) (et_or (a := false) (b := false) (et_test (ev_op (ev_var rfl) ev_c (rv_isN2 rfl))) fun _ => et_test (ev_op (ev_var rfl) ev_c (rv_isN2 rfl))) (fun hd => by cases hd) fun _ H2 e2 => ?_
          refine q_when (b := true) (et_or (a := false) (b := true) (et_B (ev_isi (T := "str") (C := "bool") (b := false) (ev_var rfl) (.str i) (by decide +kernel))) fun _ => et_B (ev_isi (T := "str") (C := "str") (b := true) (ev_var rfl) (.str i) (by decide +kernel))) (fun _ H3 e3 => ?_) (fun hd => by cases hd)
          refine s_ret (v := .bl true) (ev_andV (a := true) (b := true) (ev_op (ev_isi (T := "str") (C := "bool") (b := false) (ev_var rfl) (.str i) (by decide +kernel)) (ev_isi (T := "str") (C := "bool") (b := false) (ev_var rfl) (.str i) (by decide +kernel)) (rv_eq rfl)) fun _ => ev_is (ev_op (ev_var rfl) (ev_var rfl) (rv_eq rfl)) (by rw [decide_eq_true rfl])) fun H4 e4 => q H4 (((e1.trans e2).trans e3).trans e4)
        | non =>
          refine q_when (et_B (ev_isiT (ev_var rfl) .non kit_non)) (fun hd => by cases hd) fun _ H1 e1 => ?_
          refine q_when (b := true) (et_or (a := true) (b := true) (et_test (ev_op (ev_var rfl) ev_c (rv_isN2 rfl))) fun _ => et_test (ev_op (ev_var rfl) ev_c (rv_isN2 rfl))) (fun _ H2 e2 => ?_) (fun hd => by cases hd)
          refine s_ret (v := .bl true) (ev_andV (a := true) (b := true) (ev_op (ev_var rfl) ev_c (rv_isN2 rfl)) fun _ => ev_op (ev_var rfl) ev_c (rv_isN2 rfl)) fun H4 e4 => q H4 ((e1.trans e2).trans e4)
        | byt _ => exact hf.elim
        | flt _ => exact hf.elim
        | ref _ => exact hf.elim
        | ty _ => exact hf.elim
      · rcases h3 with ⟨ha, hc⟩ | ⟨ha, hc⟩
        · refine q_when (et_B (ev_isiT (ev_var rfl) (.lst hc) kit_list)) (fun _ H1 e1 => ?_) (fun hd => by cases hd)
          refine q_when (b := false) (et_or (et_test (ev_op (ev_isi (T := "list") (b := true) (ev_var rfl) (.lst (ex_l e1 ha)) (by decide +kernel)) (ev_isi (T := "list") (b := true) (ev_var rfl) (.lst (ex_l e1 hc)) (by decide +kernel)) (rv_ne rfl))) fun _ => et_test (ev_op (ev_isi (T := "list") (b := false) (ev_var rfl) (.lst (ex_l e1 ha)) (by decide +kernel)) (ev_isi (T := "list") (b := false) (ev_var rfl) (.lst (ex_l e1 hc)) (by decide +kernel)) (rv_ne rfl))) (fun hd => by cases hd) fun _ H2 e2 => ?_
          have e12 := e1.trans e2
          refine s_ret (v := .bl true) (ev_andV (a := true) (b := true) (ev_is (ev_op (ev_lenA (ev_var rfl) (.inl (ex_l e12 ha))) (ev_lenA (ev_var rfl) (.inl (ex_l e12 hc))) (rv_eq rfl)) (by rw [h4, decide_eq_true rfl])) fun _ => ev_allT (el_same h4 h5 (.inl ⟨ex_l e12 ha, ex_l e12 hc⟩) fun i u v hu hv => (h6 i u v hu hv).ex e12)) fun H4 e4 => q H4 (e12.trans e4)
        · refine q_when (et_B (ev_isiT (ev_var rfl) (.tup hc) kit_tuple)) (fun _ H1 e1 => ?_) (fun hd => by cases hd)
          refine q_when (b := false) (et_or (et_test (ev_op (ev_isi (T := "tuple") (b := false) (ev_var rfl) (.tup (ex_t e1 ha)) (by decide +kernel)) (ev_isi (T := "tuple") (b := false) (ev_var rfl) (.tup (ex_t e1 hc)) (by decide +kernel)) (rv_ne rfl))) fun _ => et_test (ev_op (ev_isi (T := "tuple") (b := true) (ev_var rfl) (.tup (ex_t e1 ha)) (by decide +kernel)) (ev_isi (T := "tuple") (b := true) (ev_var rfl) (.tup (ex_t e1 hc)) (by decide +kernel)) (rv_ne rfl))) (fun hd => by cases hd) fun _ H2 e2 => ?_
          have e12 := e1.trans e2
          refine s_ret (v := .bl true) (ev_andV (a := true) (b := true) (ev_is (ev_op (ev_lenA (ev_var rfl) (.inr (ex_t e12 ha))) (ev_lenA (ev_var rfl) (.inr (ex_t e12 hc))) (rv_eq rfl)) (by rw [h4, decide_eq_true rfl])) fun _ => ev_allT (el_same h4 h5 (.inr ⟨ex_t e12 ha, ex_t e12 hc⟩) fun i u v hu hv => (h6 i u v hu hv).ex e12)) fun H4 e4 => q H4 (e12.trans e4)
theorem ok_law_row {f f1 f2 : Addr} {fd fd1 fd2 : FuncData} (F : FnP K "_law_row" s_law_row f fd) (g : mg "_law_row" = some (.ref f)) (b : Binds K fd ["_law_box", "_law_most"] []) (h_law_take : Has P w K mg base 1 "_law_take" ["_law_box", "_law_many"] spTake f1 fd1) (h_law_of : Has P w K mg base 2 "_law_of" ["_law_box", "_law_pool"] (spOfA K) f2 fd2) (m_range : mg "range" = none) (m_tuple : mg "tuple" = none) :
    Has P w K mg base 3 "_law_row" ["_law_box", "_law_most"] (spRow K) f fd := by
  have h_law_of : Has P w K mg base 2 "_law_of" ["_law_box", "_law_pool"] (spOf K) _ _ := h_law_of.imp fun vs H Q E h => Or.inl h
  refine ⟨F.ok sc_law_row (fun vs H Q E h => ?_) (fun cdv A outer s H vs Q E hr h => ?_), g, F.kp, b⟩
  · obtain ⟨p, m, n, rfl, _⟩ := h
    rfl
  · obtain ⟨p, m, n, rfl, hm, hm2, hb, hn, q⟩ := h
    refine ⟨_, PSs.nox (pss_cons (ps_par3 (i := 2) (j := 3) (l := 4) (by rfl) sc_law_row.nd rfl rfl rfl (by decide) (by decide) (by decide) rfl rfl rfl (pa_cons (pe_op op_add pe_int (pe_call h_law_take.G (hr.mono (by decide)) (by rfl) h_law_take.g h_law_take.kp h_law_take.b .nil pass0 (pa_cons (pv 0) (pa_cons (pv 1) pa_nil)))) (pa_cons (pe_call h_law_take.G (hr.mono (by decide)) (by rfl) h_law_take.g h_law_take.kp h_law_take.b .nil pass0 (pa_cons (pv 0) (pa_cons pe_int pa_nil))) (pa_cons (pe_call h_law_of.G (hr.mono (by decide)) (by rfl) h_law_of.g h_law_of.kp h_law_of.b .nil pass0 (pa_cons (pv 0) (pa_cons (pe_lst (pa_cons pe_int (pa_cons pe_int (pa_cons pe_int (pa_cons pe_int pa_nil))))) pa_nil))) pa_nil))) (by rfl))
      (pss_cons (ps_par (i := 5) (j := 6) (by rfl) sc_law_row.nd rfl rfl (by decide) rfl rfl (pa_cons (pe_ix ix_list (pe_lst (pa_cons pe_int (pa_cons pe_int (pa_cons pe_int (pa_cons pe_int (pa_cons pe_int (pa_cons pe_int pa_nil))))))) (pv 3) (fun _ _ => rfl)) (pa_cons (pe_ix ix_list (pe_lst (pa_cons pe_int (pa_cons pe_int (pa_cons pe_int (pa_cons pe_int (pa_cons pe_int (pa_cons pe_int pa_nil))))))) (pv 3) (fun _ _ => rfl)) pa_nil)) (by rfl))
      (Evl.pss_cut (ps_par (i := 7) (j := 8) (by rfl) sc_law_row.nd rfl rfl (by decide) rfl rfl (pa_cons (pe_ix ix_list (pe_lst (pa_cons pe_int (pa_cons (pe_un un_neg pe_int) (pa_cons (pe_un un_neg pe_int) (pa_cons pe_int (pa_cons (pe_op op_sub (pe_op op_pow pe_int pe_int) pe_int) (pa_cons (pe_un un_neg pe_int) pa_nil))))))) (pv 3) (fun _ _ => rfl)) (pa_cons (pe_ifExp (pt_cmpR op_eq (pv 3) pe_int (nomark _)) (pe_call h_law_take.G (hr.mono (by decide)) (by rfl) h_law_take.g h_law_take.kp h_law_take.b .nil pass0 (pa_cons (pv 0) (pa_cons pe_int pa_nil))) pe_int) pa_nil)) (by rfl))
      (pss_cons (ps_set (i := 9) sc_law_row.nd rfl (.inl rfl) (pe_lst pa_nil))
      (pss_cons (ps_for PassesOwn.never rfl (pi_range1 (by rfl) m_range (pa_cons (pv 2) pa_nil)) (pg_name (i := 10) sc_law_row.nd rfl (Or.inl rfl))
        (pss_one (ps_expr (pe_bm PySem.F.plainAttrs_list PySem.F.slot_list_append PySem.F.type_list_append mt_append (pv 9) (pa_cons (pe_tup (pa_cons (pe_op op_add (pe_op op_add (pv 7) (pe_op op_mul (pv 4) (pv 10))) (pe_call h_law_take.G (hr.mono (by decide)) (by rfl) h_law_take.g h_law_take.kp h_law_take.b .nil pass0 (pa_cons (pv 0) (pa_cons (pv 5) pa_nil)))) (pa_cons (pe_op op_add (pv 8) (pe_call h_law_take.G (hr.mono (by decide)) (by rfl) h_law_take.g h_law_take.kp h_law_take.b .nil pass0 (pa_cons (pv 0) (pa_cons (pv 6) pa_nil)))) pa_nil))) pa_nil)))))
      (pss_one (ps_ret (pe_tupleOf (by rfl) m_tuple (pv 9))))))))), ?_⟩
    refine ⟨.ref p, rfl, .int (m : Int), rfl, p, (m : Int), n, rfl, by omega, by omega, hb, by omega, fun r1 H1 r10 r11 e1 hb1 => ?_⟩
    refine ⟨1, r1, rfl, rfl, .ref p, rfl, p, 6, n + 1, rfl, by decide, by decide, hb1, by omega, fun way H2 w0 w1 e2 hb2 => ?_⟩
    refine ⟨.ref p, rfl, by show 4 ≤ sizeLine; decide, fun l hl => ?_⟩
    refine ⟨p, l, _, n + 2, rfl, sq_of upd_same, by show 0 < 4; decide, by show 4 < 100000; decide, (hb2.ne hl).symm, hb2.ex (Ex.new hl), by omega, fun k x H3 hx e3 hb3 => ?_⟩
    obtain ⟨rise, rfl, hr0, hr1⟩ : ∃ rise : Int, x = .int rise ∧ 0 ≤ rise ∧ rise ≤ 3 := by
      match k, hx with
      | 0, hx => cases hx; exact ⟨0, rfl, by decide, by decide⟩
      | 1, hx => cases hx; exact ⟨0, rfl, by decide, by decide⟩
      | 2, hx => cases hx; exact ⟨1, rfl, by decide, by decide⟩
      | 3, hx => cases hx; exact ⟨3, rfl, by decide, by decide⟩
      | k + 4, hx => cases hx
    have eb3 : ExB p H H3 := ((e1.trans e2).trans (.of (Ex.new hl))).trans e3
    clear e1 e2 e3 hb1 hb2
    refine ⟨_, _, _, rfl, ?_⟩
    obtain ⟨high, hh, ah⟩ := at_ints (zs := [9, 9, 30, 60, 25, 200]) w0 w1
    obtain ⟨dear, hd, ad⟩ := at_ints (zs := [3, 1, 1, 10, 4, 40]) w0 w1
    have hh0 : 0 < high ∧ high ≤ 200 := by
      simp only [List.mem_cons, List.not_mem_nil, or_false] at hh
      omega
    have hd0 : 0 < dear ∧ dear ≤ 40 := by
      simp only [List.mem_cons, List.not_mem_nil, or_false] at hd
      omega
    refine ⟨by show 6 ≤ sizeLine; decide, fun l2 hl2 => ⟨.int way, rfl, l2, _, way, .int high, rfl, rfl, sq_of upd_same, ah, ?_⟩⟩
    refine ⟨by show 6 ≤ sizeLine; decide, fun l3 hl3 => ⟨.int way, rfl, l3, _, way, .int dear, rfl, rfl, sq_of upd_same, ad, _, _, rfl, ?_⟩⟩
    have eb4 := (eb3.new (o := .lst [.int 9, .int 9, .int 30, .int 60, .int 25, .int 200]) hl2).new (o := .lst [.int 3, .int 1, .int 1, .int 10, .int 4, .int 40]) hl3
    have hb4 := (hb3.ex (Ex.new (o := .lst [.int 9, .int 9, .int 30, .int 60, .int 25, .int 200]) hl2)).ex (Ex.new (o := .lst [.int 3, .int 1, .int 1, .int 10, .int 4, .int 40]) hl3)
    clear eb3 hb3
    obtain ⟨bs, hbs, abs⟩ := at_ints (zs := [0, -4, -15, 0, 10 ^ (12 : Int).toNat - 1000, -100]) w0 w1
    have hbs0 : -100 ≤ bs ∧ bs ≤ 999999999000 := by
      have e12 : (10 : Int) ^ (12 : Int).toNat - 1000 = 999999999000 := by decide
      rw [e12] at hbs
      simp only [List.mem_cons, List.not_mem_nil, or_false] at hbs
      omega
    refine q_cut (M := fun σ' H' => ∃ toll : Int, σ' = [some (.ref p), some (.int (m : Int)), some (.int (1 + r1)), some (.int way), some (.int rise), some (.int high), some (.int dear), some (.int bs), some (.int toll), none, none] ∧ 0 ≤ toll ∧ toll ≤ 6 ∧ ExB p H H' ∧ Bx H' p (n + 4)) ?_ (fun σ' H5 hM => ?_)
    · refine ⟨4, rfl, 15, rfl, 10, 12, rfl, rfl, ⟨by decide, by decide, by decide⟩, _, 1000, rfl, rfl, 100, rfl, by show 6 ≤ sizeLine; decide, fun l4 hl4 => ⟨.int way, rfl, l4, _, way, .int bs, rfl, rfl, sq_of upd_same, abs, ?_⟩⟩
      refine ⟨.int way, rfl, rfl, _, rfl, ite2 (fun e => ?_) (fun e => ?_)⟩
      · refine ⟨.ref p, rfl, p, 6, n + 3, rfl, by decide, by decide, hb4.ex (Ex.new hl4), by omega, fun r H5 r0 r1 e5 hb5 => ⟨_, _, rfl, r, rfl, r0, by omega, (eb4.new hl4).trans e5, hb5⟩⟩
      · exact ⟨_, _, rfl, 0, rfl, by decide, by decide, eb4.new hl4, (hb4.ex (Ex.new hl4)).le (by omega)⟩
    · obtain ⟨toll, rfl, t0, t1, eb5, hb5⟩ := hM
      refine q_asgL (el_lst ea_nil (by show 0 ≤ 100000; decide)) fun l5 H6 hl5 e6 h6 => ?_
      have hpl : p ≠ l5 := hb5.ne hl5
      have hl5H : H l5 = none := eb5.back hl5 (Ne.symm hpl)
      refine q_forR1 (n := 1 + r1) (ea_cons (ev_var rfl) ea_nil) (by omega) (fun i σ' H' => ∃ (y : Option V) (vs : List V) (rs : HH.Row), σ' = [some (.ref p), some (.int (m : Int)), some (.int (1 + r1)), some (.int way), some (.int rise), some (.int high), some (.int dear), some (.int bs), some (.int toll), some (.ref l5), y] ∧ rs.length = i ∧ H' l5 = some (.lst vs) ∧ Beasts K H' vs rs ∧ (∀ b ∈ rs, Tame b) ∧ Bx H' p (n + 4 + 2 * i) ∧ ExB p H H') (fun H7 e7 => ?_) (fun i σ' H7 hi hp => ?_) (fun σ' H7 hp => ?_)
      · exact ⟨none, [], [], rfl, rfl, e7 _ _ h6, Beasts.nil, (fun b h => by cases h), (hb5.ex (e6.trans e7)).le (by omega), eb5.trans (.of (e6.trans e7))⟩
      · obtain ⟨y, vs, rs, rfl, p1, p2, p3, p4, p5, p6⟩ := hp
        have hri := mul_bd hr0 hr1 (Int.natCast_nonneg i) (show (i : Int) ≤ 40 by omega)
        refine ⟨.ref l5, rfl, .inl ⟨rfl, _, sq_of p2⟩, .int bs, rfl, .int rise, rfl, .int (i : Int), rfl, rise, (i : Int), rfl, rfl, .inl ⟨by omega, by omega⟩, bs, rise * (i : Int), rfl, rfl, .ref p, rfl, .int high, rfl, p, high, n + 4 + 2 * i, rfl, by omega, by omega, p5, by omega, fun s1 H8 s10 s11 e8 hb8 => ?_⟩
        refine ⟨_, _, rfl, rfl, .int toll, rfl, .ref p, rfl, .int dear, rfl, p, dear, n + 4 + 2 * i + 1, rfl, by omega, by omega, hb8, by omega, fun s2 H9 s20 s21 e9 hb9 => ?_⟩
        refine ⟨toll, s2, rfl, rfl, by show 2 ≤ sizeLine; decide, fun T hT => ?_⟩
        have q8 := e8 _ _ (Ne.symm hpl) p2
        have q9 := e9 _ _ (Ne.symm hpl) q8
        have hlT : l5 ≠ T := ne_of_none q9 hT
        have q10 : (upd H9 T (.tup [.int (bs + rise * (i : Int) + s1), .int (toll + s2)])) l5 = some (.lst vs) := by
          rw [upd_ne hlT]
          exact q9
        obtain ⟨xs8, hx8⟩ := p5.lst
        obtain ⟨xs9, hx9⟩ := hb8.lst
        have b10 : Beasts K (upd H9 T (.tup [.int (bs + rise * (i : Int) + s1), .int (toll + s2)])) vs rs := ((p3.exB e8 hx8).exB e9 hx9).ex (Ex.new hT)
        have bt : BeastAt K (upd H9 T (.tup [.int (bs + rise * (i : Int) + s1), .int (toll + s2)])) (.ref T) (bs + rise * (i : Int) + s1, toll + s2) := ⟨T, rfl, st_of upd_same⟩
        refine ⟨l5, vs, .ref T, rfl, rfl, q10, sz_lt (by rw [p3.1]; omega), some (.int (i : Int)), vs ++ [.ref T], rs ++ [(bs + rise * (i : Int) + s1, toll + s2)], rfl, ?_, upd_same, ?_, ?_, ?_, ?_⟩
        · rw [List.length_append, p1]
          rfl
        · exact (b10.app (Beasts.one bt)).exB (ExB.refl _ _).upd q10
        · intro b hb
          rcases List.mem_append.mp hb with h | h
          · exact p4 b h
          · have e := List.mem_singleton.mp h
            subst e
            have e12 : (10 : Int) ^ 12 = 1000000000000 := by decide
            unfold Tame
            rw [e12]
            refine ⟨?_, ?_, ?_, ?_⟩ <;> dsimp only <;> omega
        · exact (((hb9.ex (Ex.new hT)).mut hpl).le (by omega))
        · exact ((((p6.trans e8).trans e9).new hT).mut hl5H)
      · obtain ⟨y, vs, rs, rfl, p1, p2, p3, p4, p5, p6⟩ := hp
        refine ⟨.ref l5, rfl, .inl ⟨l5, vs, rfl, sq_of p2, fun T hT => ?_⟩⟩
        exact q _ _ rs (p6.new hT) ((p5.ex (Ex.new hT)).le (by omega)) ⟨T, vs, rfl, st_of upd_same, p3.ex (Ex.new hT)⟩ (by omega) (by omega) p4
end
end K54
set_option maxHeartbeats 4000000
namespace K54
open PySem PySem.Spec PyProof.Rows L2 Evl HH RZ TL NumText
section
variable {P : Program} {w : World} {K : PySem.W.Frag} {mg : Str → Option Value} {base : Heap}
theorem ok_law_number_text {f : Addr} {fd : FuncData} (F : FnP K "_law_number_text" s_law_number_text f fd) (g : mg "_law_number_text" = some (.ref f)) (b : Binds K fd ["_law_number"] []) (m_str : mg "str" = none) (m_abs : mg "abs" = none) : Has P w K mg base 1 "_law_number_text" ["_law_number"] spNumTextL f fd := by
  refine ⟨F.ok sc_law_number_text (fun vs H Q E h => ?_) (fun cdv A outer s H vs Q E hr h => ?_), g, F.kp, b⟩
  · obtain ⟨n, rfl, _⟩ := h
    rfl
  · obtain ⟨n, rfl, hn, q⟩ := h
    refine ⟨_, PSs.nox (pss_one (ps_ret (pe_op op_add_str (pe_ifExp (pt_cmpR op_lt (pv 0) pe_int (nomark _)) pe_str pe_str) (pe_callTy call_str_int (by rfl) m_str (by decide +kernel) (pa_cons (pe_callB call_abs (by rfl) m_abs (by decide +kernel) (pa_cons (pv 0) pa_nil)) pa_nil))))), ?_⟩
    have hl := numT_len (small_most hn)
    refine s_ret (v := .str (mkS (numT n))) (ev_catS (l := if n < 0 then [45] else []) (m := numL n.natAbs) (ev_if (b := decide (n < 0)) (et_test (ev_op (ev_var rfl) ev_c rv_I0)) (fun hd => ?_) (fun hd => ?_)) (ev_strN (ev_cb (ea_cons (ev_var rfl) ea_nil) fun H1 e Q q => ⟨n, rfl, by
      rw [show (if n < 0 then -n else n) = (n.natAbs : Int) by split <;> omega]
      exact q H1 (Ex.refl _)⟩) (log_most hn)) (by
        unfold numT at hl
        rw [List.length_append] at hl
        omega)) fun H1 e1 => q H1 e1
    · rw [if_pos (of_decide_eq_true hd)]
      exact ev_c (v := .str (mkS [45]))
    · rw [if_neg (of_decide_eq_false hd)]
      exact ev_c (v := .str (mkS []))
theorem ok_law_spelt {f f1 : Addr} {fd fd1 : FuncData} (F : FnP K "_law_spelt" s_law_spelt f fd) (g : mg "_law_spelt" = some (.ref f)) (b : Binds K fd ["_law_row_here"] []) (h_law_number_text : Has P w K mg base 1 "_law_number_text" ["_law_number"] spNumTextL f1 fd1) (m_str : mg "str" = none) : Has P w K mg base 2 "_law_spelt" ["_law_row_here"] (spSpeltS K) f fd := by
  refine ⟨F.ok sc_law_spelt (fun vs H Q E h => ?_) (fun cdv A outer s H vs Q E hr h => ?_), g, F.kp, b⟩
  · obtain ⟨v, rs, rfl, _⟩ := h
    rfl
  · obtain ⟨v, rs, rfl, hv, hl, few, tl, room, q⟩ := h
    refine ⟨_, PSs.nox (pss_one (ps_ret (pe_m1 PySem.F.slot_str_join PySem.F.type_str_join mt_join pe_str (pe_lc (own := [("_law_strength", 1), ("_law_toll", 2)]) (g := gTup K 2 (gCons (gName 1) (gCons (gName 2) gNil))) (by rfl) sc_law_spelt.nd (pi_tup (pv 0)) (blkOk_by (own := [("_law_strength", 1), ("_law_toll", 2)]) (N := ["_law_row_here", "_law_strength", "_law_toll"]) (sc := defScope s_law_spelt) (by decide +kernel)) (fun _ _ _ _ _ => (pg_tup rfl (pgs_cons (pg_name (i := 1) sc_law_spelt.nd rfl (Or.inl rfl)) (pgs_cons (pg_name (i := 2) sc_law_spelt.nd rfl (Or.inl rfl)) pgs_nil)))) (fun _ _ _ _ _ => pts_nil) (fun _ _ _ _ _ => (pe_op op_add_str (pe_op op_add_str (pe_call h_law_number_text.G (hr.mono (by decide)) (by rfl) h_law_number_text.g h_law_number_text.kp h_law_number_text.b .nil pass0 (pa_cons (pv 1) pa_nil)) pe_str) (pe_callTy call_str_int (by rfl) m_str (by decide +kernel) (pa_cons (pv 2) pa_nil)))))))), ?_⟩
    have cl := fun (b : Int × Int) (hb : b ∈ rs) => (⟨numT_len (small_most (few b hb).1), numT_len (small_most (few b hb).2)⟩ : (numT b.1).length ≤ 1001 ∧ (numT b.2).length ≤ 1001)
    refine s_ret (v := .str (mkS (rowT rs))) (ev_joinS (K := K) (s := [32]) (ls := rs.map beastT) ev_c (fun H1 e1 => ?_) (by have := join_room room; omega)) fun H2 e2 => q H2 e2
    unfold strsV
    rw [List.map_map]
    refine el_mapRow (K := K) (rs := rs) _ (er_val (ev_var rfl) (hv.ex e1)) (by omega) (fun x y => rfl) fun b H2 e2 hb => ?_
    have c2 := cl b hb
    have t2 := numT_pos (tl b hb)
    refine ev_is (ev_catS (ev_catS (ev_call (ea_cons (ev_var rfl) ea_nil) (sp_numTextL (few b hb).1)) (ev_c (v := .str (mkS [58]))) (by show _ + 1 ≤ _; omega)) (ev_strN (n := b.2.natAbs) (ev_is (ev_var rfl) (by have := tl b hb; congr 1; omega)) (log_most (few b hb).2)) (by rw [List.length_append, ← t2]; show _ + 1 + _ ≤ _; omega)) ?_
    show V.str (mkS (numT b.1 ++ [58] ++ numL b.2.natAbs)) = V.str (mkS (beastT b))
    unfold beastT
    rw [List.append_assoc, ← t2]
theorem ok_law_of {f f1 : Addr} {fd fd1 : FuncData} (F : FnP K "_law_of" s_law_of f fd) (g : mg "_law_of" = some (.ref f)) (b : Binds K fd ["_law_box", "_law_pool"] []) (h_law_take : Has P w K mg base 1 "_law_take" ["_law_box", "_law_many"] spTake f1 fd1) (m_len : mg "len" = none) :
    Has P w K mg base 2 "_law_of" ["_law_box", "_law_pool"] (spOfA K) f fd := by
  refine ⟨F.ok sc_law_of (fun vs H Q E h => ?_) (fun cdv A outer s H vs Q E hr h => ?_), g, F.kp, b⟩
  · rcases h with ⟨p, l, xs, n, rfl, _⟩ | ⟨p, l, n, rfl, _⟩ <;> rfl
  · rcases h with ⟨p, l, xs, n, rfl, hl, h0, h1, hne, hb, hn, q⟩ | ⟨p, l, n, rfl, h0, h1, hb, hn, q⟩
    · refine ⟨_, PSs.nox (pss_one (ps_ret (pe_ix ix_seq (pv 1) (pe_call h_law_take.G (hr.mono (by decide)) (by rfl) h_law_take.g h_law_take.kp h_law_take.b .nil pass0 (pa_cons (pv 0) (pa_cons (pe_callB call_len (by rfl) m_len PySem.boot_len (pa_cons (pv 1) pa_nil)) pa_nil))) (fun _ _ => rfl)))), ?_⟩
      refine ⟨.ref l, rfl, .ref p, rfl, .ref l, rfl, .ref l, xs.length, rfl, .inl ⟨xs, hl, rfl⟩, p, (xs.length : Int), n, rfl, by omega, by omega, hb, hn, fun r H1 r0 r1 e1 hb1 => ?_⟩
      obtain ⟨k, rfl⟩ := Int.eq_ofNat_of_zero_le r0
      have hk : k < xs.length := by omega
      exact .inl ⟨l, xs, k, xs[k], rfl, rfl, e1.l hne hl, atI_nat (List.getElem?_eq_getElem hk), q k _ H1 (List.getElem?_eq_getElem hk) e1 hb1⟩
    · refine ⟨_, PSs.nox (pss_one (ps_ret (pe_ix ix_seq (pv 1) (pe_call h_law_take.G (hr.mono (by decide)) (by rfl) h_law_take.g h_law_take.kp h_law_take.b .nil pass0 (pa_cons (pv 0) (pa_cons (pe_callB call_len (by rfl) m_len PySem.boot_len (pa_cons (pv 1) pa_nil)) pa_nil))) (fun _ _ => rfl)))), ?_⟩
      refine ⟨.str (mkS l), rfl, .ref p, rfl, .str (mkS l), rfl, .str (mkS l), l.length, rfl, ⟨by rw [len_mkS]; exact sz_of (by omega), by rw [len_mkS]⟩, p, (l.length : Int), n, rfl, by omega, by omega, hb, hn, fun r H1 r0 r1 e1 hb1 => ?_⟩
      obtain ⟨k, rfl⟩ := Int.eq_ofNat_of_zero_le r0
      have hk : k < l.length := by omega
      have ha : atI (mkS l).cps.toList (k : Int) = some l[k] := by
        rw [cps_mkS]
        exact atI_natN (List.getElem?_eq_getElem hk)
      exact .inr (.inr ⟨mkS l, k, l[k], rfl, rfl, by rw [len_mkS]; exact sz_of (by omega), ha, q l[k] H1 (List.getElem_mem hk) e1 hb1⟩)
theorem ok_law_is_plain {f : Addr} {fd : FuncData} (F : FnP K "_law_is_plain" s_law_is_plain f fd) (g : mg "_law_is_plain" = some (.ref f)) (b : Binds K fd ["_law_word"] []) : Has P w K mg base 1 "_law_is_plain" ["_law_word"] spFigS f fd := by
  refine ⟨F.ok sc_law_is_plain (fun vs H Q E h => ?_) (fun cdv A outer s H vs Q E hr h => ?_), g, F.kp, b⟩
  · obtain ⟨l, rfl, _⟩ := h
    rfl
  · obtain ⟨l, rfl, hl, q⟩ := h
    refine ⟨_, PSs.nox (pss_one (ps_ret (pe_and (pe_cmpR op_ne (pv 0) pe_str (nomark _)) (pe_and (pe_cmpR op_eq (pe_m1 PySem.F.slot_str_strip PySem.F.type_str_strip mt_stripChars (pv 0) pe_str) pe_str (nomark _)) (pe_one (pe_or (pe_cmpR op_eq (pv 0) pe_str (nomark _)) (pe_one (pe_cmpR op_ne (pe_ix ix_str (pv 0) pe_int (fun _ _ => rfl)) pe_str (nomark _))))))))), ?_⟩
    refine s_ret (v := .bl (isFig l)) ?_ fun H1 e1 => q H1 e1
    cases l with
    | nil => exact ev_andV (a := !decide (([] : List Nat) = [])) (b := false) (ev_neS (l := []) (m := []) (ev_var (i := 0) rfl) ev_c) fun z => absurd z (by decide)
    | cons c r =>
      refine ev_is (ev_andV (ev_neS (m := []) (ev_var rfl) ev_c) fun _ => ev_andV (ev_strip (ev_var rfl) (by omega)) fun _ => ev_orV (ev_eqS (m := [48]) (ev_var rfl) ev_c) fun _ => ev_neS (l := [c]) (m := [48]) (ev_ixS (ev_var rfl) (by omega)) ev_c) ?_
      have e : decide ((c :: r).head? = some 48) = decide ([c] = [48]) := decide_eq_decide.mpr ⟨fun h => by injection h with h; rw [h], fun h => by injection h with h; rw [h]; rfl⟩
      unfold isFig
      rw [e, Bool.and_assoc]
theorem ok_law_is_beast {f f1 : Addr} {fd fd1 : FuncData} (F : FnP K "_law_is_beast" s_law_is_beast f fd) (g : mg "_law_is_beast" = some (.ref f)) (b : Binds K fd ["_law_word"] []) (h_law_is_plain : Has P w K mg base 1 "_law_is_plain" ["_law_word"] spFigS f1 fd1) (m_len : mg "len" = none) : Has P w K mg base 2 "_law_is_beast" ["_law_word"] spBeastIsS f fd := by
  refine ⟨F.ok sc_law_is_beast (fun vs H Q E h => ?_) (fun cdv A outer s H vs Q E hr h => ?_), g, F.kp, b⟩
  · obtain ⟨l, rfl, _⟩ := h
    rfl
  · obtain ⟨l, rfl, hl, q⟩ := h
    refine ⟨_, PSs.nox (pss_cons (ps_set (i := 1) sc_law_is_beast.nd rfl (.inl rfl) (pe_m1 PySem.F.slot_str_split PySem.F.type_str_split mt_split (pv 0) pe_str))
      (pss_cons (ps_if (PW.pt (pw_or (pt_cmpR op_ne (pe_callB call_len_seq (by rfl) m_len PySem.boot_len (pa_cons (pv 1) pa_nil)) pe_int (nomark _)) (pw_or1 (pt_not (pt_val (pe_call h_law_is_plain.G (hr.mono (by decide)) (by rfl) h_law_is_plain.g h_law_is_plain.kp h_law_is_plain.b .nil pass0 (pa_cons (pe_ix ix_list (pv 1) pe_int (fun _ _ => rfl)) pa_nil))))))) (pss_one (ps_ret pe_bl)) pss_nil)
      (pss_one (ps_ret (pe_or (pe_call h_law_is_plain.G (hr.mono (by decide)) (by rfl) h_law_is_plain.g h_law_is_plain.kp h_law_is_plain.b .nil pass0 (pa_cons (pe_ix ix_list (pv 1) pe_int (fun _ _ => rfl)) pa_nil)) (pe_one (pe_and (pe_cmpR op_eq (pe_slice sl_str (pe_ix ix_list (pv 1) pe_int (fun _ _ => rfl)) po_none (po_some pe_int)) pe_str (nomark _)) (pe_and (pe_cmpR op_ne (pe_ix ix_list (pv 1) pe_int (fun _ _ => rfl)) pe_str (nomark _)) (pe_one (pe_call h_law_is_plain.G (hr.mono (by decide)) (by rfl) h_law_is_plain.g h_law_is_plain.kp h_law_is_plain.b .nil pass0 (pa_cons (pe_slice sl_str (pe_ix ix_list (pv 1) pe_int (fun _ _ => rfl)) (po_some pe_int) po_none) pa_nil))))))))))), ?_⟩
    refine q_asgL (el_colons (ev_var rfl) hl) fun a H1 ha e1 ga => ?_
    refine s_at [some (.str (mkS l)), some (.ref a)] rfl ?_
    have hb : isBeast l = beastLaw l := (beast_law l).symm
    have ce := fun p hp => colons_each (l := l) (p := p) hp
    unfold beastLaw at hb
    generalize colonsS l = cs at ga hb ce
    have ll : Ev (tCB (rLenS K) (tCons (tVar 1) tNil)) [some (.str (mkS l)), some (.ref a)] H1 (.int (cs.length : Int)) := by
      have := ev_len (K := K) (σ := [some (.str (mkS l)), some (.ref a)]) (H := H1) (ev_var (i := 1) rfl) (sq_of ga)
      rw [show (strsV cs).length = cs.length from List.length_map ..] at this
      exact this
    by_cases h2 : cs.length = 2
    · obtain ⟨x, y, rfl⟩ : ∃ x y, cs = [x, y] := by
        match cs, h2 with
        | [x, y], _ => exact ⟨x, y, rfl⟩
      have lx := ce x (List.mem_cons_self ..)
      have ly := ce y (List.mem_cons_of_mem _ (List.mem_cons_self ..))
      have hb : isBeast l = (isFig y && (isFig x || (decide (x.head? = some 45) && (!decide (x = [45, 48]) && isFig (x.drop 1))))) := hb
      have at1 : ∀ H2, Ex H1 H2 → Ev (tOp (rIxL K) (tVar 1) (tC (.int 1))) [some (.str (mkS l)), some (.ref a)] H2 (.str (mkS y)) := fun H2 e => ev_op (ev_var rfl) ev_c (rv_ixL (K := K) (sq_of (e _ _ ga)) (atI_nat (j := 1) rfl))
      have at0 : ∀ H2, Ex H1 H2 → Ev (tOp (rIxL K) (tVar 1) (tC (.int 0))) [some (.str (mkS l)), some (.ref a)] H2 (.str (mkS x)) := fun H2 e => ev_op (ev_var rfl) ev_c (rv_ixL (K := K) (sq_of (e _ _ ga)) (atI_nat (j := 0) rfl))
      refine q_when (b := (!decide (V.int (([x, y] : List (List Nat)).length : Int) = V.int 2)) || !(isFig y)) (et_or (et_test (ev_op ll ev_c (rv_ne rfl))) fun _ => et_not (et_B (ev_call (ea_cons (at1 H1 (Ex.refl _)) ea_nil) (sp_figS (E := E) (by omega))))) (fun hc H2 e2 => ?_) (fun hc H2 e2 => ?_)
      · have hy : isFig y = false := by
          rw [show decide (V.int (([x, y] : List (List Nat)).length : Int) = V.int 2) = true from rfl] at hc
          simpa using hc
        refine s_ret (v := .bl (isBeast l)) (ev_is ev_c ?_) fun H3 e3 => q H3 ((e1.trans e2).trans e3)
        rw [hb, hy, Bool.false_and]
      · have hy : isFig y = true := by
          rw [show decide (V.int (([x, y] : List (List Nat)).length : Int) = V.int 2) = true from rfl] at hc
          simpa using hc
        refine s_ret (v := .bl (isBeast l)) (ev_is (ev_orV (ev_call (ea_cons (at0 H2 e2) ea_nil) (sp_figS (E := E) (by omega))) fun _ => ev_andV (b := !decide (x = [45, 48]) && isFig (x.drop 1)) (ev_eqS (l := x.take 1) (m := [45]) (ev_slS (at0 H2 e2) eo_none (eo_some (ev_c (v := .int 1))) (by omega) (cut_first x)) ev_c) fun _ => ev_andV (ev_neS (m := [45, 48]) (at0 H2 e2) ev_c) fun _ => ev_call (ea_cons (ev_slS (at0 H2 e2) (eo_some (ev_c (v := .int 1))) eo_none (by omega) (cut_rest x)) ea_nil) (sp_figS (E := E) (by rw [List.length_drop]; omega))) ?_) fun H3 e3 => q H3 ((e1.trans e2).trans e3)
        rw [hb, hy, Bool.true_and]
        have e : decide (x.take 1 = [45]) = decide (x.head? = some 45) := by
          cases x with
          | nil => rfl
          | cons c r => exact decide_eq_decide.mpr ⟨fun h => by injection h with h; rw [h]; rfl, fun h => by injection h with h; rw [h]; rfl⟩
        rw [e]
    · have hf : isBeast l = false := by
        rw [hb]
        match cs, h2 with
        | [], _ => rfl
        | [_], _ => rfl
        | [_, _], h2 => exact absurd rfl h2
        | _ :: _ :: _ :: _, _ => rfl
      have hn : decide (V.int (cs.length : Int) = V.int 2) = false := decide_eq_false fun e => h2 (by injection e with e; omega)
      refine q_when (b := true || false) (et_or (a := true) (et_is (et_test (ev_op ll ev_c (rv_ne rfl))) (by rw [hn]; rfl)) fun z => by cases z) (fun hc H2 e2 => ?_) (fun hc => by cases hc)
      refine s_ret (v := .bl (isBeast l)) (ev_is ev_c ?_) fun H3 e3 => q H3 ((e1.trans e2).trans e3)
      rw [hf]
end
end K54
set_option maxHeartbeats 4000000
namespace HH
open PySem PySem.Spec PyProof.Rows L2 Evl RZ TL NumText
theorem c_op2 {r : R2} {ta tb : TE} {σ : L2.St} {H : Hp} {Q : VK} (h : ta σ H fun x H1 => tb σ H1 fun y H2 => r x y H2 Q) : tOp r ta tb σ H Q := h
def weightS (ls : List (List Nat)) : Nat := (ls.map List.length).sum + ls.length
theorem weight_app (a b : List (List Nat)) : weightS (a ++ b) = weightS a + weightS b := by
  unfold weightS
  rw [List.map_append, List.sum_append, List.length_append]
  omega
theorem weight_cut (a b : Nat) (ws : List (List Nat)) : weightS ((ws.drop a).take b) ≤ weightS ws := by
  have h1 := weight_app (ws.take a) (ws.drop a)
  rw [List.take_append_drop] at h1
  have h2 := weight_app ((ws.drop a).take b) ((ws.drop a).drop b)
  rw [List.take_append_drop] at h2
  omega
theorem weight_words (l : List Nat) : weightS (wordsS l) = l.length + 1 := by
  have hne : wordsS l ≠ [] := words_join.spl_ne l []
  have h := joinL_eq [32] (ls := wordsS l) hne
  have hj : joinL [32] (wordsS l) = l := words_join l []
  rw [hj] at h
  unfold weightS
  have e : ([32] : List Nat).length = 1 := rfl
  rw [e] at h
  omega
def EvW (te : TE) (σ : L2.St) (H : Hp) (W : Nat) : Prop := ∀ H1, Ex H H1 → ∀ Q : VK, (∀ p (ls : List (List Nat)) H2, H1 p = none → Ex H1 H2 → H2 p = some (.lst (strsV ls)) → weightS ls ≤ W → Q (.ref p) H2) → te σ H1 Q
section
variable {K : PySem.W.Frag} {σ : L2.St} {H : Hp} {ta tb te to : TE} {l : List Nat} {k m W V' : Nat}
theorem ew_sl {tl' th : TO} {a : Addr} {ws : List (List Nat)} {lo hi : Option Int} (h : Ev te σ H (.ref a)) (ha : H a = some (.lst (strsV ws))) (h1 : EvO tl' σ H lo) (h2 : EvO th σ H hi) (hw : weightS ws ≤ W) : EvW (tSl (rSlL K) te tl' th) σ H W := fun H1 e Q q => by
  refine el_sl (K := K) h h1 h2 (sq_of ha) H1 e _ fun p H2 hp e2 g2 => ?_
  have ec : cutV (strsV ws) lo hi = strsV ((ws.drop (HT.sIx (strsV ws).length 0 lo)).take (HT.sIx (strsV ws).length (strsV ws).length hi - HT.sIx (strsV ws).length 0 lo)) := by
    unfold cutV strsV
    rw [List.map_take, List.map_drop]
  rw [ec] at g2
  exact q p _ H2 hp e2 g2 (Nat.le_trans (weight_cut _ _ _) hw)
theorem ew_cat (h1 : EvW ta σ H W) (h2 : EvW tb σ H V') (hl : W + V' ≤ 100000) : EvW (tOp rCat ta tb) σ H (W + V') := fun H1 e Q q =>
  h1 H1 e _ fun p ls H2 hp e2 g2 w2 => h2 H2 (e.trans e2) _ fun r ms H3 hr e3 g3 w3 => ⟨p, r, strsV ls, strsV ms, rfl, rfl, e3 _ _ g2, g3, by
    unfold weightS at w2 w3
    unfold strsV
    rw [List.length_map, List.length_map]
    exact sz_of (by omega), fun t ht => by
    refine q t (ls ++ ms) _ (fresh_back (e2.trans e3) ht) ((e2.trans e3).trans (Ex.new ht)) ?_ (by rw [weight_app]; omega)
    rw [upd_same]
    unfold strsV
    rw [List.map_append]⟩
theorem es_joinW (h2 : EvW te σ H W) (hW : W ≤ 100000) :
    EvS (tM1 (fun x xs H Q => ∃ a p, ∃ ys : List Str, x = .str a ∧ xs = [.ref p] ∧ (SqL K H p (ys.map V.str) ∨ SqT K H p (ys.map V.str)) ∧ (ys.map (·.length)).sum + ys.length * a.length ≤ 16777216 ∧ Q (.str (Txt.join a ys)) H) (tC (.str " ")) te) σ H W :=
  es_join (fun H1 e Q q => h2 H1 e Q fun p ls H2 hp e2 g2 w => q p ls H2 e2 g2 w) hW
theorem es_sl2 {a : Nat} {tl' th : TO} (h : Ev te σ H (.str (mkS l))) (h1 : EvO tl' σ H (some (a : Int))) (h2 : EvO th σ H (some ((a : Int) + 2))) (hl : l.length ≤ 100000) : EvS (tSl rSlS te tl' th) σ H 2 := fun H1 e Q q =>
  ev_slS h h1 h2 hl (str_mk _) H1 e _ fun H2 e2 => q _ H2 (by
    show (((mkS l).cps.toList.drop _).take (HT.sIx (mkS l).length (mkS l).length (some ((a : Int) + 2)) - HT.sIx (mkS l).length 0 (some (a : Int)))).length ≤ 2
    rw [List.length_take, show (a : Int) + 2 = ((a + 2 : Nat) : Int) by omega, HT.sIx_nat, HT.sIx_nat]
    omega) e2
end
theorem join_of {ls : List (List Nat)} {W : Nat} (h : weightS ls ≤ W) (hW : W ≤ 100000) : ((ls.map mkS).map fun (x : Str) => x.length).sum + (ls.map mkS).length * (mkS [32]).length ≤ 16777216 ∧ Txt.join (mkS [32]) (ls.map mkS) = mkS (joinL [32] ls) ∧ (joinL [32] ls).length ≤ W := by
  unfold weightS at h
  refine ⟨?_, join_mk _ _, ?_⟩
  · have e1 : ((ls.map mkS).map fun (x : Str) => x.length) = ls.map List.length := by
      rw [List.map_map]
      exact List.map_congr_left fun x _ => len_mkS x
    rw [e1, List.length_map, len_mkS]
    have : ls.length * ([32] : List Nat).length = ls.length := Nat.mul_one _
    omega
  · have := joinL_len [32] ls
    have e2 : ls.length * ([32] : List Nat).length = ls.length := Nat.mul_one _
    omega
end HH
set_option maxHeartbeats 4000000
namespace K54
open PySem PySem.Spec PyProof.Rows L2 Evl HH RZ TL NumText
section
variable {P : Program} {w : World} {K : PySem.W.Frag} {mg : Str → Option Value} {base : Heap}
theorem ok_law_spoilt {f f1 f2 : Addr} {fd fd1 fd2 : FuncData} (F : FnP K "_law_spoilt" s_law_spoilt f fd) (g : mg "_law_spoilt" = some (.ref f)) (b : Binds K fd ["_law_box", "_law_spelt_here"] []) (h_law_take : Has P w K mg base 1 "_law_take" ["_law_box", "_law_many"] spTake f1 fd1) (h_law_of : Has P w K mg base 2 "_law_of" ["_law_box", "_law_pool"] (spOfA K) f2 fd2) (m_len : mg "len" = none) : Has P w K mg base 3 "_law_spoilt" ["_law_box", "_law_spelt_here"] (spSpoilt K) f fd := by
  refine ⟨F.ok sc_law_spoilt (fun vs H Q E h => ?_) (fun cdv A outer s H vs Q E hr h => ?_), g, F.kp, b⟩
  · obtain ⟨p, l, n, rfl, _⟩ := h
    rfl
  · obtain ⟨p, l, n, rfl, hl, hb, hn, q⟩ := h
    refine ⟨_, PSs.nox (pss_cons (ps_par (i := 2) (j := 3) (by rfl) sc_law_spoilt.nd rfl rfl (by decide) rfl rfl (pa_cons (pe_call h_law_take.G (hr.mono (by decide)) (by rfl) h_law_take.g h_law_take.kp h_law_take.b .nil pass0 (pa_cons (pv 0) (pa_cons pe_int pa_nil))) (pa_cons (pe_call h_law_take.G (hr.mono (by decide)) (by rfl) h_law_take.g h_law_take.kp h_law_take.b .nil pass0 (pa_cons (pv 0) (pa_cons (pe_op op_add (pe_callB call_len_str (by rfl) m_len PySem.boot_len (pa_cons (pv 1) pa_nil)) pe_int) pa_nil))) pa_nil)) (by rfl))
      (pss_cons (ps_set (i := 4) sc_law_spoilt.nd rfl (.inl rfl) (pe_call h_law_of.G (hr.mono (by decide)) (by rfl) h_law_of.g h_law_of.kp h_law_of.b .nil pass0 (pa_cons (pv 0) (pa_cons pe_str pa_nil))))
      (pss_cons (ps_set (i := 5) sc_law_spoilt.nd rfl (.inl rfl) (pe_m1 PySem.F.slot_str_split PySem.F.type_str_split mt_split (pv 1) pe_str))
      (pss_cons (ps_set (i := 6) sc_law_spoilt.nd rfl (.inl rfl) (pe_call h_law_take.G (hr.mono (by decide)) (by rfl) h_law_take.g h_law_take.kp h_law_take.b .nil pass0 (pa_cons (pv 0) (pa_cons (pe_callB call_len_seq (by rfl) m_len PySem.boot_len (pa_cons (pv 5) pa_nil)) pa_nil))))
      (pss_cons (ps_if (pt_cmpR op_lt (pv 2) pe_int (nomark _)) (pss_cons (ps_set (i := 7) sc_law_spoilt.nd rfl (.inl rfl) (pe_lst (pa_cons (pe_op op_add_str (pe_op op_add_str (pe_slice sl_str (pv 1) po_none (po_some (pv 3))) (pv 4)) (pe_slice sl_str (pv 1) (po_some (pv 3)) po_none)) (pa_cons (pe_op op_add_str (pe_slice sl_str (pv 1) po_none (po_some (pv 3))) (pe_slice sl_str (pv 1) (po_some (pe_op op_add (pv 3) pe_int)) po_none)) (pa_cons (pe_op op_add_str (pe_op op_add_str (pe_slice sl_str (pv 1) po_none (po_some (pv 3))) (pv 4)) (pe_slice sl_str (pv 1) (po_some (pe_op op_add (pv 3) pe_int)) po_none)) pa_nil)))))
      (pss_one (ps_ret (pe_ix ix_list (pv 7) (pe_op op_modN (pv 2) pe_int) (fun _ _ => rfl))))) pss_nil)
      (pss_cons (ps_if (pt_cmpR op_eq (pv 2) pe_int (nomark _)) (pss_one (ps_ret (pe_op op_add_str (pe_op op_add_str (pe_slice sl_str (pv 1) po_none (po_some (pv 3))) (pe_revS (pe_slice sl_str (pv 1) (po_some (pv 3)) (po_some (pe_op op_add (pv 3) pe_int))))) (pe_slice sl_str (pv 1) (po_some (pe_op op_add (pv 3) pe_int)) po_none)))) pss_nil)
      (pss_cons (ps_if (pt_cmpR op_eq (pv 2) pe_int (nomark _)) (pss_one (ps_ret (pe_m1 PySem.F.slot_str_join PySem.F.type_str_join mt_join pe_str (pe_op op_cat (pe_slice sl_list (pv 5) po_none (po_some (pv 6))) (pe_slice sl_list (pv 5) (po_some (pe_op op_add (pv 6) pe_int)) po_none))))) pss_nil)
      (pss_cons (ps_if (pt_cmpR op_eq (pv 2) pe_int (nomark _)) (pss_one (ps_ret (pe_m1 PySem.F.slot_str_join PySem.F.type_str_join mt_join pe_str (pe_op op_cat (pe_slice sl_list (pv 5) po_none (po_some (pe_op op_add (pv 6) pe_int))) (pe_slice sl_list (pv 5) (po_some (pv 6)) po_none))))) pss_nil)
      (pss_cons (ps_set (i := 8) sc_law_spoilt.nd rfl (.inl rfl) (pe_lst (pa_cons pe_str (pa_cons pe_str (pa_cons pe_str (pa_cons pe_str (pa_cons pe_str (pa_cons pe_str (pa_cons pe_str (pa_cons pe_str (pa_cons pe_str (pa_cons pe_str (pa_cons pe_str (pa_cons pe_str (pa_cons pe_str pa_nil)))))))))))))))
      (pss_cons (ps_if (pt_cmpR op_eq (pv 2) pe_int (nomark _)) (pss_one (ps_ret (pe_op op_add_str (pv 1) (pe_call h_law_of.G (hr.mono (by decide)) (by rfl) h_law_of.g h_law_of.kp h_law_of.b .nil pass0 (pa_cons (pv 0) (pa_cons (pe_lst (pa_cons pe_str (pa_cons pe_str pa_nil))) pa_nil)))))) pss_nil)
      (pss_one (ps_ret (pe_m1 PySem.F.slot_str_join PySem.F.type_str_join mt_join pe_str (pe_op op_cat (pe_op op_cat (pe_slice sl_list (pv 5) po_none (po_some (pv 6))) (pe_lst (pa_cons (pe_call h_law_of.G (hr.mono (by decide)) (by rfl) h_law_of.g h_law_of.kp h_law_of.b .nil pass0 (pa_cons (pv 0) (pa_cons (pv 8) pa_nil))) pa_nil))) (pe_slice sl_list (pv 5) (po_some (pv 6)) po_none))))))))))))))), ?_⟩
    refine ⟨.ref p, rfl, p, 9, n, rfl, by decide, by decide, hb, by omega, fun way H1 w0 w1 x1 b1 => ?_⟩
    refine ⟨.ref p, rfl, .str (mkS l), rfl, mkS l, rfl, by rw [len_mkS]; exact sz_of (by omega), _, _, rfl, rfl, p, (l.length : Int) + 1, n + 1, ?_, by omega, by omega, b1, by omega, fun at0 H2 a0 a1 x2 b2 => ⟨_, _, rfl, ?_⟩⟩
    · rw [len_mkS]
      rfl
    try dsimp only
    refine s_at [some (.ref p), some (.str (mkS l)), some (.int way), some (.int at0), none, none, none, none, none] rfl ?_
    obtain ⟨at1, rfl⟩ := Int.eq_ofNat_of_zero_le a0
    refine q_run ?_
    refine ⟨.ref p, rfl, .inr ⟨p, tl "0123456789: -+ab.x", n + 2, by rw [mkS_tl]; rfl, by decide +kernel, by decide +kernel, b2, by omega, fun c H3 _ x3 b3 => ?_⟩⟩
    refine s_at [some (.ref p), some (.str (mkS l)), some (.int way), some (.int (at1 : Int)), some (.str (mkS [c])), none, none, none, none] rfl ?_
    refine q_asgL (el_words (ev_var rfl) (by omega)) fun wq H4 hwq e4 g4 => ?_
    refine s_at [some (.ref p), some (.str (mkS l)), some (.int way), some (.int (at1 : Int)), some (.str (mkS [c])), some (.ref wq), none, none, none] rfl ?_
    have b4 := b3.ex e4
    have nwp : wq ≠ p := (b3.ne hwq).symm
    have ww : weightS (wordsS l) ≤ l.length + 1 := by rw [weight_words]; exact Nat.le_refl _
    have wl := words_many l
    have wne : 0 < (wordsS l).length := List.length_pos_iff.mpr (words_join.spl_ne l [])
    have sl : (strsV (wordsS l)).length = (wordsS l).length := List.length_map ..
    generalize wordsS l = ws at g4 ww wl wne sl
    refine q_run ?_
    refine ⟨.ref p, rfl, .ref wq, rfl, wq, _, rfl, .inl (sq_of g4), p, (ws.length : Int), n + 3, ?_, by omega, by omega, b4, by omega, fun spot H5 s0 s1 x5 b5 => ?_⟩
    · rw [sl]
      rfl
    obtain ⟨sp, rfl⟩ := Int.eq_ofNat_of_zero_le s0
    refine s_at [some (.ref p), some (.str (mkS l)), some (.int way), some (.int (at1 : Int)), some (.str (mkS [c])), some (.ref wq), some (.int (sp : Int)), none, none] rfl ?_
    have g5 := x5 _ _ nwp g4
    have x05 : ExB p H H5 := (((x1.trans x2).trans x3).trans (.of e4)).trans x5
    have fin : ∀ {σ : _root_.L2.St} {te : TE} {H' : Hp} {k : Nat}, EvS te σ H' k → k ≤ 2 * l.length + 20 → ExB p H H' → Bx H' p (n + 4) → te σ H' (fun v H1 => Q v H1) := fun es hk x bx => es _ (Ex.refl _) _ fun m H2 hm e2 => q m H2 (by omega) (x.trans (.of e2)) ((bx.ex e2).le (by omega))
    have txt : ∀ (y5 y7 y8 : Option V) (H' : Hp) , Ev (tVar 1) [some (.ref p), some (.str (mkS l)), some (.int way), some (.int (at1 : Int)), some (.str (mkS [c])), y5, some (.int (sp : Int)), y7, y8] H' (.str (mkS l)) := fun _ _ _ _ => ev_var rfl
    refine q_when (b := decide (way < 4)) (et_test (ev_op (ev_var rfl) ev_c rv_I0)) (fun hc H6 e6 => ?_) (fun hc H6 e6 => ?_)
    · refine q_run ?_
      have hd : ∀ {σ : _root_.L2.St} {H : Hp}, σ[3]? = some (some (.int (at1 : Int))) → Ev (tOp (rI0 fun i j => .int (i + j)) (tVar 3) (tC (.int 1))) σ H (.int ((at1 : Int) + 1)) := fun h => ev_op (ev_var h) ev_c rv_I0
      refine c_lst ?_
      refine c_cons ?_
      refine (es_cat (k := l.length + 1) (m := l.length) (es_cat (k := l.length) (m := 1) (es_sl (l := l) (σ := [some (.ref p), some (.str (mkS l)), some (.int way), some (.int (at1 : Int)), some (.str (mkS [c])), some (.ref wq), some (.int (sp : Int)), none, none]) (ev_var rfl) eo_none (eo_some (ev_var rfl)) (by omega)) (es_ev (l := [c]) (ev_var rfl) (Nat.le_refl _)) (by omega)) (es_sl (l := l) (ev_var rfl) (eo_some (ev_var rfl)) eo_none (by omega)) (by omega)) H6 (Ex.refl _) _ fun m1 H7 l1 e7 => ?_
      refine c_cons ?_
      refine (es_cat (k := l.length) (m := l.length) (es_sl (l := l) (σ := [some (.ref p), some (.str (mkS l)), some (.int way), some (.int (at1 : Int)), some (.str (mkS [c])), some (.ref wq), some (.int (sp : Int)), none, none]) (ev_var rfl) eo_none (eo_some (ev_var rfl)) (by omega)) (es_sl (l := l) (ev_var rfl) (eo_some (hd rfl)) eo_none (by omega)) (by omega)) H7 (Ex.refl _) _ fun m2 H8 l2 e8 => ?_
      refine c_cons ?_
      refine (es_cat (k := l.length + 1) (m := l.length) (es_cat (k := l.length) (m := 1) (es_sl (l := l) (σ := [some (.ref p), some (.str (mkS l)), some (.int way), some (.int (at1 : Int)), some (.str (mkS [c])), some (.ref wq), some (.int (sp : Int)), none, none]) (ev_var rfl) eo_none (eo_some (ev_var rfl)) (by omega)) (es_ev (l := [c]) (ev_var rfl) (Nat.le_refl _)) (by omega)) (es_sl (l := l) (ev_var rfl) (eo_some (hd rfl)) eo_none (by omega)) (by omega)) H8 (Ex.refl _) _ fun m3 H9 l3 e9 => ?_
      refine ⟨by show 3 ≤ sizeLine; decide, fun sq hsq => ?_⟩
      have n10 := Ex.new (o := .lst [V.str (mkS m1), .str (mkS m2), .str (mkS m3)]) hsq
      have g10 : (upd H9 sq (.lst [V.str (mkS m1), .str (mkS m2), .str (mkS m3)])) sq = some (.lst [V.str (mkS m1), .str (mkS m2), .str (mkS m3)]) := upd_same
      generalize upd H9 sq (.lst [V.str (mkS m1), .str (mkS m2), .str (mkS m3)]) = H10 at n10 g10 ⊢
      refine s_at [some (.ref p), some (.str (mkS l)), some (.int way), some (.int (at1 : Int)), some (.str (mkS [c])), some (.ref wq), some (.int (sp : Int)), some (.ref sq), none] rfl ?_
      obtain ⟨wn, rfl⟩ := Int.eq_ofNat_of_zero_le w0
      obtain ⟨mk, hmk, lmk⟩ : ∃ mk, [V.str (mkS m1), .str (mkS m2), .str (mkS m3)][wn % 3]? = some (.str (mkS mk)) ∧ mk.length ≤ 2 * l.length + 20 := by
        have : wn % 3 = 0 ∨ wn % 3 = 1 ∨ wn % 3 = 2 := by omega
        rcases this with z | z | z <;> rw [z]
        · exact ⟨m1, rfl, by omega⟩
        · exact ⟨m2, rfl, by omega⟩
        · exact ⟨m3, rfl, by omega⟩
      have e510 := (((e6.trans e7).trans e8).trans e9).trans n10
      refine s_ret (v := .str (mkS mk)) (ev_op (ev_var rfl) (ev_is (ev_op (ev_var (i := 2) rfl) (ev_c (v := .int 3)) (rv_I (by decide))) (by
        congr 1
        rw [Int.fmod_eq_emod_of_nonneg _ (by decide)]
        show (wn : Int) % 3 = ((wn % 3 : Nat) : Int)
        omega)) (rv_ixL (K := K) (sq_of g10) (atI_nat hmk))) fun H11 e11 => q mk H11 lmk (x05.trans (.of (e510.trans e11))) ((b5.ex (e510.trans e11)).le (by omega))
    have x06 := x05.trans (.of e6)
    have b6 := b5.ex e6
    have g6 := e6 _ _ g5
    refine q_when (b := decide (V.int way = V.int 4)) (et_test (ev_op (ev_var rfl) ev_c (rv_eq rfl))) (fun hc H7 e7 => ?_) (fun hc H7 e7 => ?_)
    · refine ret_run ?_
      exact fin (k := l.length + 2 + l.length) (es_cat (es_cat (es_sl (l := l) (ev_var rfl) eo_none (eo_some (ev_var rfl)) (by omega)) (es_rev (es_sl2 (l := l) (a := at1) (ev_var rfl) (eo_some (ev_var rfl)) (eo_some (ev_op (ev_var rfl) ev_c rv_I0)) (by omega)) (by decide)) (by omega)) (es_sl (l := l) (ev_var rfl) (eo_some (ev_op (ev_var rfl) (ev_c (v := .int 2)) rv_I0)) eo_none (by omega)) (by omega)) (by omega) (x06.trans (.of e7)) (b6.ex e7)
    have x07 := x06.trans (.of e7)
    have b7 := b6.ex e7
    have g7 := e7 _ _ g6
    refine q_when (b := decide (V.int way = V.int 5)) (et_test (ev_op (ev_var rfl) ev_c (rv_eq rfl))) (fun hc H8 e8 => ?_) (fun hc H8 e8 => ?_)
    · refine ret_run ?_
      exact fin (k := (l.length + 1) + (l.length + 1)) (es_joinW (K := K) (ew_cat (ew_sl (K := K) (ev_var rfl) (e8 _ _ g7) eo_none (eo_some (ev_var rfl)) ww) (ew_sl (K := K) (ev_var rfl) (e8 _ _ g7) (eo_some (ev_op (ev_var rfl) (ev_c (v := .int 1)) rv_I0)) eo_none ww) (by omega)) (by omega)) (by omega) (x07.trans (.of e8)) (b7.ex e8)
    have x08 := x07.trans (.of e8)
    have b8 := b7.ex e8
    have g8 := e8 _ _ g7
    refine q_when (b := decide (V.int way = V.int 6)) (et_test (ev_op (ev_var rfl) ev_c (rv_eq rfl))) (fun hc H9 e9 => ?_) (fun hc H9 e9 => ?_)
    · refine ret_run ?_
      exact fin (k := (l.length + 1) + (l.length + 1)) (es_joinW (K := K) (ew_cat (ew_sl (K := K) (ev_var rfl) (e9 _ _ g8) eo_none (eo_some (ev_op (ev_var rfl) (ev_c (v := .int 1)) rv_I0)) ww) (ew_sl (K := K) (ev_var rfl) (e9 _ _ g8) (eo_some (ev_var rfl)) eo_none ww) (by omega)) (by omega)) (by omega) (x08.trans (.of e9)) (b8.ex e9)
    have x09 := x08.trans (.of e9)
    have b9 := b8.ex e9
    have g9 := e9 _ _ g8
    refine q_asgL (el_lst (ea_cons ev_c (ea_cons ev_c (ea_cons ev_c (ea_cons ev_c (ea_cons ev_c (ea_cons ev_c (ea_cons ev_c (ea_cons ev_c (ea_cons ev_c (ea_cons ev_c (ea_cons ev_c (ea_cons ev_c (ea_cons ev_c ea_nil))))))))))))) (by show 13 ≤ 100000; decide)) fun oq H10 hoq e10 g10 => ?_
    refine s_at [some (.ref p), some (.str (mkS l)), some (.int way), some (.int (at1 : Int)), some (.str (mkS [c])), some (.ref wq), some (.int (sp : Int)), none, some (.ref oq)] rfl ?_
    have x010 := x09.trans (.of e10)
    have b10 := b9.ex e10
    have nop : oq ≠ p := (b9.ne hoq).symm
    have g1w := e10 _ _ g9
    refine q_when (b := decide (V.int way = V.int 8)) (et_test (ev_op (ev_var rfl) ev_c (rv_eq rfl))) (fun hc H11 e11 => ?_) (fun hc H11 e11 => ?_)
    · refine ret_run ?_
      refine ⟨.str (mkS l), rfl, .ref p, rfl, by show 2 ≤ sizeLine; decide, fun lq hlq => .inl ⟨p, lq, [V.str " ", .str "\n"], n + 4, rfl, sq_of upd_same, by show 0 < 2; decide, by show 2 < 100000; decide, ((b10.ex e11).ne hlq).symm, (b10.ex e11).ex (Ex.new hlq), by omega, fun r x H12 hx x12 b12 => ?_⟩⟩
      obtain ⟨z, rfl, hz⟩ : ∃ z : Str, x = .str z ∧ z.length ≤ 5 := by
        match r, hx with
        | 0, hx => cases hx; exact ⟨_, rfl, by decide +kernel⟩
        | 1, hx => cases hx; exact ⟨_, rfl, by decide +kernel⟩
        | r + 2, hx => cases hx
      refine ⟨mkS l, z, rfl, rfl, by rw [len_mkS]; exact sz_of (by omega), ?_⟩
      rw [str_mk z, mkS_app]
      refine q _ H12 ?_ (((x010.trans (.of e11)).trans (.of (Ex.new hlq))).trans x12) (b12.le (by omega))
      rw [List.length_append, ← len_tl]
      omega
    · refine ret_run ?_
      have g11 := e11 _ _ g1w
      have go11 := e11 _ _ g10
      have b11 := b10.ex e11
      have x011 := x010.trans (.of e11)
      refine ⟨⟨_, rfl⟩, ?_⟩
      refine c_op2 (c_op2 ?_)
      refine (ew_sl (K := K) (σ := [some (.ref p), some (.str (mkS l)), some (.int way), some (.int (at1 : Int)), some (.str (mkS [c])), some (.ref wq), some (.int (sp : Int)), none, some (.ref oq)]) (te := tVar 5) (lo := none) (hi := some (sp : Int)) (W := l.length + 1) (ev_var rfl) g11 eo_none (eo_some (ev_var (i := 6) rfl)) ww) H11 (Ex.refl _) _ fun p1 ls1 H12 hp1 e12 g12 w12 => ?_
      have b12 := b11.ex e12
      have np1 : p1 ≠ p := (b11.ne hp1).symm
      refine ⟨.ref p, rfl, .ref oq, rfl, .inl ⟨p, oq, _, n + 4, rfl, sq_of (e12 _ _ go11), by show 0 < 13; decide, by show 13 < 100000; decide, nop, b12, by omega, fun r x H13 hx x13 b13 => ?_⟩⟩
      obtain ⟨z, rfl, hz⟩ : ∃ z : Str, x = .str z ∧ z.length ≤ 5 := by
        have hm := List.mem_of_getElem? hx
        simp only [List.mem_cons, List.not_mem_nil, or_false] at hm
        rcases hm with rfl | rfl | rfl | rfl | rfl | rfl | rfl | rfl | rfl | rfl | rfl | rfl | rfl <;> exact ⟨_, rfl, by decide +kernel⟩
      refine ⟨by show 1 ≤ sizeLine; decide, fun p2 hp2 => ?_⟩
      have n14 := Ex.new (o := .lst [V.str z]) hp2
      have g14a := n14 _ _ (x13 _ _ np1 g12)
      have g14b : (upd H13 p2 (.lst [V.str z])) p2 = some (.lst (strsV [tl z])) := by
        rw [upd_same]
        show _ = some (HO.lst [V.str (mkS (tl z))])
        rw [← str_mk z]
      have g14w := n14 _ _ (x13 _ _ nwp (e12 _ _ g11))
      have b14 := b13.ex n14
      have x014 := ((x011.trans (.of e12)).trans x13).trans (.of n14)
      generalize upd H13 p2 (.lst [V.str z]) = H14 at n14 g14a g14b g14w b14 x014 ⊢
      have l1 : ls1.length ≤ 1100 := by unfold weightS at w12; omega
      refine ⟨p1, p2, strsV ls1, strsV [tl z], rfl, rfl, g14a, g14b, by unfold strsV; rw [List.length_map]; exact sz_of (by show ls1.length + 1 ≤ 100000; omega), fun p3 hp3 => ?_⟩
      have n15 := Ex.new (o := .lst (strsV ls1 ++ strsV [tl z])) hp3
      have g15 : (upd H14 p3 (.lst (strsV ls1 ++ strsV [tl z]))) p3 = some (.lst (strsV (ls1 ++ [tl z]))) := by
        rw [upd_same]
        unfold strsV
        rw [List.map_append]
      generalize upd H14 p3 (.lst (strsV ls1 ++ strsV [tl z])) = H15 at n15 g15 ⊢
      have wz : weightS (ls1 ++ [tl z]) ≤ l.length + 1 + 6 := by
        rw [weight_app]
        have : weightS [tl z] = z.length + 1 := by
          show (tl z).length + 0 + 1 = _
          rw [← len_tl]
        omega
      refine (ew_sl (K := K) (σ := [some (.ref p), some (.str (mkS l)), some (.int way), some (.int (at1 : Int)), some (.str (mkS [c])), some (.ref wq), some (.int (sp : Int)), none, some (.ref oq)]) (te := tVar 5) (lo := some (sp : Int)) (hi := none) (W := l.length + 1) (ev_var rfl) (n15 _ _ g14w) (eo_some (ev_var (i := 6) rfl)) eo_none ww) H15 (Ex.refl _) _ fun p4 ls2 H16 hp4 e16 g16 w16 => ?_
      have l2 : ls2.length ≤ 1100 := by unfold weightS at w16; omega
      refine ⟨p3, p4, strsV (ls1 ++ [tl z]), strsV ls2, rfl, rfl, e16 _ _ g15, g16, by unfold strsV; rw [List.length_map, List.length_map, List.length_append]; exact sz_of (by show ls1.length + 1 + ls2.length ≤ 100000; omega), fun p5 hp5 => ?_⟩
      have n17 := Ex.new (o := .lst (strsV (ls1 ++ [tl z]) ++ strsV ls2)) hp5
      have g17 : (upd H16 p5 (.lst (strsV (ls1 ++ [tl z]) ++ strsV ls2))) p5 = some (.lst (strsV ((ls1 ++ [tl z]) ++ ls2))) := by
        rw [upd_same]
        exact congrArg (fun x => some (HO.lst x)) (List.map_append (l₁ := ls1 ++ [tl z]) (l₂ := ls2)).symm
      generalize upd H16 p5 (.lst (strsV (ls1 ++ [tl z]) ++ strsV ls2)) = H17 at n17 g17 ⊢
      have wt : weightS ((ls1 ++ [tl z]) ++ ls2) ≤ 2 * l.length + 8 := by rw [weight_app]; omega
      obtain ⟨j1, j2, j3⟩ := join_of wt (by omega)
      refine ⟨mkS [32], p5, ((ls1 ++ [tl z]) ++ ls2).map mkS, rfl, rfl, .inl (by rw [HH.strs_map]; exact sq_of g17), j1, ?_⟩
      rw [j2]
      have e1417 := (n15.trans e16).trans n17
      exact q _ H17 (by omega) (x014.trans (.of e1417)) ((b14.ex e1417).le (by omega))
end
end K54
set_option maxHeartbeats 4000000
namespace K54
open PySem PySem.Spec PyProof.Rows L2 Evl HH RZ TL NumText
section
variable {P : Program} {w : World} {K : PySem.W.Frag} {mg : Str → Option Value} {base : Heap}
theorem ok_law_told {f C1 C2 C3 f1 f2 f3 f4 f5 : Addr} {fd fd1 fd2 fd3 fd4 fd5 : FuncData} (F : FnP K "_law_told" s_law_told f fd) (g : mg "_law_told" = some (.ref f)) (b : Binds K fd ["_law_spelt_here"] []) (x_BadText : HasE P w K mg base .val "BadText" "at" C1 f1 fd1) (x_BadDeed : HasE P w K mg base .val "BadDeed" "number" C2 f2 fd2) (x_BadRow : HasE P w K mg base .val "BadRow" "number" C3 f3 fd3) (h_row_in : HasX P w K mg base 4 "row_in" ["text"] (spRowInX K C1) f4 fd4) (h_row_text : Has P w K mg base 2 "row_text" ["row"] (spRowTextS K) f5 fd5)
    (k1 : PySem.W.exmAny K (.ref C1) [.ref C2, .ref C3, .ref C1] = some true) (k2 : PySem.W.kitOne K (.ref C1) (.ref C1) = some true) (k3 : PySem.W.kitOne K (.ref C1) (.type "ValueError") = some true) (k4 : PySem.W.kitAny K (.ref C1) [.ref C2, .ref C3] = some false) (m_isinstance : mg "isinstance" = none) (m_ValueError : mg "ValueError" = none) (m_len : mg "len" = none) : Has P w K mg base 5 "_law_told" ["_law_spelt_here"] (spTold K) f fd := by
  refine ⟨F.ok sc_law_told (fun vs H Q E h => ?_) (fun cdv A outer s H vs Q E hr h => ?_), g, F.kp, b⟩
  · obtain ⟨l, rfl, _⟩ := h
    rfl
  · obtain ⟨l, rfl, hl, q⟩ := h
    refine ⟨_, PSs.nox (pss_cons (ps_asg (pe_tup (pa_cons pe_non (pa_cons pe_non pa_nil))) (pg_tup rfl (pgs_cons (pg_name (i := 1) sc_law_told.nd rfl (Or.inl rfl)) (pgs_cons (pg_name (i := 2) sc_law_told.nd rfl (Or.inl rfl)) pgs_nil))))
      (pss_cons (ps_try_keep (i := 3) rfl rfl rfl sc_law_told.nd rfl rfl (catch3 ⟨rfl, by decide, .inl x_BadDeed.g⟩ ⟨rfl, by decide, .inl x_BadRow.g⟩ ⟨rfl, by decide, .inl x_BadText.g⟩) (fun W pn xe tk _ => (pss_one (ps_set (i := 1) sc_law_told.nd rfl (.inl rfl) (pe_callS h_row_in.G (hr.mono (by decide)) (by rfl) h_row_in.g h_row_in.kp h_row_in.b (fun σ => passAt tk σ) (pa_cons (pv 0) pa_nil))))) (fun a oe cls d pn _ _ => (pss_one (ps_set (i := 2) sc_law_told.nd rfl (.inl rfl) (pv 3)))))
      (pss_cons (ps_if (pt_cmpR op_isN (pv 2) pe_non (nomark _)) (pss_one (ps_ret (pe_tup (pa_cons pe_str (pa_cons (pe_call h_row_text.G (hr.mono (by decide)) (by rfl) h_row_text.g h_row_text.kp h_row_text.b .nil pass0 (pa_cons (pv 1) pa_nil)) (pa_cons (pe_callB call_len_seq (by rfl) m_len PySem.boot_len (pa_cons (pv 1) pa_nil)) pa_nil)))))) pss_nil)
      (pss_cons (ps_set (i := 4) sc_law_told.nd rfl (.inl rfl) (pe_and (pe_callB (call_isx x_BadText.T) (by rfl) m_isinstance (by decide +kernel) (pa_cons (pv 2) (pa_cons (pe_glob (v := .ref _) (by rfl) x_BadText.g rfl) pa_nil))) (pe_one (pe_callB (call_isx x_BadText.T) (by rfl) m_isinstance (by decide +kernel) (pa_cons (pv 2) (pa_cons (pe_bltn (v := .ty "ValueError") (by rfl) m_ValueError (by decide +kernel) rfl) pa_nil))))))
      (pss_cons (ps_set (i := 4) sc_law_told.nd rfl (.inl rfl) (pe_and (pv 4) (pe_one (pe_not (pe_callB (call_isxT x_BadText.T) (by rfl) m_isinstance (by decide +kernel) (pa_cons (pv 2) (pa_cons (pe_tup (pa_cons (pe_glob (v := .ref _) (by rfl) x_BadDeed.g rfl) (pa_cons (pe_glob (v := .ref _) (by rfl) x_BadRow.g rfl) pa_nil))) pa_nil)))))))
      (pss_one (ps_ret (pe_ifExp (pt_val (pv 4)) (pe_tup (pa_cons pe_str (pa_cons (pe_xat x_BadText.T (pv 2)) pa_nil))) pe_non)))))))), ?_⟩
    refine q_asgTU (eu_tup (ea_cons (ev_c (v := .non)) (ea_cons (ev_c (v := .non)) ea_nil)) (by show 2 ≤ 100000; decide)) fun T H1 hT n0 gT => ?_
    refine ⟨T, _, rfl, st_of gT, rfl, _, _, rfl, _, _, rfl, rfl, ?_⟩
    refine s_at [some (.str (mkS l)), some .non, some .non, none, none] rfl ?_
    refine ⟨.str (mkS l), rfl, l, rfl, by omega, fun hall v H2 e2 hv => ?_, fun i u hi hb hlt d H2 e2 hd => ⟨k1, fun a ha => ?_⟩⟩
    · -- a row
      try dsimp only
      refine s_at [some (.str (mkS l)), some v, some .non, none, none] rfl ?_
      have tb := text_back hall
      have e02 := n0.trans e2
      refine q_when (b := true) (et_is (et_test (ev_op (x := .non) (y := .non) (z := .bl (decide (V.non = V.non))) (ev_var rfl) ev_c fun H3 e3 Q3 k3 => ⟨rfl, k3 H3 (Ex.refl _)⟩)) (decide_eq_true rfl)) (fun _ H3 e3 => ?_) (fun z => by cases z)
      have few := read_few (by omega : l.length ≤ 1000) hall
      have wm := words_many l
      have hn : ((wordsS l).map beastV).length = (wordsS l).length := List.length_map ..
      have hd := bad_none hall
      refine s_retU (xs := toldT l) ?_ fun p H4 hp e4 g4 => q p H4 (fresh_back (e02.trans e3) hp) ((e02.trans e3).trans e4) g4
      have et : toldT l = [.str "row", .str (mkS l), .int ((wordsS l).length : Int)] := by
        unfold toldT
        rw [hd]
      rw [et]
      refine eu_tup (ea_cons ev_c (ea_cons (ev_is (ev_call (ea_cons (ev_var rfl) ea_nil) (fun H4 e4 Q4 k4 E4 => ⟨v, (wordsS l).map beastV, rfl, hv.ex (e3.trans e4), by rw [hn]; omega, few, by rw [tb]; omega, fun H5 e5 => k4 H5 e5⟩)) (by rw [tb])) (ea_cons (ev_is (ev_lenR (K := K) (ev_var rfl) (hv.ex e3)) (by rw [hn])) ea_nil))) (by show 3 ≤ 100000; decide)
    · -- a word that isn't so written
      have e2 := n0.trans e2
      refine ⟨.ref a, rfl, ?_⟩
      refine g_at [some (.str (mkS l)), some .non, some (.ref a), some (.ref a), none] rfl ?_
      dsimp only
      have n1 := Ex.new (o := .xd [(("at" : Str), V.int (i : Int))]) hd
      have n2 := Ex.new (o := ExT (.ref C1) (some d) a) ha
      have g1 : (upd (upd H2 d (.xd [(("at" : Str), V.int (i : Int))])) a (ExT (.ref C1) (some d) a)) a = some (ExT (.ref C1) (some d) a) := upd_same
      have g2 : (upd (upd H2 d (.xd [(("at" : Str), V.int (i : Int))])) a (ExT (.ref C1) (some d) a)) d = some (.xd [(("at" : Str), V.int (i : Int))]) := n2 _ _ upd_same
      have e3 := e2.trans (n1.trans n2)
      generalize upd (upd H2 d (.xd [(("at" : Str), V.int (i : Int))])) a (ExT (.ref C1) (some d) a) = H3 at g1 g2 e3 ⊢
      refine s_at [some (.str (mkS l)), some .non, some (.ref a), none, none] rfl ?_
      refine q_when (b := false) (et_is (et_test (ev_op (x := .ref a) (y := .non) (z := .bl (decide (V.ref a = V.non))) (ev_var rfl) ev_c fun H4 e4 Q4 k4 => ⟨rfl, k4 H4 (Ex.refl _)⟩)) (decide_eq_false fun z => by cases z)) (fun z => by cases z) fun _ H4 e4 => ?_
      have g1 := e4 _ _ g1
      have g2 := e4 _ _ g2
      have e4 := e3.trans e4
      refine q_asg (v := .bl (true && true)) (ev_andV (ev_isx (ea_cons (ev_var rfl) (ea_cons ev_c ea_nil)) g1 g2 (.own C1) k2) fun _ => ev_isx (ea_cons (ev_var rfl) (ea_cons ev_c ea_nil)) g1 g2 (.ty "ValueError") k3) fun H5 e5 => ?_
      refine s_at [some (.str (mkS l)), some .non, some (.ref a), none, some (.bl true)] rfl ?_
      refine q_asg (v := .bl (true && !false)) (ev_andV (ev_var rfl) fun _ => ev_notV (fun H6 e6 Q6 k6 => ?_)) fun H6 e6 => ?_
      · exact ⟨.ref a, rfl, by show 2 ≤ sizeLine; decide, fun tp htp => .inr ⟨a, d, tp, _, _, [.ref C2, .ref C3], false, rfl, Ex.new htp _ _ (e6 _ _ (e5 _ _ g1)), Ex.new htp _ _ (e6 _ _ (e5 _ _ g2)), upd_same, .cons (.own C2) (.cons (.own C3) .nil), k4, k6 _ (Ex.new htp)⟩⟩
      refine s_at [some (.str (mkS l)), some .non, some (.ref a), none, some (.bl true)] rfl ?_
      have g1 := e6 _ _ (e5 _ _ g1)
      have g2 := e6 _ _ (e5 _ _ g2)
      have e06 := e4.trans (e5.trans e6)
      have et : toldT l = [.str "bad", .int (i : Int)] := by
        unfold toldT
        rw [bad_some hi hb hlt]
      refine ret_run ?_
      refine et_B (ev_var (i := 4) (v := .bl true) (σ := [some (.str (mkS l)), some .non, some (.ref a), none, some (.bl true)]) rfl) H6 (Ex.refl _) _ fun H7 e7 => ?_
      refine eu_tup (σ := [some (.str (mkS l)), some .non, some (.ref a), none, some (.bl true)]) (ea_cons (ev_c (v := .str "bad")) (ea_cons (ev_xat (ev_var (i := 2) rfl) (e7 _ _ g1) (e7 _ _ g2) lk_one) ea_nil)) (by show 2 ≤ 100000; decide) H7 (Ex.refl _) _ fun p H8 hp e8 g8 => ?_
      rw [← et] at g8
      exact q p H8 (fresh_back (e06.trans e7) hp) ((e06.trans e7).trans e8) g8
end
end K54
set_option maxHeartbeats 4000000
namespace HH
open PySem PySem.Spec PyProof.Rows L2 Evl RZ TL NumText
theorem tame_tall {b : Int × Int} (h : Tame b) : Tall b := by
  obtain ⟨h1, h2, h3, h4⟩ := h
  have e : (10 : Int) ^ 12 = 1000000000000 := by decide
  rw [e] at h1 h2 h4
  exact ⟨by omega, by omega, h3, by omega⟩
theorem tame_text {rs : HH.Row} (h : ∀ b ∈ rs, Tame b) (hl : rs.length ≤ 6) : (rowT rs).length ≤ 200 := by
  have hT : ∀ n : Int, n.natAbs < 10 ^ 12 → (numT n).length ≤ 13 := fun n hn => by
    have h1 : (numL n.natAbs).length ≤ 12 := numL_len (by decide) hn
    unfold numT
    rw [List.length_append]
    split
    · show 1 + _ ≤ 13
      omega
    · show 0 + _ ≤ 13
      omega
  have h2 := sumS_le (rs.map beastT) (m := 27) fun l hl => by
    obtain ⟨b, hb, rfl⟩ := List.mem_map.mp hl
    obtain ⟨t1, t2, t3, t4⟩ := h b hb
    have e : (10 : Int) ^ 12 = 1000000000000 := by decide
    have e' : (10 : Nat) ^ 12 = 1000000000000 := by decide
    rw [e] at t1 t2 t4
    have a1 := hT b.1 (by omega)
    have a2 := hT b.2 (by omega)
    unfold beastT
    rw [List.length_append, List.length_append]
    show _ + (1 + _) ≤ 27
    omega
  have h1 := joinL_len [32] (rs.map beastT)
  rw [List.length_map] at h1 h2
  have e : rs.length * ([32] : List Nat).length = rs.length := Nat.mul_one _
  show (joinL [32] (rs.map beastT)).length ≤ _
  omega
section
variable {K : PySem.W.Frag} {σ : L2.St} {H : Hp} {ta tb te te2 : TE} {D : Ends} {tz : TS}
theorem q_runM {i : Nat} {M : V → Hp → Prop} (h : ∀ R : VK, (∀ x H1, M x H1 → R x H1) → te σ H R) (k : ∀ x H1, M x H1 → tz D (σ.set i (some x)) H1) : tSeq (tAsg te (gName i)) tz D σ H := h _ k
theorem et_badNil {a : Addr} {n : Nat} {f : Nat → Bool} (h : Ev te σ H (.ref a)) (ha : H a = some (.lst (given n f (fun k => .int (k : Int))))) : EvT (tTest (tOp (rNeD K) te (tLst tNil))) σ H (!(given n f (fun k => V.int (k : Int))).isEmpty) := by
  have e : given n f (fun k => V.int (k : Int)) = (((List.range n).filter f).map fun (k : Nat) => (k : Int)).map V.int := by
    unfold given
    rw [List.map_map]
    rfl
  rw [e] at ha ⊢
  exact et_neNil (K := K) (k := 0) h (sq_of ha) (dp_ints _) (nice_ints _) (by decide)
theorem told_in {a : Addr} {ws : List (List Nat)} {j : Nat} {vs : List Nat} (h : Ev te σ H (.ref a)) (ha : H a = some (.lst (strsV ws))) (hl : ws.length ≤ 1000) (hw : ∀ x, wipe ((wipe σ vs).set j (some x)) vs = wipe σ vs)
    (he : ∀ w ∈ ws, ∀ H1, Ex H H1 → ∀ Q : VK, (∀ t H2, H1 t = none → Ex H1 H2 → H2 t = some (.tup (toldT w)) → Q (.ref t) H2) → te2 ((wipe σ vs).set j (some (.str (mkS w)))) H1 Q) :
    ∀ H1, Ex H H1 → ∀ Q : VK, (∀ q us H2, H1 q = none → Ex H1 H2 → H2 q = some (.lst us) → All2 (fun x w => ∃ t, x = V.ref t ∧ H2 t = some (.tup (toldT w))) us ws → Q (.ref q) H2) → tLc (iList K te) (gName j) tYes te2 vs σ H1 Q := fun H0 e0 Q q => by
  refine h H0 e0 _ fun H1 e1 => ⟨a, rfl, ⟨_, sq_of ((e0.trans e1) _ _ ha)⟩, fun Dl hDl => ?_⟩
  have ga := (e0.trans e1) _ _ ha
  have sl : (strsV ws).length = ws.length := List.length_map ..
  refine in_it (walk_list (xs := strsV ws)) (fun i H4 => Ex H1 H4 ∧ ∃ us, H4 Dl = some (.lst us) ∧ All2 (fun x w => ∃ t, x = V.ref t ∧ H4 t = some (.tup (toldT w))) us (ws.take i)) ⟨Ex.new hDl, [], upd_same, All2.nil⟩ (fun i H2 _ p => sq_of (p.1 _ _ ga)) (fun i x H4 H5 hi p y => ?_) (fun H4 p => ?_)
  · obtain ⟨rfl, hx⟩ := y
    obtain ⟨r1, us, r2, r3⟩ := p
    rw [sl] at hi
    obtain ⟨w, hwk⟩ : ∃ w, ws[i]? = some w := ⟨_, List.getElem?_eq_getElem hi⟩
    have hx : x = V.str (mkS w) := by
      have h2 : (strsV ws)[i]? = some (V.str (mkS w)) := by
        unfold strsV
        rw [List.getElem?_map, hwk]
        rfl
      rw [h2] at hx
      exact (Option.some.inj hx).symm
    subst hx
    refine ⟨hw _, ?_⟩
    refine et_yes H5 (Ex.refl _) _ fun H6 e6 => ?_
    rw [if_pos rfl]
    refine he w (List.mem_of_getElem? hwk) H6 (((e0.trans e1).trans r1).trans e6) _ fun t H7 ht e7 gt => ?_
    have e57 := e6.trans e7
    have gD8 := e57 _ _ r2
    have ul := All2.len r3
    rw [List.length_take] at ul
    refine ⟨us, gD8, sz_lt (by omega), Ex.mut (r1.trans e57) hDl, us ++ [.ref t], upd_same, ?_⟩
    rw [List.take_succ, hwk]
    have keep : ∀ c o, H7 c = some (.tup o) → (upd H7 Dl (.lst (us ++ [.ref t]))) c = some (.tup o) := fun c o hc => by
      have : c ≠ Dl := fun z => by rw [z, gD8] at hc; cases hc
      rw [upd_ne this]
      exact hc
    exact All2.app (All2.mono (fun x w ⟨t', hx, ht'⟩ => ⟨t', hx, keep _ _ (e57 _ _ ht')⟩) r3) (.cons ⟨t, rfl, keep _ _ gt⟩ .nil)
  · obtain ⟨r1, us, r2, r3⟩ := p
    rw [sl, List.take_length] at r3
    exact q Dl us H4 (fresh_back e1 hDl) (e1.trans r1) r2 r3
end
def badD : PyData := .tuple [.str "bad", .int 0]
theorem nice_bad (n : Nat) : Nice 2 (.list (List.replicate n badD)) := nice_list fun d hd => by
  rw [List.eq_of_mem_replicate hd]
  refine nice_tuple (k := 0) fun y hy => ?_
  simp only [List.mem_cons, List.not_mem_nil, or_false] at hy
  rcases hy with rfl | rfl
  · exact nice_str 0 _ (by decide +kernel)
  · exact nice_int 0 _
theorem dp_bad {K : PySem.W.Frag} {H : Hp} : ∀ {us : List V}, (∀ x ∈ us, ∃ t, x = V.ref t ∧ H t = some (.tup [.str "bad", .int 0])) → DpAll K H us (List.replicate us.length badD)
  | [], _ => .nil
  | x :: us, h => by
    obtain ⟨t, rfl, ht⟩ := h x (List.mem_cons_self ..)
    exact .cons (.tup (st_of ht) (.cons (.str _) (.cons (.int 0) .nil))) (dp_bad fun y hy => h y (List.mem_cons_of_mem _ hy))
def oddS : List (List Nat) := [[45, 48, 58, 49], [48, 48, 58, 49], [49, 58, 45, 49], [43, 49, 58, 49], [49, 58, 49, 10], [49, 32, 49, 58, 49], [49, 95, 48, 58, 49], [49, 58, 49, 95, 48], [49, 58, 43, 49]]
theorem odd_bad : ∀ w ∈ oddS, firstBad w = some 0 := by decide +kernel
def farO : List Nat := (List.replicate 23 [55, 58, 49, 32]).flatten ++ [49, 95, 48, 58, 49]
theorem far_bad : firstBad farO = some 23 := by decide +kernel
theorem nil_bad : firstBad [] = some 0 := by decide +kernel
theorem rep_23 : repS (mkS [55, 58, 49, 32]) 23 = mkS (List.replicate 23 [55, 58, 49, 32]).flatten := rfl
end HH
set_option maxHeartbeats 4000000
namespace K54
open PySem PySem.Spec PyProof.Rows L2 Evl HH RZ TL NumText
section
variable {P : Program} {w : World} {K : PySem.W.Frag} {mg : Str → Option Value} {base : Heap}
theorem ok_law_right {f f1 f2 f3 f4 f5 f6 f7 : Addr} {fd fd1 fd2 fd3 fd4 fd5 fd6 fd7 : FuncData} (F : FnP K "_law_right" s_law_right f fd) (g : mg "_law_right" = some (.ref f)) (b : Binds K fd ["_law_box"] []) (h_law_row : Has P w K mg base 3 "_law_row" ["_law_box", "_law_most"] (spRow K) f1 fd1) (h_law_spoilt : Has P w K mg base 3 "_law_spoilt" ["_law_box", "_law_spelt_here"] (spSpoilt K) f2 fd2) (h_law_spelt : Has P w K mg base 2 "_law_spelt" ["_law_row_here"] (spSpeltS K) f3 fd3) (h_law_take : Has P w K mg base 1 "_law_take" ["_law_box", "_law_many"] spTake f4 fd4) (h_law_is_beast : Has P w K mg base 2 "_law_is_beast" ["_law_word"] spBeastIsS f5 fd5) (h_law_same : Has P w K mg base 4 "_law_same" ["_law_found", "_law_due"] (spSame K 4) f6 fd6) (h_law_told : Has P w K mg base 5 "_law_told" ["_law_spelt_here"] (spTold K) f7 fd7) (m_range : mg "range" = none) (m_enumerate : mg "enumerate" = none) (m_len : mg "len" = none) : Has P w K mg base 6 "_law_right" ["_law_box"] spRight f fd := by
  refine ⟨F.ok sc_law_right (fun vs H Q E h => ?_) (fun cdv A outer s H vs Q E hr h => ?_), g, F.kp, b⟩
  · obtain ⟨p, rfl, _⟩ := h
    rfl
  · obtain ⟨p, rfl, hb, q⟩ := h
    refine ⟨_, PSs.nox (pss_cons (ps_set (i := 1) sc_law_right.nd rfl (.inl rfl) (pe_call h_law_row.G (hr.mono (by decide)) (by rfl) h_law_row.g h_law_row.kp h_law_row.b .nil pass0 (pa_cons (pv 0) (pa_cons pe_int pa_nil))))
      (pss_cons (ps_for PassesOwn.never rfl (pi_range1 (by rfl) m_range (pa_cons pe_int pa_nil)) (pg_name (i := 2) sc_law_right.nd rfl (Or.inl rfl))
        (pss_cons (ps_set (i := 3) sc_law_right.nd rfl (.inl rfl) (pe_call h_law_spoilt.G (hr.mono (by decide)) (by rfl) h_law_spoilt.g h_law_spoilt.kp h_law_spoilt.b .nil pass0 (pa_cons (pv 0) (pa_cons (pe_call h_law_spelt.G (hr.mono (by decide)) (by rfl) h_law_spelt.g h_law_spelt.kp h_law_spelt.b .nil pass0 (pa_cons (pv 1) pa_nil)) pa_nil))))
      (pss_cons (ps_set (i := 3) sc_law_right.nd rfl (.inl rfl) (pe_ifExp (pt_cmpR op_eq (pe_call h_law_take.G (hr.mono (by decide)) (by rfl) h_law_take.g h_law_take.kp h_law_take.b .nil pass0 (pa_cons (pv 0) (pa_cons pe_int pa_nil))) pe_int (nomark _)) (pe_call h_law_spoilt.G (hr.mono (by decide)) (by rfl) h_law_spoilt.g h_law_spoilt.kp h_law_spoilt.b .nil pass0 (pa_cons (pv 0) (pa_cons (pv 3) pa_nil))) (pv 3)))
      (pss_cons (ps_set (i := 4) sc_law_right.nd rfl (.inl rfl) (pe_m1 PySem.F.slot_str_split PySem.F.type_str_split mt_split (pv 3) pe_str))
      (pss_cons (ps_setLc (i := 5) (own := [("_law_at", 8), ("_law_word", 9)]) (g := gTup K 2 (gCons (gName 8) (gCons (gName 9) gNil))) (by rfl) sc_law_right.nd rfl rfl (sw_true rfl rfl rfl (by decide +kernel)) (pi_enum (by rfl) m_enumerate (pa_cons (pv 4) pa_nil)) (blkOk_by (own := [("_law_at", 8), ("_law_word", 9)]) (N := ["_law_box", "_law_row_here", "_law_turn", "_law_spelt_here", "_law_words", "_law_bad", "_law_due", "_law_odd", "_law_at", "_law_word"]) (sc := defScope s_law_right) (by decide +kernel)) (fun _ _ _ _ _ => (pg_tup rfl (pgs_cons (pg_name (i := 8) sc_law_right.nd rfl (Or.inl rfl)) (pgs_cons (pg_name (i := 9) sc_law_right.nd rfl (Or.inl rfl)) pgs_nil)))) (fun _ _ _ _ _ => (pts_one (pt_not (pt_val (pe_call h_law_is_beast.G (hr.mono (by decide)) (by rfl) h_law_is_beast.g h_law_is_beast.kp h_law_is_beast.b .nil pass0 (pa_cons (pv 9) pa_nil)))))) (fun _ _ _ _ _ => (pv 8)))
      (pss_cons (ps_set (i := 6) sc_law_right.nd rfl (.inl rfl) (pe_ifExp (pt_cmpR (op_neD hr.units) (pv 5) (pe_lst pa_nil) (nomark _)) (pe_tup (pa_cons pe_str (pa_cons (pe_ix ix_list (pv 5) pe_int (fun _ _ => rfl)) pa_nil))) (pe_tup (pa_cons pe_str (pa_cons (pv 3) (pa_cons (pe_callB call_len_seq (by rfl) m_len PySem.boot_len (pa_cons (pv 4) pa_nil)) pa_nil))))))
      (pss_one (ps_if (pt_not (pt_val (pe_call h_law_same.G (hr.mono (by decide)) (by rfl) h_law_same.g h_law_same.kp h_law_same.b .nil pass0 (pa_cons (pe_call h_law_told.G (hr.mono (by decide)) (by rfl) h_law_told.g h_law_told.kp h_law_told.b .nil pass0 (pa_cons (pv 3) pa_nil)) (pa_cons (pv 6) pa_nil))))) (pss_one (ps_ret pe_bl)) pss_nil))))))))
      (pss_cons (ps_set (i := 3) sc_law_right.nd rfl (.inl rfl) (pe_call h_law_spelt.G (hr.mono (by decide)) (by rfl) h_law_spelt.g h_law_spelt.kp h_law_spelt.b .nil pass0 (pa_cons (pv 1) pa_nil)))
      (pss_cons (ps_set (i := 7) sc_law_right.nd rfl (.inl rfl) (pe_lst (pa_cons pe_str (pa_cons pe_str (pa_cons pe_str (pa_cons pe_str (pa_cons pe_str (pa_cons pe_str (pa_cons pe_str (pa_cons pe_str (pa_cons pe_str pa_nil)))))))))))
      (pss_cons (ps_if (pt_cmpR (op_neD hr.units) (pe_lc (own := [("_law_word", 9)]) (g := gName 9) (by rfl) sc_law_right.nd (pi_list (pv 7)) (blkOk_by (own := [("_law_word", 9)]) (N := ["_law_box", "_law_row_here", "_law_turn", "_law_spelt_here", "_law_words", "_law_bad", "_law_due", "_law_odd", "_law_at", "_law_word"]) (sc := defScope s_law_right) (by decide +kernel)) (fun _ _ _ _ _ => (pg_name (i := 9) sc_law_right.nd rfl (Or.inl rfl))) (fun _ _ _ _ _ => pts_nil) (fun _ _ _ _ _ => (pe_call h_law_told.G (hr.mono (by decide)) (by rfl) h_law_told.g h_law_told.kp h_law_told.b .nil pass0 (pa_cons (pv 9) pa_nil)))) (pe_op op_rep (pe_lst (pa_cons (pe_tup (pa_cons pe_str (pa_cons pe_int pa_nil))) pa_nil)) (pe_callB call_len_seq (by rfl) m_len PySem.boot_len (pa_cons (pv 7) pa_nil))) (nomark _)) (pss_one (ps_ret pe_bl)) pss_nil)
      (pss_cons (ps_if (pt_not (pt_val (pe_call h_law_same.G (hr.mono (by decide)) (by rfl) h_law_same.g h_law_same.kp h_law_same.b .nil pass0 (pa_cons (pe_call h_law_told.G (hr.mono (by decide)) (by rfl) h_law_told.g h_law_told.kp h_law_told.b .nil pass0 (pa_cons (pe_op op_add_str (pe_op op_repS pe_str pe_int) pe_str) pa_nil)) (pa_cons (pe_tup (pa_cons pe_str (pa_cons pe_int pa_nil))) pa_nil))))) (pss_one (ps_ret pe_bl)) pss_nil)
      (pss_one (ps_ret (pe_call h_law_same.G (hr.mono (by decide)) (by rfl) h_law_same.g h_law_same.kp h_law_same.b .nil pass0 (pa_cons (pe_lst (pa_cons (pe_call h_law_told.G (hr.mono (by decide)) (by rfl) h_law_told.g h_law_told.kp h_law_told.b .nil pass0 (pa_cons pe_str pa_nil)) (pa_cons (pe_call h_law_told.G (hr.mono (by decide)) (by rfl) h_law_told.g h_law_told.kp h_law_told.b .nil pass0 (pa_cons (pv 3) pa_nil)) pa_nil))) (pa_cons (pe_lst (pa_cons (pe_tup (pa_cons pe_str (pa_cons pe_int pa_nil))) (pa_cons (pe_tup (pa_cons pe_str (pa_cons (pv 3) (pa_cons (pe_callB call_len_seq (by rfl) m_len PySem.boot_len (pa_cons (pv 1) pa_nil)) pa_nil)))) pa_nil))) pa_nil))))))))))), ?_⟩
    refine q_run ?_
    refine ⟨.ref p, rfl, p, 6, 0, rfl, by decide, by decide, hb, lim_ok (by decide), fun v H1 rs x1 b1 hv r0 r6 tame => ?_⟩
    refine s_at [some (.ref p), some v, none, none, none, none, none, none, none, none] rfl ?_
    have tx := tame_text tame r6
    have pl : Plain rs := tall_plain r0 (by omega) fun b hb => tame_tall (tame b hb)
    obtain ⟨bl1, hbl1⟩ := b1.lst
    have rowE : ∀ H', ExB p H1 H' → RowAt K H' v rs := fun H' x => by
      obtain ⟨a, us, rfl, s1, s2⟩ := hv
      exact ⟨a, us, rfl, x.t hbl1 s1, s2.exB x hbl1⟩
    refine q_forR1 (n := 20) (ea_cons ev_c ea_nil) ⟨by decide, by decide⟩ (fun i σ' H' => ∃ (y2 y3 y4 y5 y6 : Option V), σ' = [some (.ref p), some v, y2, y3, y4, y5, y6, none, none, none] ∧ ExB p H1 H' ∧ Bx H' p (100 + 30 * i)) (fun H2 e2 => ⟨none, none, none, none, none, rfl, .of e2, b1.ex e2⟩) (fun i σ' H2 hi hW => ?_) (fun σ' H2 hW => ?_)
    · obtain ⟨y2, y3, y4, y5, y6, rfl, x2, b2⟩ := hW
      have hi : i < 20 := by omega
      refine s_at [some (.ref p), some v, some (.int (i : Int)), y3, y4, y5, y6, none, none, none] rfl ?_
      refine q_run ?_
      refine ⟨.ref p, rfl, v, rfl, v, rs, rfl, rowE _ x2, by omega, pl.2.2.1, pl.2.2.2, by omega, fun H3 e3 => ?_⟩
      refine ⟨p, rowT rs, 100 + 30 * i, rfl, by omega, b2.ex e3, lim_ok (by omega), fun m1 H4 hm1 x4 b4 => ?_⟩
      refine s_at [some (.ref p), some v, some (.int (i : Int)), some (.str (mkS m1)), y4, y5, y6, none, none, none] rfl ?_
      have x04 : ExB p H1 H4 := (x2.trans (.of e3)).trans x4
      refine q_runM (M := fun x H6 => ∃ m2 : List Nat, x = .str (mkS m2) ∧ m2.length ≤ 950 ∧ ExB p H1 H6 ∧ Bx H6 p (100 + 30 * i + 25)) (fun R hR => ?_) (fun x H6 hM => ?_)
      · refine ⟨.ref p, rfl, p, 2, 100 + 30 * i + 10, rfl, by decide, by decide, b4, lim_ok (by omega), fun r H5 s0 s1 x5 b5 => ?_⟩
        refine ⟨rfl, _, rfl, ite2 (fun hc => ?_) (fun hc => ?_)⟩
        · refine ⟨.ref p, rfl, .str (mkS m1), rfl, p, m1, 100 + 30 * i + 11, rfl, by omega, b5, lim_ok (by omega), fun m2 H6 hm2 x6 b6 => hR _ _ ⟨m2, rfl, by omega, (x04.trans x5).trans x6, b6.le (by omega)⟩⟩
        · exact ⟨.str (mkS m1), rfl, hR _ _ ⟨m1, rfl, by omega, x04.trans x5, b5.le (by omega)⟩⟩
      · obtain ⟨m2, rfl, hm2, x06, b6⟩ := hM
        refine s_at [some (.ref p), some v, some (.int (i : Int)), some (.str (mkS m2)), y4, y5, y6, none, none, none] rfl ?_
        have wm := words_many m2
        refine q_asgL (el_words (ev_var rfl) (by omega)) fun wq H7 hwq e7 g7 => ?_
        refine s_at [some (.ref p), some v, some (.int (i : Int)), some (.str (mkS m2)), some (.ref wq), y5, y6, none, none, none] rfl ?_
        refine q_asgL (el_enumS (K := K) (badAt m2) (ev_var rfl) g7 (by omega) (fun x y => rfl) (fun x y => rfl) (fun k x H8 e8 hk => et_is (et_not (et_B (ev_call (ea_cons (ev_var rfl) ea_nil) (sp_beastIsS (by have := words_each (List.mem_of_getElem? hk); omega))))) (by
          unfold badAt
          rw [show (wordsS m2).getD k [] = x by simp [List.getD, hk]]))) fun bq H8 hbq e8 g8 => ?_
        refine s_at [some (.ref p), some v, some (.int (i : Int)), some (.str (mkS m2)), some (.ref wq), some (.ref bq), y6, none, none, none] rfl ?_
        have hl := bad_list m2
        have lenW : ∀ H9, Ex H8 H9 → Ev (tCB (rLenS K) (tCons (tVar 4) tNil)) [some (.ref p), some v, some (.int (i : Int)), some (.str (mkS m2)), some (.ref wq), some (.ref bq), y6, none, none, none] H9 (.int ((wordsS m2).length : Int)) := fun H9 e9 => by
          have := ev_len (K := K) (σ := [some (.ref p), some v, some (.int (i : Int)), some (.str (mkS m2)), some (.ref wq), some (.ref bq), y6, none, none, none]) (H := H9) (ev_var (i := 4) rfl) (sq_of (e9 _ _ (e8 _ _ g7)))
          rw [show (strsV (wordsS m2)).length = (wordsS m2).length from List.length_map ..] at this
          exact this
        refine q_runM (M := fun x H10 => ∃ t, x = .ref t ∧ Ex H8 H10 ∧ H10 t = some (.tup (toldT m2))) (fun R hR => ?_) (fun x H10 hM => ?_)
        · refine et_badNil (K := K) (σ := [some (.ref p), some v, some (.int (i : Int)), some (.str (mkS m2)), some (.ref wq), some (.ref bq), y6, none, none, none]) (te := tVar 5) (ev_var rfl) g8 H8 (Ex.refl _) _ fun H9 e9 => ?_
          cases hf : firstBad m2 with
          | none =>
            rw [hf] at hl
            have hnil : given (wordsS m2).length (badAt m2) (fun k => V.int (k : Int)) = [] := List.head?_eq_none_iff.mp hl
            rw [hnil]
            have et : toldT m2 = [.str "row", .str (mkS m2), .int ((wordsS m2).length : Int)] := by
              unfold toldT
              rw [hf]
            refine ite2 (fun hc => by cases hc) (fun hc => ?_)
            refine eu_tup (σ := [some (.ref p), some v, some (.int (i : Int)), some (.str (mkS m2)), some (.ref wq), some (.ref bq), y6, none, none, none]) (ea_cons (ev_c (v := .str "row")) (ea_cons (ev_var (i := 3) rfl) (ea_cons (lenW H9 e9) ea_nil))) (by show 3 ≤ 100000; decide) H9 (Ex.refl _) _ fun t H10 ht e10 g10 => ?_
            rw [← et] at g10
            exact hR _ _ ⟨t, rfl, e9.trans e10, g10⟩
          | some k =>
            rw [hf] at hl
            obtain ⟨r, hr⟩ : ∃ r, given (wordsS m2).length (badAt m2) (fun k => V.int (k : Int)) = V.int (k : Int) :: r := by
              cases hg : given (wordsS m2).length (badAt m2) (fun k => V.int (k : Int)) with
              | nil => rw [hg] at hl; cases hl
              | cons x r =>
                rw [hg] at hl
                injection hl with hl
                exact ⟨r, by rw [hl]⟩
            rw [hr]
            have et : toldT m2 = [.str "bad", .int (k : Int)] := by
              unfold toldT
              rw [hf]
            rw [hr] at g8
            refine ite2 (fun hc => ?_) (fun hc => absurd rfl hc)
            refine eu_tup (σ := [some (.ref p), some v, some (.int (i : Int)), some (.str (mkS m2)), some (.ref wq), some (.ref bq), y6, none, none, none]) (ea_cons (ev_c (v := .str "bad")) (ea_cons (ev_op (ev_var (i := 5) rfl) ev_c (rv_ixL (K := K) (sq_of (e9 _ _ g8)) (atI_nat (j := 0) rfl))) ea_nil)) (by show 2 ≤ 100000; decide) H9 (Ex.refl _) _ fun t H10 ht e10 g10 => ?_
            rw [← et] at g10
            exact hR _ _ ⟨t, rfl, e9.trans e10, g10⟩
        · obtain ⟨t, rfl, e10, g10⟩ := hM
          refine s_at [some (.ref p), some v, some (.int (i : Int)), some (.str (mkS m2)), some (.ref wq), some (.ref bq), some (.ref t), none, none, none] rfl ?_
          have e610 := (e7.trans e8).trans e10
          refine s_when (b := false) (et_is (et_not (et_B (b := true) (fun H11 e11 Q11 k11 => ?_))) rfl) (fun z => by cases z) fun _ H11 e11 => ⟨_, _, _, _, _, rfl, x06.trans (.of (e610.trans e11)), (b6.ex (e610.trans e11)).le (by omega)⟩
          refine ⟨.str (mkS m2), rfl, m2, rfl, hm2, fun t2 H12 ht2 e12 g12 => ?_⟩
          exact ⟨.ref t, rfl, .ref t2, .ref t, rfl, alike_tupV (d := 2) (st_of g12) (st_of ((e11.trans e12) _ _ g10)) (by have := toldT_len m2; omega) (toldT_flat m2), fun H13 e13 => k11 H13 (e12.trans e13)⟩
    · obtain ⟨y2, y3, y4, y5, y6, rfl, x2, b2⟩ := hW
      refine q_run ?_
      refine ⟨v, rfl, v, rs, rfl, rowE _ x2, by omega, pl.2.2.1, pl.2.2.2, by omega, fun H3 e3 => ?_⟩
      refine s_at [some (.ref p), some v, y2, some (.str (mkS (rowT rs))), y4, y5, y6, none, none, none] rfl ?_
      refine q_asgL (xs := strsV oddS) (el_lst (ea_cons ev_c (ea_cons ev_c (ea_cons ev_c (ea_cons ev_c (ea_cons ev_c (ea_cons ev_c (ea_cons ev_c (ea_cons ev_c (ea_cons ev_c ea_nil))))))))) (by show 9 ≤ 100000; decide)) fun oq H4 hoq e4 g4 => ?_
      refine s_at [some (.ref p), some v, y2, some (.str (mkS (rowT rs))), y4, y5, y6, some (.ref oq), none, none] rfl ?_
      have e34 := e3.trans e4
      refine q_when (b := false) (et_test (fun H5 e5 Q5 k5 => ?_)) (fun z => by cases z) fun _ H5 e5 => ?_
      · refine told_in (K := K) (σ := [some (.ref p), some v, y2, some (.str (mkS (rowT rs))), y4, y5, y6, some (.ref oq), none, none]) (j := 9) (vs := [9]) (te := tVar 7) (te2 := tCall (spTold K) [] E0 (tCons (tVar 9) tNil)) (H := H4) (ws := oddS) (ev_var rfl) g4 (by decide) (fun x => rfl) (fun u hu H6 e6 Q6 q6 => ⟨.str (mkS u), rfl, u, rfl, (by
          have : ∀ u ∈ oddS, u.length ≤ 950 := by decide
          exact this u hu), fun t H7 ht e7 g7 => q6 t H7 ht e7 g7⟩) H5 e5 _ fun c1 us H6 hc1 e6 g6 a6 => ?_
        have ul : us.length = 9 := All2.len a6
        have hus : ∀ x ∈ us, ∃ t, x = V.ref t ∧ H6 t = some (.tup [.str "bad", .int 0]) := fun x hx => by
          obtain ⟨k, hk⟩ := List.getElem?_of_mem hx
          obtain ⟨u, hu, t, rfl, ht⟩ := All2.get a6 hk
          refine ⟨t, rfl, ?_⟩
          rw [ht]
          unfold toldT
          rw [odd_bad u (List.mem_of_getElem? hu)]
          rfl
        refine ⟨by show 2 ≤ sizeLine; decide, fun t1 ht1 => ?_⟩
        have n7 := Ex.new (o := .tup [V.str "bad", .int 0]) ht1
        have g7 : (upd H6 t1 (.tup [V.str "bad", .int 0])) t1 = some (.tup [V.str "bad", .int 0]) := upd_same
        generalize upd H6 t1 (.tup [V.str "bad", .int 0]) = H7 at n7 g7 ⊢
        refine ⟨by show 1 ≤ sizeLine; decide, fun l1 hl1 => ?_⟩
        have n8 := Ex.new (o := .lst [V.ref t1]) hl1
        have g8 : (upd H7 l1 (.lst [V.ref t1])) l1 = some (.lst [V.ref t1]) := upd_same
        generalize upd H7 l1 (.lst [V.ref t1]) = H8 at n8 g8 ⊢
        have e58 := (e6.trans n7).trans n8
        refine ⟨.ref oq, rfl, oq, strsV oddS, rfl, .inl (sq_of ((e5.trans e58) _ _ g4)), ?_⟩
        refine ⟨l1, ((strsV oddS).length : Nat), [V.ref t1], rfl, rfl, g8, by decide, by decide, by show 1 * 9 ≤ sizeLine; decide, fun l2 hl2 => ?_⟩
        have n9 := Ex.new (o := .lst (List.replicate (((strsV oddS).length : Nat) : Int).toNat [V.ref t1]).flatten) hl2
        have g9 : (upd H8 l2 (.lst (List.replicate (((strsV oddS).length : Nat) : Int).toNat [V.ref t1]).flatten)) l2 = some (.lst (List.replicate 9 (V.ref t1))) := by
          rw [upd_same]
          rfl
        generalize upd H8 l2 (.lst (List.replicate (((strsV oddS).length : Nat) : Int).toNat [V.ref t1]).flatten) = H9 at n9 g9 ⊢
        have d1 : DpAll K H9 us (List.replicate 9 badD) := by
          have := dp_bad (K := K) (H := H9) (us := us) fun x hx => by
            obtain ⟨t, rfl, ht⟩ := hus x hx
            exact ⟨t, rfl, ((n7.trans n8).trans n9) _ _ ht⟩
          rw [ul] at this
          exact this
        have d2 : DpAll K H9 (List.replicate 9 (V.ref t1)) (List.replicate 9 badD) := by
          have := dp_bad (K := K) (H := H9) (us := List.replicate 9 (V.ref t1)) fun x hx => by
            rw [List.eq_of_mem_replicate hx]
            exact ⟨t1, rfl, (n8.trans n9) _ _ g7⟩
          rw [List.length_replicate] at this
          exact this
        have nn := nice_bad 9
        refine ⟨.list (List.replicate 9 badD), .list (List.replicate 9 badD), .lst (sq_of (((n7.trans n8).trans n9) _ _ g6)) d1, .lst (sq_of g9) d2, nn.shaped (by decide), nn.shaped (by decide), ?_⟩
        rw [SeqAt.eqv_refl _ nn.1]
        exact k5 H9 (e58.trans n9)
      have e35 := e34.trans e5
      refine q_when (b := false) (et_is (et_not (et_B (b := true) (fun H6 e6 Q6 k6 => ?_))) rfl) (fun z => by cases z) fun _ H6 e6 => ?_
      · refine c_call ?_
        refine c_cons ?_
        refine c_call ?_
        refine c_cons ?_
        refine (ev_catS (σ := [some (.ref p), some v, y2, some (.str (mkS (rowT rs))), y4, y5, y6, some (.ref oq), none, none]) (H := H6) (l := (List.replicate 23 [55, 58, 49, 32]).flatten) (m := [49, 95, 48, 58, 49]) (ev_is (ev_op (x := .str (mkS [55, 58, 49, 32])) (y := .int 23) (z := .str (repS (mkS [55, 58, 49, 32]) 23)) ev_c ev_c fun H1 e Q q => ⟨_, _, rfl, rfl, by decide, by decide, by decide, by decide, q H1 (Ex.refl _)⟩) (by rw [rep_23])) ev_c (by decide)) H6 (Ex.refl _) _ fun H7 e7 => ?_
        refine ⟨farO, rfl, by decide, fun t1 H8 ht1 e8 g8 => ?_⟩
        have g8 : H8 t1 = some (.tup [.str "bad", .int 23]) := by
          rw [g8]
          unfold toldT
          rw [far_bad]
          rfl
        refine ⟨by show 2 ≤ sizeLine; decide, fun t2 ht2 => ?_⟩
        have n9 := Ex.new (o := .tup [V.str "bad", .int 23]) ht2
        exact ⟨.ref t1, .ref t2, rfl, alike_tupV (d := 2) (st_of (n9 _ _ g8)) (st_of upd_same) (by show 2 ≤ 40000; decide) (fun x hx => by
          simp only [List.mem_cons, List.not_mem_nil, or_false] at hx
          rcases hx with rfl | rfl <;> exact True.intro), fun H10 e10 => k6 H10 (((e7.trans e8).trans n9).trans e10)⟩
      have e36 := e35.trans e6
      have x06 : ExB p H H6 := ((x1.trans x2).trans (.of e36))
      refine s_ret (v := .bl true) (fun H7 e7 Q7 k7 => ?_) fun H7 e7 => q H7 (x06.trans (.of e7))
      refine ⟨[], rfl, by decide, fun t1 H8 ht1 e8 g8 => ?_⟩
      refine ⟨.str (mkS (rowT rs)), rfl, rowT rs, rfl, by omega, fun t2 H9 ht2 e9 g9 => ?_⟩
      have g8 : H8 t1 = some (.tup [.str "bad", .int 0]) := by
        rw [g8]
        unfold toldT
        rw [nil_bad]
        rfl
      have hwl : (wordsS (rowT rs)).length = rs.length := by
        rw [words_row pl.1, List.length_map]
      have g9 : H9 t2 = some (.tup [.str "row", .str (mkS (rowT rs)), .int (rs.length : Int)]) := by
        rw [g9]
        unfold toldT
        rw [bad_none (row_fine pl), hwl]
      refine ⟨by show 2 ≤ sizeLine; decide, fun c1 hc1 => ?_⟩
      have n10 := Ex.new (o := .lst [V.ref t1, .ref t2]) hc1
      have g10 : (upd H9 c1 (.lst [V.ref t1, .ref t2])) c1 = some (.lst [V.ref t1, .ref t2]) := upd_same
      generalize upd H9 c1 (.lst [V.ref t1, .ref t2]) = H10 at n10 g10 ⊢
      refine ⟨by show 2 ≤ sizeLine; decide, fun t3 ht3 => ?_⟩
      have n11 := Ex.new (o := .tup [V.str "bad", .int 0]) ht3
      have g11 : (upd H10 t3 (.tup [V.str "bad", .int 0])) t3 = some (.tup [V.str "bad", .int 0]) := upd_same
      generalize upd H10 t3 (.tup [V.str "bad", .int 0]) = H11 at n11 g11 ⊢
      have e711 := ((e8.trans e9).trans n10).trans n11
      have hv11 : RowAt K H11 v rs := (rowE _ (x2.trans (.of (e36.trans (e7.trans e711)))))
      refine (eu_tup (σ := [some (.ref p), some v, y2, some (.str (mkS (rowT rs))), y4, y5, y6, some (.ref oq), none, none]) (ea_cons (ev_c (v := .str "row")) (ea_cons (ev_var (i := 3) rfl) (ea_cons (ev_lenR (K := K) (ev_var (i := 1) rfl) hv11) ea_nil))) (by show 3 ≤ 100000; decide)) H11 (Ex.refl _) _ fun t4 H12 ht4 e12 g12 => ?_
      refine ⟨by show 2 ≤ sizeLine; decide, fun c2 hc2 => ?_⟩
      have n13 := Ex.new (o := .lst [V.ref t3, .ref t4]) hc2
      have g13 : (upd H12 c2 (.lst [V.ref t3, .ref t4])) c2 = some (.lst [V.ref t3, .ref t4]) := upd_same
      generalize upd H12 c2 (.lst [V.ref t3, .ref t4]) = H13 at n13 g13 ⊢
      have e1013 := (n11.trans e12).trans n13
      exact ⟨.ref c1, .ref c2, rfl, alike_2s (d := 3) (sq_of (e1013 _ _ g10)) (sq_of g13) (alike_tupV (d := 1) (st_of (((e9.trans n10).trans e1013) _ _ g8)) (st_of ((e12.trans n13) _ _ g11)) (by show 2 ≤ 40000; decide) (fun x hx => by
          simp only [List.mem_cons, List.not_mem_nil, or_false] at hx
          rcases hx with rfl | rfl <;> exact True.intro)) (alike_tupV (d := 1) (st_of ((n10.trans e1013) _ _ g9)) (st_of (n13 _ _ g12)) (by show 3 ≤ 40000; decide) (fun x hx => by
          simp only [List.mem_cons, List.not_mem_nil, or_false] at hx
          rcases hx with rfl | rfl | rfl <;> exact True.intro)), fun H14 e14 => k7 H14 ((((e8.trans e9).trans n10).trans e1013).trans e14)⟩
theorem ok_law {f f1 f2 f3 : Addr} {fd fd1 fd2 fd3 : FuncData} (F : FnP K "law" s_law f fd) (h_law_folded : Has P w K mg base 1 "_law_folded" ["_law_script", "_law_many"] (spFolded K) f1 fd1) (h_law_dip : Has P w K mg base 1 "_law_dip" ["_law_script", "_law_k"] (spDip K) f2 fd2) (h_law_right : Has P w K mg base 6 "_law_right" ["_law_box"] spRight f3 fd3)
    (m_range : mg "range" = none) (m_len : mg "len" = none) (m_all : mg "all" = none) (m_max : mg "max" = none) : FnOk P w K mg base CX0 7 f fd ["_law_script"] (spLaw K) := by
  refine F.ok sc_law (fun vs H Q E h => ?_) (fun cdv A outer s H vs Q E hr h => ?_)
  · obtain ⟨a, ns, rfl, _⟩ := h
    rfl
  · obtain ⟨a, ns, rfl, hS, hlen, q⟩ := h
    refine ⟨_, PSs.nox (pss_cons (ps_set (i := 1) sc_law.nd rfl (.inr rfl) (pe_call h_law_folded.G (hr.mono (by decide)) (by rfl) h_law_folded.g h_law_folded.kp h_law_folded.b .nil pass0 (pa_cons (pv 0) (pa_cons pe_int pa_nil))))
      (pss_one (ps_ret (pe_callB (cr_all rfl) (by rfl) m_all (by decide +kernel) (pa_cons (pe_lc (own := [("_law_k", 2)]) (g := gName 2) (by rfl) sc_law.nd (pi_range1 (by rfl) m_range (pa_cons (pe_callB (call_max2 rfl) (by rfl) m_max (by decide +kernel) (pa_cons pe_int (pa_cons (pe_callB call_len_seq (by rfl) m_len PySem.boot_len (pa_cons (pv 1) pa_nil)) pa_nil))) pa_nil)) (blkOk_by (own := [("_law_k", 2)]) (N := ["_law_script", "_law_cells", "_law_k"]) (sc := defScope s_law) (by decide +kernel)) (fun _ _ _ _ _ => (pg_name (i := 2) sc_law.nd rfl (Or.inl rfl))) (fun _ _ _ _ _ => pts_nil) (fun _ _ _ _ _ => (pe_call h_law_right.G (hr.mono (by decide)) (by rfl) h_law_right.g h_law_right.kp h_law_right.b .nil pass0 (pa_cons (pe_call h_law_dip.G (hr.mono (by decide)) (by rfl) h_law_dip.g h_law_dip.kp h_law_dip.b .nil pass0 (pa_cons (pv 1) (pa_cons (pv 2) pa_nil))) pa_nil)))) pa_nil))))), ?_⟩
    refine q_call ⟨.ref a, rfl, a, 3, ns, rfl, by decide, by decide, hS, hlen, fun l H1 ms hl e1 hm h1 => ?_⟩
    have hn : 0 ≤ (if ((ms.map V.int).length : Int) > 1 then ((ms.map V.int).length : Int) else 1) ∧ (if ((ms.map V.int).length : Int) > 1 then ((ms.map V.int).length : Int) else 1) ≤ 10 := by
      rw [List.length_map]
      split <;> omega
    refine s_ret (D := { nx := fun _ H' => Q .non H', rt := Q }) (ev_allT (n := (if ((ms.map V.int).length : Int) > 1 then ((ms.map V.int).length : Int) else 1).toNat) ?_) fun H2 e2 => q H2
    have key := el_lcR1 (σ := [some (.ref a), some (.ref l), none]) (H := H1) (ta := tCons (tCB rMax2 (tCons (tC (.int 1)) (tCons (tCB (rLenS K) (tCons (tVar 1) tNil)) tNil))) tNil) (j := 2) (vs := [2]) (t := tYes) (te := tCall spRight [] E0 (tCons (tCall (spDip K) [] E0 (tCons (tVar 1) (tCons (tVar 2) tNil))) tNil)) (fun _ => true) (fun _ => .bl true) (ea_cons (ev_max2 ev_c (ev_len (ev_var rfl) (sq_of h1))) ea_nil) ⟨hn.1, by omega⟩ (fun x => rfl) (fun i H1 e1 hi => et_yes) (fun i H3 e3 hi _ => ?_)
    · have e0 : given (if ((ms.map V.int).length : Int) > 1 then ((ms.map V.int).length : Int) else 1).toNat (fun _ => true) (fun _ => V.bl true) = (List.replicate (if ((ms.map V.int).length : Int) > 1 then ((ms.map V.int).length : Int) else 1).toNat true).map V.bl := by
        rw [given_all _ (fun _ => true)]
        congr 1
        rw [List.eq_replicate_iff]
        refine ⟨by rw [List.length_map, List.length_range], fun b hb => ?_⟩
        obtain ⟨_, _, rfl⟩ := List.mem_map.mp hb
        rfl
      rw [e0] at key
      exact key
    · intro H4 e4 Q4 q4
      refine ⟨.ref l, rfl, .int (i : Int), rfl, l, i, ms, rfl, sq_of ((e3.trans e4) _ _ h1), by omega, fun b H5 hb e5 hx => ?_⟩
      refine ⟨b, rfl, hx, fun H6 x6 => q4 H6 fun c o hc => x6 c o (ne_of_none hc hb) (e5 c o hc)⟩
end
end K54
set_option maxHeartbeats 0
namespace K54
open PySem PySem.Spec PyProof.Rows L2 Evl HH RZ
def d_number_text : He.DefD := ⟨("number_text", none), "number_text", "number_text", defArgs s_number_text, defBody s_number_text, defScope s_number_text, [], []⟩
def d_number_in : He.DefD := ⟨("number_in", none), "number_in", "number_in", defArgs s_number_in, defBody s_number_in, defScope s_number_in, [], []⟩
def d_is_figures : He.DefD := ⟨("is_figures", none), "is_figures", "is_figures", defArgs s_is_figures, defBody s_is_figures, defScope s_is_figures, [], []⟩
def d_is_number_text : He.DefD := ⟨("is_number_text", none), "is_number_text", "is_number_text", defArgs s_is_number_text, defBody s_is_number_text, defScope s_is_number_text, [], []⟩
def d_is_beast_text : He.DefD := ⟨("is_beast_text", none), "is_beast_text", "is_beast_text", defArgs s_is_beast_text, defBody s_is_beast_text, defScope s_is_beast_text, [], []⟩
def d_row_text : He.DefD := ⟨("row_text", none), "row_text", "row_text", defArgs s_row_text, defBody s_row_text, defScope s_row_text, [], []⟩
def d_beast_in : He.DefD := ⟨("beast_in", none), "beast_in", "beast_in", defArgs s_beast_in, defBody s_beast_in, defScope s_beast_in, [], []⟩
def d_row_in : He.DefD := ⟨("row_in", none), "row_in", "row_in", defArgs s_row_in, defBody s_row_in, defScope s_row_in, [], []⟩
def d_law_dip : He.DefD := ⟨("_law_dip", none), "_law_dip", "_law_dip", defArgs s_law_dip, defBody s_law_dip, defScope s_law_dip, [], []⟩
def d_law_take : He.DefD := ⟨("_law_take", none), "_law_take", "_law_take", defArgs s_law_take, defBody s_law_take, defScope s_law_take, [], []⟩
def d_law_folded : He.DefD := ⟨("_law_folded", none), "_law_folded", "_law_folded", defArgs s_law_folded, defBody s_law_folded, defScope s_law_folded, [], []⟩
def d_law_same : He.DefD := ⟨("_law_same", none), "_law_same", "_law_same", defArgs s_law_same, defBody s_law_same, defScope s_law_same, [], []⟩
def d_law_of : He.DefD := ⟨("_law_of", none), "_law_of", "_law_of", defArgs s_law_of, defBody s_law_of, defScope s_law_of, [], []⟩
def d_law_row : He.DefD := ⟨("_law_row", none), "_law_row", "_law_row", defArgs s_law_row, defBody s_law_row, defScope s_law_row, [], []⟩
def d_law_number_text : He.DefD := ⟨("_law_number_text", none), "_law_number_text", "_law_number_text", defArgs s_law_number_text, defBody s_law_number_text, defScope s_law_number_text, [], []⟩
def d_law_spelt : He.DefD := ⟨("_law_spelt", none), "_law_spelt", "_law_spelt", defArgs s_law_spelt, defBody s_law_spelt, defScope s_law_spelt, [], []⟩
def d_law_is_plain : He.DefD := ⟨("_law_is_plain", none), "_law_is_plain", "_law_is_plain", defArgs s_law_is_plain, defBody s_law_is_plain, defScope s_law_is_plain, [], []⟩
def d_law_is_beast : He.DefD := ⟨("_law_is_beast", none), "_law_is_beast", "_law_is_beast", defArgs s_law_is_beast, defBody s_law_is_beast, defScope s_law_is_beast, [], []⟩
def d_law_spoilt : He.DefD := ⟨("_law_spoilt", none), "_law_spoilt", "_law_spoilt", defArgs s_law_spoilt, defBody s_law_spoilt, defScope s_law_spoilt, [], []⟩
def d_law_told : He.DefD := ⟨("_law_told", none), "_law_told", "_law_told", defArgs s_law_told, defBody s_law_told, defScope s_law_told, [], []⟩
def d_law_right : He.DefD := ⟨("_law_right", none), "_law_right", "_law_right", defArgs s_law_right, defBody s_law_right, defScope s_law_right, [], []⟩
def d_law : He.DefD := ⟨("law", none), "law", "law", defArgs s_law, defBody s_law, defScope s_law, [], []⟩
def d_ini_BadText : He.DefD := ⟨("BadText", some "__init__"), "__init__", "BadText.__init__", defArgs s_ini_BadText, defBody s_ini_BadText, defScope s_ini_BadText, [], []⟩
def d_ini_BadRow : He.DefD := ⟨("BadRow", some "__init__"), "__init__", "BadRow.__init__", defArgs s_ini_BadRow, defBody s_ini_BadRow, defScope s_ini_BadRow, [], []⟩
def d_ini_BadDeed : He.DefD := ⟨("BadDeed", some "__init__"), "__init__", "BadDeed.__init__", defArgs s_ini_BadDeed, defBody s_ini_BadDeed, defScope s_ini_BadDeed, [], []⟩
def fnsL : List He.DefD := [d_number_text, d_number_in, d_is_figures, d_is_number_text, d_is_beast_text, d_row_text, d_beast_in, d_row_in, d_law_dip, d_law_take, d_law_folded, d_law_same, d_law_of, d_law_row, d_law_number_text, d_law_spelt, d_law_is_plain, d_law_is_beast, d_law_spoilt, d_law_told, d_law_right, d_law, d_ini_BadText, d_ini_BadRow, d_ini_BadDeed]
def faL : List He.Fa := [.glo "number_text", .glo "number_in", .glo "is_figures", .glo "is_number_text", .glo "is_beast_text", .glo "row_text", .glo "beast_in", .glo "row_in", .glo "_law_dip", .glo "_law_take", .glo "_law_folded", .glo "_law_same", .glo "_law_of", .glo "_law_row", .glo "_law_number_text", .glo "_law_spelt", .glo "_law_is_plain", .glo "_law_is_beast", .glo "_law_spoilt", .glo "_law_told", .glo "_law_right", .glo "law", .free "ValueError", .free "abs", .free "all", .free "bool", .free "divmod", .free "enumerate", .free "int", .free "isinstance", .free "len", .free "list", .free "max", .free "range", .free "str", .free "tuple", .free "zip", .glo "BadText", .glo "BadRow", .glo "BadDeed", .int "STEP" 1000000000000000000, .int "STEP_FIGURES" 18, .str "FIGURES" "0123456789"]
def exK (K : PySem.W.Frag) : Bool := exTyB K .val "at" (He.ga K "BadText") (He.ma K (He.ga K "BadText") "__init__") && (exTyB K .val "number" (He.ga K "BadRow") (He.ma K (He.ga K "BadRow") "__init__") && (exTyB K .val "number" (He.ga K "BadDeed") (He.ma K (He.ga K "BadDeed") "__init__") && (decide (PySem.W.exmAny K (.ref (He.ga K "BadText")) [.ref (He.ga K "BadDeed"), .ref (He.ga K "BadRow"), .ref (He.ga K "BadText")] = some true) && (decide (PySem.W.kitOne K (.ref (He.ga K "BadText")) (.ref (He.ga K "BadText")) = some true) && (decide (PySem.W.kitOne K (.ref (He.ga K "BadText")) (.type "ValueError") = some true) && (decide (PySem.W.kitAny K (.ref (He.ga K "BadText")) [.ref (He.ga K "BadDeed"), .ref (He.ga K "BadRow")] = some false)))))))
abbrev R : PySem.W.OpenRow := PySem.W.OpenLaw.row PySem.Challenge.rw_hayherd_k54_texts_spoilt
abbrev hk : PySem.W.Hook := He.hookX 4 faL fnsL [] [] exK
def ob (s : PySem.W.SharedT) : He.AlX := He.obsX 4 faL fnsL [] [] exK (HandSHeadRun.getT s)
theorem ob_eq (s : PySem.W.SharedT) : ob s = hk.obs s.abs := He.obsX_eq (HandSHeadRun.getT_eq s)
def loose : List PySem.Str := ["BadText", "BadRow", "BadDeed", "FIGURES", "STEP_FIGURES", "STEP", "number_text", "number_in", "is_figures", "is_number_text", "is_beast_text", "row_text", "beast_in", "row_in", "_law_dip", "_law_take", "_law_folded", "_law_same", "_law_of", "_law_row", "_law_number_text", "_law_spelt", "_law_is_plain", "_law_is_beast", "_law_spoilt", "_law_told", "_law_right"]
theorem run (w : World) : HandSHeadRun.RunEq R (PySem.W.view R.prog [30]) hk ob 3000 loose w := by
  intro os
  kernel_rfl
end K54
set_option maxHeartbeats 0
namespace K54
open PySem PySem.Spec PyProof.Rows L2 Evl HH RZ
theorem facts {P : Program} {w : World} {K : PySem.W.Frag} {h : Heap} {mg : Str → Option Value} {f : Addr} (X : K.In h) (G : h.Ns mainGlobals mg) (hfa : mg ("law" : Str) = some (.ref f)) {h0 : Heap} (cx : He.SaysX faL fnsL [] [] exK w h0 K) :
    ∃ fd : FuncData, (∀ (s : Shared) (v : Value), BindsTo s fd ⟨[v], []⟩ [("_law_script", v)]) ∧ ∀ base : Heap, K.In base → base.Ns mainGlobals mg → FnOk P w K mg base CX0 7 f fd ["_law_script"] (spLaw K) := by
  have c := cx.t.d
  obtain ⟨fd_number_text, F_number_text⟩ := c.def_ 0 (d := d_number_text) rfl
  have g_number_text := He.glo_ok X G (c.fact 0 (f := .glo "number_text") rfl)
  have b_number_text : Binds K fd_number_text ["number"] [] := F_number_text.bindsN fun _ _ _ _ _ _ us hl => match us, hl with | [_], _ => rfl
  obtain ⟨fd_number_in, F_number_in⟩ := c.def_ 1 (d := d_number_in) rfl
  have g_number_in := He.glo_ok X G (c.fact 1 (f := .glo "number_in") rfl)
  have b_number_in : Binds K fd_number_in ["word"] [] := F_number_in.bindsN fun _ _ _ _ _ _ us hl => match us, hl with | [_], _ => rfl
  obtain ⟨fd_is_figures, F_is_figures⟩ := c.def_ 2 (d := d_is_figures) rfl
  have g_is_figures := He.glo_ok X G (c.fact 2 (f := .glo "is_figures") rfl)
  have b_is_figures : Binds K fd_is_figures ["word"] [] := F_is_figures.bindsN fun _ _ _ _ _ _ us hl => match us, hl with | [_], _ => rfl
  obtain ⟨fd_is_number_text, F_is_number_text⟩ := c.def_ 3 (d := d_is_number_text) rfl
  have g_is_number_text := He.glo_ok X G (c.fact 3 (f := .glo "is_number_text") rfl)
  have b_is_number_text : Binds K fd_is_number_text ["word"] [] := F_is_number_text.bindsN fun _ _ _ _ _ _ us hl => match us, hl with | [_], _ => rfl
  obtain ⟨fd_is_beast_text, F_is_beast_text⟩ := c.def_ 4 (d := d_is_beast_text) rfl
  have g_is_beast_text := He.glo_ok X G (c.fact 4 (f := .glo "is_beast_text") rfl)
  have b_is_beast_text : Binds K fd_is_beast_text ["word"] [] := F_is_beast_text.bindsN fun _ _ _ _ _ _ us hl => match us, hl with | [_], _ => rfl
  obtain ⟨fd_row_text, F_row_text⟩ := c.def_ 5 (d := d_row_text) rfl
  have g_row_text := He.glo_ok X G (c.fact 5 (f := .glo "row_text") rfl)
  have b_row_text : Binds K fd_row_text ["row"] [] := F_row_text.bindsN fun _ _ _ _ _ _ us hl => match us, hl with | [_], _ => rfl
  obtain ⟨fd_beast_in, F_beast_in⟩ := c.def_ 6 (d := d_beast_in) rfl
  have g_beast_in := He.glo_ok X G (c.fact 6 (f := .glo "beast_in") rfl)
  have b_beast_in : Binds K fd_beast_in ["word"] [] := F_beast_in.bindsN fun _ _ _ _ _ _ us hl => match us, hl with | [_], _ => rfl
  obtain ⟨fd_row_in, F_row_in⟩ := c.def_ 7 (d := d_row_in) rfl
  have g_row_in := He.glo_ok X G (c.fact 7 (f := .glo "row_in") rfl)
  have b_row_in : Binds K fd_row_in ["text"] [] := F_row_in.bindsN fun _ _ _ _ _ _ us hl => match us, hl with | [_], _ => rfl
  obtain ⟨fd_law_dip, F_law_dip⟩ := c.def_ 8 (d := d_law_dip) rfl
  have g_law_dip := He.glo_ok X G (c.fact 8 (f := .glo "_law_dip") rfl)
  have b_law_dip : Binds K fd_law_dip ["_law_script", "_law_k"] [] := F_law_dip.bindsN fun _ _ _ _ _ _ us hl => match us, hl with | [_, _], _ => rfl
  obtain ⟨fd_law_take, F_law_take⟩ := c.def_ 9 (d := d_law_take) rfl
  have g_law_take := He.glo_ok X G (c.fact 9 (f := .glo "_law_take") rfl)
  have b_law_take : Binds K fd_law_take ["_law_box", "_law_many"] [] := F_law_take.bindsN fun _ _ _ _ _ _ us hl => match us, hl with | [_, _], _ => rfl
  obtain ⟨fd_law_folded, F_law_folded⟩ := c.def_ 10 (d := d_law_folded) rfl
  have g_law_folded := He.glo_ok X G (c.fact 10 (f := .glo "_law_folded") rfl)
  have b_law_folded : Binds K fd_law_folded ["_law_script", "_law_many"] [] := F_law_folded.bindsN fun _ _ _ _ _ _ us hl => match us, hl with | [_, _], _ => rfl
  obtain ⟨fd_law_same, F_law_same⟩ := c.def_ 11 (d := d_law_same) rfl
  have g_law_same := He.glo_ok X G (c.fact 11 (f := .glo "_law_same") rfl)
  have b_law_same : Binds K fd_law_same ["_law_found", "_law_due"] [] := F_law_same.bindsN fun _ _ _ _ _ _ us hl => match us, hl with | [_, _], _ => rfl
  obtain ⟨fd_law_of, F_law_of⟩ := c.def_ 12 (d := d_law_of) rfl
  have g_law_of := He.glo_ok X G (c.fact 12 (f := .glo "_law_of") rfl)
  have b_law_of : Binds K fd_law_of ["_law_box", "_law_pool"] [] := F_law_of.bindsN fun _ _ _ _ _ _ us hl => match us, hl with | [_, _], _ => rfl
  obtain ⟨fd_law_row, F_law_row⟩ := c.def_ 13 (d := d_law_row) rfl
  have g_law_row := He.glo_ok X G (c.fact 13 (f := .glo "_law_row") rfl)
  have b_law_row : Binds K fd_law_row ["_law_box", "_law_most"] [] := F_law_row.bindsN fun _ _ _ _ _ _ us hl => match us, hl with | [_, _], _ => rfl
  obtain ⟨fd_law_number_text, F_law_number_text⟩ := c.def_ 14 (d := d_law_number_text) rfl
  have g_law_number_text := He.glo_ok X G (c.fact 14 (f := .glo "_law_number_text") rfl)
  have b_law_number_text : Binds K fd_law_number_text ["_law_number"] [] := F_law_number_text.bindsN fun _ _ _ _ _ _ us hl => match us, hl with | [_], _ => rfl
  obtain ⟨fd_law_spelt, F_law_spelt⟩ := c.def_ 15 (d := d_law_spelt) rfl
  have g_law_spelt := He.glo_ok X G (c.fact 15 (f := .glo "_law_spelt") rfl)
  have b_law_spelt : Binds K fd_law_spelt ["_law_row_here"] [] := F_law_spelt.bindsN fun _ _ _ _ _ _ us hl => match us, hl with | [_], _ => rfl
  obtain ⟨fd_law_is_plain, F_law_is_plain⟩ := c.def_ 16 (d := d_law_is_plain) rfl
  have g_law_is_plain := He.glo_ok X G (c.fact 16 (f := .glo "_law_is_plain") rfl)
  have b_law_is_plain : Binds K fd_law_is_plain ["_law_word"] [] := F_law_is_plain.bindsN fun _ _ _ _ _ _ us hl => match us, hl with | [_], _ => rfl
  obtain ⟨fd_law_is_beast, F_law_is_beast⟩ := c.def_ 17 (d := d_law_is_beast) rfl
  have g_law_is_beast := He.glo_ok X G (c.fact 17 (f := .glo "_law_is_beast") rfl)
  have b_law_is_beast : Binds K fd_law_is_beast ["_law_word"] [] := F_law_is_beast.bindsN fun _ _ _ _ _ _ us hl => match us, hl with | [_], _ => rfl
  obtain ⟨fd_law_spoilt, F_law_spoilt⟩ := c.def_ 18 (d := d_law_spoilt) rfl
  have g_law_spoilt := He.glo_ok X G (c.fact 18 (f := .glo "_law_spoilt") rfl)
  have b_law_spoilt : Binds K fd_law_spoilt ["_law_box", "_law_spelt_here"] [] := F_law_spoilt.bindsN fun _ _ _ _ _ _ us hl => match us, hl with | [_, _], _ => rfl
  obtain ⟨fd_law_told, F_law_told⟩ := c.def_ 19 (d := d_law_told) rfl
  have g_law_told := He.glo_ok X G (c.fact 19 (f := .glo "_law_told") rfl)
  have b_law_told : Binds K fd_law_told ["_law_spelt_here"] [] := F_law_told.bindsN fun _ _ _ _ _ _ us hl => match us, hl with | [_], _ => rfl
  obtain ⟨fd_law_right, F_law_right⟩ := c.def_ 20 (d := d_law_right) rfl
  have g_law_right := He.glo_ok X G (c.fact 20 (f := .glo "_law_right") rfl)
  have b_law_right : Binds K fd_law_right ["_law_box"] [] := F_law_right.bindsN fun _ _ _ _ _ _ us hl => match us, hl with | [_], _ => rfl
  obtain ⟨fd_law, F_law⟩ := c.def_ 21 (d := d_law) rfl
  have m_ValueError := He.free_ok X G (c.fact 22 (f := .free "ValueError") rfl)
  have m_abs := He.free_ok X G (c.fact 23 (f := .free "abs") rfl)
  have m_all := He.free_ok X G (c.fact 24 (f := .free "all") rfl)
  have m_bool := He.free_ok X G (c.fact 25 (f := .free "bool") rfl)
  have m_divmod := He.free_ok X G (c.fact 26 (f := .free "divmod") rfl)
  have m_enumerate := He.free_ok X G (c.fact 27 (f := .free "enumerate") rfl)
  have m_int := He.free_ok X G (c.fact 28 (f := .free "int") rfl)
  have m_isinstance := He.free_ok X G (c.fact 29 (f := .free "isinstance") rfl)
  have m_len := He.free_ok X G (c.fact 30 (f := .free "len") rfl)
  have m_list := He.free_ok X G (c.fact 31 (f := .free "list") rfl)
  have m_max := He.free_ok X G (c.fact 32 (f := .free "max") rfl)
  have m_range := He.free_ok X G (c.fact 33 (f := .free "range") rfl)
  have m_str := He.free_ok X G (c.fact 34 (f := .free "str") rfl)
  have m_tuple := He.free_ok X G (c.fact 35 (f := .free "tuple") rfl)
  have m_zip := He.free_ok X G (c.fact 36 (f := .free "zip") rfl)
  have mm : exK K = true := cx.more
  unfold exK at mm
  obtain ⟨T0_BadText, mm⟩ := band mm
  obtain ⟨T0_BadRow, mm⟩ := band mm
  obtain ⟨T0_BadDeed, mm⟩ := band mm
  obtain ⟨D_k1, mm⟩ := band mm
  obtain ⟨D_k2, mm⟩ := band mm
  obtain ⟨D_k3, mm⟩ := band mm
  have D_k4 := mm
  have k1 := of_decide_eq_true D_k1
  have k2 := of_decide_eq_true D_k2
  have k3 := of_decide_eq_true D_k3
  have k4 := of_decide_eq_true D_k4
  obtain ⟨fd_ini_BadText, F_ini_BadText⟩ := c.def_ 22 (d := d_ini_BadText) rfl
  have g_BadText := He.glo_ok X G (c.fact 37 (f := .glo "BadText") rfl)
  have b_ini_BadText : Binds K fd_ini_BadText ["self", "at"] [] := F_ini_BadText.bindsN fun _ _ _ _ _ _ us hl => match us, hl with | [_, _], _ => rfl
  have T_BadText := exTyB_ok T0_BadText (by kernel_rfl)
  obtain ⟨fd_ini_BadRow, F_ini_BadRow⟩ := c.def_ 23 (d := d_ini_BadRow) rfl
  have g_BadRow := He.glo_ok X G (c.fact 38 (f := .glo "BadRow") rfl)
  have b_ini_BadRow : Binds K fd_ini_BadRow ["self", "number"] [] := F_ini_BadRow.bindsN fun _ _ _ _ _ _ us hl => match us, hl with | [_, _], _ => rfl
  have T_BadRow := exTyB_ok T0_BadRow (by kernel_rfl)
  obtain ⟨fd_ini_BadDeed, F_ini_BadDeed⟩ := c.def_ 24 (d := d_ini_BadDeed) rfl
  have g_BadDeed := He.glo_ok X G (c.fact 39 (f := .glo "BadDeed") rfl)
  have b_ini_BadDeed : Binds K fd_ini_BadDeed ["self", "number"] [] := F_ini_BadDeed.bindsN fun _ _ _ _ _ _ us hl => match us, hl with | [_, _], _ => rfl
  have T_BadDeed := exTyB_ok T0_BadDeed (by kernel_rfl)
  have e := hfa.symm.trans (He.glo_ok X G (c.fact 21 (f := .glo "law") rfl))
  cases e
  have bl := FunD.bindsA (ps := ["_law_script"]) F_law fun _ _ _ _ _ _ us hl => match us, hl with | [_], _ => rfl
  refine ⟨fd_law, fun s v => bl s [v] rfl, fun base _ _ => ?_⟩
  have g_STEP := He.int_ok X G (c.fact 40 (f := .int "STEP" 1000000000000000000) rfl)
  have g_STEP_FIGURES := He.int_ok X G (c.fact 41 (f := .int "STEP_FIGURES" 18) rfl)
  have g_FIGURES := He.str_ok X G (c.fact 42 (f := .str "FIGURES" "0123456789") rfl)
  have x_BadText := ok_ini_BadText (P := P) (w := w) (mg := mg) (base := base) F_ini_BadText T_BadText g_BadText b_ini_BadText m_ValueError
  have x_BadRow := ok_ini_BadRow (P := P) (w := w) (mg := mg) (base := base) F_ini_BadRow T_BadRow g_BadRow b_ini_BadRow m_ValueError
  have x_BadDeed := ok_ini_BadDeed (P := P) (w := w) (mg := mg) (base := base) F_ini_BadDeed T_BadDeed g_BadDeed b_ini_BadDeed m_ValueError
  have h_number_text := ok_number_text (P := P) (w := w) (mg := mg) (base := base) F_number_text g_number_text b_number_text g_STEP g_STEP_FIGURES m_abs m_divmod m_str
  have h_number_in := ok_number_in (P := P) (w := w) (mg := mg) (base := base) F_number_in g_number_in b_number_in g_STEP g_STEP_FIGURES m_len m_int m_range
  have h_is_figures := ok_is_figures (P := P) (w := w) (mg := mg) (base := base) F_is_figures g_is_figures b_is_figures g_FIGURES m_all
  have h_is_number_text := ok_is_number_text (P := P) (w := w) (mg := mg) (base := base) F_is_number_text g_is_number_text b_is_number_text h_is_figures
  have h_is_beast_text := ok_is_beast_text (P := P) (w := w) (mg := mg) (base := base) F_is_beast_text g_is_beast_text b_is_beast_text h_is_figures h_is_number_text
  have h_row_text := ok_row_text (P := P) (w := w) (mg := mg) (base := base) F_row_text g_row_text b_row_text h_number_text
  have h_beast_in := ok_beast_in (P := P) (w := w) (mg := mg) (base := base) F_beast_in g_beast_in b_beast_in h_number_in
  have h_row_in := ok_row_in (P := P) (w := w) (mg := mg) (base := base) F_row_in g_row_in b_row_in x_BadText h_is_beast_text h_beast_in m_enumerate m_tuple
  have h_law_dip := ok_law_dip (P := P) (w := w) (mg := mg) (base := base) F_law_dip g_law_dip b_law_dip m_len m_abs m_int
  have h_law_take := ok_law_take (P := P) (w := w) (mg := mg) (base := base) F_law_take g_law_take b_law_take
  have h_law_folded := ok_law_folded (P := P) (w := w) (mg := mg) (base := base) F_law_folded g_law_folded b_law_folded m_list m_enumerate
  have h_law_same := ok_law_same (P := P) (w := w) (mg := mg) (base := base) F_law_same g_law_same b_law_same m_isinstance m_list m_tuple m_bool m_str m_int m_len m_all m_zip 4
  have h_law_of := ok_law_of (P := P) (w := w) (mg := mg) (base := base) F_law_of g_law_of b_law_of h_law_take m_len
  have h_law_row := ok_law_row (P := P) (w := w) (mg := mg) (base := base) F_law_row g_law_row b_law_row h_law_take h_law_of m_range m_tuple
  have h_law_number_text := ok_law_number_text (P := P) (w := w) (mg := mg) (base := base) F_law_number_text g_law_number_text b_law_number_text m_str m_abs
  have h_law_spelt := ok_law_spelt (P := P) (w := w) (mg := mg) (base := base) F_law_spelt g_law_spelt b_law_spelt h_law_number_text m_str
  have h_law_is_plain := ok_law_is_plain (P := P) (w := w) (mg := mg) (base := base) F_law_is_plain g_law_is_plain b_law_is_plain
  have h_law_is_beast := ok_law_is_beast (P := P) (w := w) (mg := mg) (base := base) F_law_is_beast g_law_is_beast b_law_is_beast h_law_is_plain m_len
  have h_law_spoilt := ok_law_spoilt (P := P) (w := w) (mg := mg) (base := base) F_law_spoilt g_law_spoilt b_law_spoilt h_law_take h_law_of m_len
  have h_law_told := ok_law_told (P := P) (w := w) (mg := mg) (base := base) F_law_told g_law_told b_law_told x_BadText x_BadDeed x_BadRow h_row_in h_row_text k1 k2 k3 k4 m_isinstance m_ValueError m_len
  have h_law_right := ok_law_right (P := P) (w := w) (mg := mg) (base := base) F_law_right g_law_right b_law_right h_law_row h_law_spoilt h_law_spelt h_law_take h_law_is_beast h_law_same h_law_told m_range m_enumerate m_len
  exact ok_law F_law h_law_folded h_law_dip h_law_right m_range m_len m_all m_max
end K54
open PySem PySem.W PySem.Calls PyProof.Rows
theorem PySem.Challenge.cw_hayherd_k54_texts_spoilt_holds : PySem.Challenge.rw_hayherd_k54_texts_spoilt.Holds := by
  w_on; o_law
  refine HandSHeadRun.head_any (r := OpenLaw.row PySem.Challenge.rw_hayherd_k54_texts_spoilt) (q := view (OpenLaw.row PySem.Challenge.rw_hayherd_k54_texts_spoilt).prog [30]) (H := K54.hk) (ob := K54.ob) (M := 3000) (loose := K54.loose) (d := HandSHeadRun.topDef (OpenLaw.row PySem.Challenge.rw_hayherd_k54_texts_spoilt).prog 30) (kwd := []) K54.ob_eq
    (by kernel_rfl) (fun s => by kernel_rfl) K54.run (by kernel_rfl) (by kernel_rfl) (by kernel_rfl) (by rfl) (by first | assumption | decide +kernel) (by decide +kernel) ⟨rfl, rfl, rfl, rfl, rfl, by decide +kernel⟩ ?hw ?hc
  case hw => w_witness2
  case hc =>
    refine L2.walk_ofE (l := PySem.Challenge.rw_hayherd_k54_texts_spoilt) (n := 63) (k := 7) (x := "_law_script") (CX := L2.CX0) rfl (by decide) (by kernel_rfl) ⟨rfl, by decide, by decide⟩ ?F (fun _ _ _ _ z => z)
    intro w mg fa h Y G hmg0
    obtain ⟨K, KX, c⟩ := Y
    have hmg : mg ("law" : PySem.Str) = some (.ref fa) := by
      have e : (HandSHeadRun.topDef (OpenLaw.row PySem.Challenge.rw_hayherd_k54_texts_spoilt).prog 30).name = ("law" : PySem.Str) := by kernel_rfl
      rw [← e]
      exact hmg0
    obtain ⟨fd, hb, hF⟩ := K54.facts (P := (PySem.Challenge.rw_hayherd_k54_texts_spoilt).prog) (w := w) KX G hmg c
    exact ⟨K, fd, HH.spLaw K, KX, hb, fun H a ns hl _ hS => ⟨a, ns, rfl, hS, hl, fun _ => rfl⟩, hF⟩
