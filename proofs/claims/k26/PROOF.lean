import PyProof.Rows.All
import Wide.All
import OpenK.AllK
import Wide.FinOn
import KE.KStateDown
import HandS.ForMost
import HandS.Conv
import HandS.Flow
import HandS.Style
import HandS.TupAny
import HandS.TupMul
import HandS.IsInst
import HandS.Wide
import HandS.Defaults
import HandS.Zip
import HandS.Evl
import HandS.More
import HandS.WordsExc
import HandS.Head2
import HandS.HeadEnd
import HandS.HeadHook2
import HandS.Walk
import PyProof.ReprRoads
import PyProof.ReprText
import PyProof.ReprLen
import HandS.RevRange
import HandS.SortInts
import KE.GoesMore
import HandS.DictComp
import HandS.Dict
import HandS.SortRule
import HandS.Deep
import HandS.Strs
import KE.GoesZip
import KE.GoesEnum
import HandS.DictTup
import KE.KDictZip
import KE.KSortTupAny
import PyProof.Rows.TupDisplay
import KE.KDictDisplayH
import HandS.WideBits
import HandS.ExcInit
import HandS.HeadHook4
import KE.KExcIs
import KE.KTryMore
import KE.KExcInit
import HandS.SetFor
import HandS.Small
import HandS.CallLocal
import KE.DataMinMax
import PyProof.SumAnyB
import HandS.TupLe
import HandS.TupLen
import HandS.Iter
import PySem.Challenge.RW_hayherd_k26_known_kept_ones
set_option Elab.async false
set_option linter.all false
set_option maxRecDepth 100000
set_option maxHeartbeats 4000000
namespace HH
open PySem PySem.Spec PyProof.Rows L2
section
variable {X : Cx}
def CPowW (i j : Int) : Prop := 0 ≤ j ∧ (Builtin.Int.intBits i : Int) * j ≤ 2 ^ 27
theorem op_powW : OpR X (binaryOp .Pow) (rI CPowW fun i j => .int (i ^ j.toNat)) := opI fun _ _ _ _ _ _ _ hc q => pow_int hc.1 hc.2 q
theorem ix_listK {K : PySem.W.Frag} (h : X.K = K := by rfl) : IxR X (rIxL K) := by
  subst h
  exact ix_list
end
end HH
set_option maxHeartbeats 4000000
namespace HH
open PySem PySem.Spec PyProof.Rows L2 Evl
abbrev FnP (K : PySem.W.Frag) (x : Str) (st : Stmt) (f : Addr) (fd : FuncData) : Prop := FunD K x x (defArgs st) (defBody st) (defScope st) [] [] f fd
structure Has (P : Program) (w : World) (K : PySem.W.Frag) (mg : Str → Option Value) (base : Heap) (k : Nat) (x : Str) (ps : List Str) (sp : Sp) (f : Addr) (fd : FuncData) : Prop where
  G : FnOk P w K mg base CX0 k f fd ps sp
  g : mg x = some (.ref f)
  kp : PySem.W.keepIn K (.ref f) = true
  b : Binds K fd ps []
def ExB (b : Addr) (H H' : Hp) : Prop := ∀ a o, a ≠ b → H a = some o → H' a = some o
theorem ExB.refl (b : Addr) (H : Hp) : ExB b H H := fun _ _ _ h => h
theorem ExB.trans {b : Addr} {H H1 H2 : Hp} (x : ExB b H H1) (y : ExB b H1 H2) : ExB b H H2 := fun a o n h => y a o n (x a o n h)
theorem ExB.of {b : Addr} {H H' : Hp} (e : Ex H H') : ExB b H H' := fun a o _ h => e a o h
theorem ExB.new {b p : Addr} {H H' : Hp} {o : HO} (e : ExB b H H') (h : H' p = none) : ExB b H (upd H' p o) := e.trans (.of (Ex.new h))
theorem ExB.upd {b : Addr} {H H' : Hp} {o : HO} (e : ExB b H H') : ExB b H (upd H' b o) := fun a u n h => by
  rw [upd_ne n]
  exact e a u n h
theorem ExB.mut {b p : Addr} {H H' : Hp} {o : HO} (e : ExB b H H') (h : H p = none) : ExB b H (L2.upd H' p o) := fun a u n ha => by
  rw [upd_ne (ne_of_none ha h)]
  exact e a u n ha
theorem ExB.rd {b a : Addr} {H H' : Hp} {u : HO} (e : ExB b H H') (n : a ≠ b) (h : Rd H a u) : Rd H' a u := by
  rcases h with h | ⟨o, h⟩
  · exact .inl (e a _ n h)
  · exact .inr ⟨o, e a _ n h⟩
theorem ExB.l {K : PySem.W.Frag} {b a : Addr} {H H' : Hp} {xs : List V} (e : ExB b H H') (n : a ≠ b) (h : SqL K H a xs) : SqL K H' a xs := by
  rcases h with h | h
  · exact .inl (e.rd n h)
  · exact .inr h
theorem ExB.t {K : PySem.W.Frag} {b a : Addr} {H H' : Hp} {xs ys : List V} (e : ExB b H H') (hb : H b = some (.lst ys)) (h : SqT K H a xs) : SqT K H' a xs := by
  rcases h with h | h
  · refine .inl (e.rd (fun z => ?_) h)
    subst z
    rcases h with h | ⟨o, h⟩
    · rw [hb] at h
      cases h
    · rw [hb] at h
      cases h
  · exact .inr h
def Lim : Nat := 2 ^ 4000
def Bx (H : Hp) (p : Addr) (n : Nat) : Prop := ∃ a b c : Int, H p = some (.lst [.int a, .int b, .int c]) ∧ 0 ≤ a ∧ 0 ≤ b ∧ b < 2 ^ 62 ∧ 0 ≤ c ∧ c ≤ n
theorem Bx.ex {H H' : Hp} {p : Addr} {n : Nat} (h : Bx H p n) (e : Ex H H') : Bx H' p n := by
  obtain ⟨a, b, c, h1, h2⟩ := h
  exact ⟨a, b, c, e _ _ h1, h2⟩
theorem Bx.mut {H : Hp} {p q : Addr} {n : Nat} {o : HO} (h : Bx H p n) (e : p ≠ q) : Bx (upd H q o) p n := by
  obtain ⟨a, b, c, h1, h2⟩ := h
  exact ⟨a, b, c, by rw [upd_ne e]; exact h1, h2⟩
theorem Bx.lst {H : Hp} {p : Addr} {n : Nat} (h : Bx H p n) : ∃ xs, H p = some (.lst xs) := by
  obtain ⟨a, b, c, h1, _⟩ := h
  exact ⟨_, h1⟩
theorem Bx.ne {H : Hp} {p q : Addr} {n : Nat} (h : Bx H p n) (hq : H q = none) : p ≠ q := by
  obtain ⟨xs, h⟩ := h.lst
  exact ne_of_none h hq
abbrev Row := List (Int × Int)
def BeastAt (K : PySem.W.Frag) (H : Hp) (v : V) (b : Int × Int) : Prop := ∃ p, v = .ref p ∧ SqT K H p [.int b.1, .int b.2]
def Beasts (K : PySem.W.Frag) (H : Hp) (vs : List V) (rs : Row) : Prop := vs.length = rs.length ∧ ∀ (i : Nat) (b : Int × Int), rs[i]? = some b → ∃ u, vs[i]? = some u ∧ BeastAt K H u b
def RowAt (K : PySem.W.Frag) (H : Hp) (v : V) (rs : Row) : Prop := ∃ a vs, v = .ref a ∧ SqT K H a vs ∧ Beasts K H vs rs
theorem BeastAt.ex {K : PySem.W.Frag} {H H' : Hp} {v : V} {b : Int × Int} (e : Ex H H') (h : BeastAt K H v b) : BeastAt K H' v b := by
  obtain ⟨p, h1, h2⟩ := h
  exact ⟨p, h1, ex_t e h2⟩
theorem BeastAt.exB {K : PySem.W.Frag} {H H' : Hp} {v : V} {b : Int × Int} {q : Addr} {ys : List V} (e : ExB q H H') (hq : H q = some (.lst ys)) (h : BeastAt K H v b) : BeastAt K H' v b := by
  obtain ⟨p, h1, h2⟩ := h
  exact ⟨p, h1, e.t hq h2⟩
theorem Beasts.ex {K : PySem.W.Frag} {H H' : Hp} {vs : List V} {rs : Row} (e : Ex H H') (h : Beasts K H vs rs) : Beasts K H' vs rs := ⟨h.1, fun i b hi => by
  obtain ⟨u, h1, h2⟩ := h.2 i b hi
  exact ⟨u, h1, h2.ex e⟩⟩
theorem Beasts.exB {K : PySem.W.Frag} {H H' : Hp} {vs : List V} {rs : Row} {q : Addr} {ys : List V} (e : ExB q H H') (hq : H q = some (.lst ys)) (h : Beasts K H vs rs) : Beasts K H' vs rs := ⟨h.1, fun i b hi => by
  obtain ⟨u, h1, h2⟩ := h.2 i b hi
  exact ⟨u, h1, h2.exB e hq⟩⟩
theorem RowAt.ex {K : PySem.W.Frag} {H H' : Hp} {v : V} {rs : Row} (h : RowAt K H v rs) (e : Ex H H') : RowAt K H' v rs := by
  obtain ⟨a, vs, h1, h2, h3⟩ := h
  exact ⟨a, vs, h1, ex_t e h2, h3.ex e⟩
theorem RowAt.exB {K : PySem.W.Frag} {H H' : Hp} {v : V} {rs : Row} {q : Addr} {n : Nat} (h : RowAt K H v rs) (e : ExB q H H') (hb : Bx H q n) : RowAt K H' v rs := by
  obtain ⟨a, vs, h1, h2, h3⟩ := h
  obtain ⟨ys, hy⟩ := hb.lst
  exact ⟨a, vs, h1, e.t hy h2, h3.exB e hy⟩
theorem Beasts.nil {K : PySem.W.Frag} {H : Hp} : Beasts K H [] [] := ⟨rfl, fun i b h => by simp at h⟩
theorem Beasts.app {K : PySem.W.Frag} {H : Hp} {vs us : List V} {rs ss : Row} (h : Beasts K H vs rs) (g : Beasts K H us ss) : Beasts K H (vs ++ us) (rs ++ ss) := by
  refine ⟨by rw [List.length_append, List.length_append, h.1, g.1], fun i b hi => ?_⟩
  by_cases hl : i < rs.length
  · rw [List.getElem?_append_left hl] at hi
    rw [List.getElem?_append_left (by rw [h.1]; exact hl)]
    exact h.2 i b hi
  · rw [List.getElem?_append_right (by omega)] at hi
    rw [List.getElem?_append_right (by rw [h.1]; omega), h.1]
    exact g.2 _ b hi
theorem Beasts.one {K : PySem.W.Frag} {H : Hp} {v : V} {b : Int × Int} (h : BeastAt K H v b) : Beasts K H [v] [b] := by
  refine ⟨rfl, fun i c hi => ?_⟩
  cases i with
  | zero =>
    cases hi
    exact ⟨v, rfl, h⟩
  | succ i => simp at hi
theorem Beasts.take {K : PySem.W.Frag} {H : Hp} {vs : List V} {rs : Row} (n : Nat) (h : Beasts K H vs rs) : Beasts K H (vs.take n) (rs.take n) := by
  refine ⟨by rw [List.length_take, List.length_take, h.1], fun i b hi => ?_⟩
  rw [List.getElem?_take] at hi ⊢
  by_cases hl : i < n
  · rw [if_pos hl] at hi ⊢
    exact h.2 i b hi
  · rw [if_neg hl] at hi
    cases hi
theorem Beasts.drop {K : PySem.W.Frag} {H : Hp} {vs : List V} {rs : Row} (n : Nat) (h : Beasts K H vs rs) : Beasts K H (vs.drop n) (rs.drop n) := by
  refine ⟨by rw [List.length_drop, List.length_drop, h.1], fun i b hi => ?_⟩
  rw [List.getElem?_drop] at hi ⊢
  exact h.2 _ b hi
theorem cut_to (xs : List V) (j : Nat) : cutV xs none (some (j : Int)) = xs.take j := by
  unfold cutV
  rw [HT.sIx_none, HT.sIx_nat, Nat.sub_zero, List.drop_zero]
  by_cases h : j ≤ xs.length
  · rw [Nat.min_eq_left h]
  · rw [Nat.min_eq_right (by omega), List.take_of_length_le (Nat.le_refl _), List.take_of_length_le (by omega)]
end HH
set_option maxHeartbeats 4000000
namespace HH
open PySem PySem.Spec PyProof.Rows L2 Evl
section
variable {K : PySem.W.Frag} {σ : L2.St} {H H' : Hp} {ta tb te tx : TE} {x y z v : V}
def EvR (K : PySem.W.Frag) (te : TE) (σ : L2.St) (H : Hp) (rs : Row) : Prop := ∀ H1, Ex H H1 → ∀ Q : VK, (∀ v H2, Ex H1 H2 → RowAt K H2 v rs → Q v H2) → te σ H1 Q
def EvB (K : PySem.W.Frag) (te : TE) (σ : L2.St) (H : Hp) (b : Int × Int) : Prop := ∀ H1, Ex H H1 → ∀ Q : VK, (∀ v H2, Ex H1 H2 → BeastAt K H2 v b → Q v H2) → te σ H1 Q
theorem er_val {rs : Row} (h : Ev te σ H v) (hr : RowAt K H v rs) : EvR K te σ H rs := fun H1 e Q q => h H1 e Q fun H2 e2 => q v H2 e2 (hr.ex (e.trans e2))
theorem er_cat {rs ss : Row} (ha : EvR K ta σ H rs) (hb : EvR K tb σ H ss) (hl : rs.length + ss.length ≤ 100000) : EvR K (tOp (rCatA K) ta tb) σ H (rs ++ ss) := fun H1 e Q q =>
  ha H1 e _ fun v H2 e2 hv => hb H2 (e.trans e2) _ fun u H3 e3 hu => by
    obtain ⟨a, vs, rfl, h1, h2⟩ := hv.ex e3
    obtain ⟨b, us, rfl, g1, g2⟩ := hu
    refine ⟨a, b, vs, us, rfl, rfl, h1, g1, by rw [h2.1, g2.1]; exact sz_of hl, fun z => ?_, fun _ z => ?_, fun _ _ p hp => ?_⟩
    · subst z
      have e0 : rs = [] := List.length_eq_zero_iff.mp h2.1.symm
      subst e0
      exact q _ H3 (e2.trans e3) ⟨b, us, rfl, g1, g2⟩
    · subst z
      have e0 : ss = [] := List.length_eq_zero_iff.mp g2.1.symm
      subst e0
      rw [List.append_nil] at q
      exact q _ H3 (e2.trans e3) ⟨a, vs, rfl, h1, h2⟩
    · exact q _ _ ((e2.trans e3).trans (Ex.new hp)) ⟨p, _, rfl, st_of upd_same, (h2.app g2).ex (Ex.new hp)⟩
theorem er_one {b : Int × Int} (h1 : EvB K ta σ H b) : EvR K (tTup (tCons ta tNil)) σ H [b] := fun H1 e Q q =>
  h1 H1 e _ fun v H2 e2 hv => ⟨by show 1 ≤ sizeLine; decide, fun p hp => q _ _ (e2.trans (Ex.new hp)) ⟨p, _, rfl, st_of upd_same, Beasts.one (hv.ex (Ex.new hp))⟩⟩
theorem ev_lenR {rs : Row} (h : Ev te σ H v) (hr : RowAt K H v rs) : Ev (tCB (rLenS K) (tCons te tNil)) σ H (.int (rs.length : Int)) := fun H1 e Q q => by
  obtain ⟨a, vs, rfl, hs, hb⟩ := hr
  refine h H1 e _ fun H2 e2 => ⟨a, vs, rfl, Or.inr (ex_t (e.trans e2) hs), ?_⟩
  rw [hb.1]
  exact q H2 e2
end
def sS (rs : Row) (i : Nat) : Int := (rs[i]?.getD (0, 0)).1
def tS (rs : Row) (i : Nat) : Int := (rs[i]?.getD (0, 0)).2
theorem row_get {rs : Row} {i : Nat} (h : i < rs.length) : rs[i]? = some (sS rs i, tS rs i) := by
  unfold sS tS
  rw [List.getElem?_eq_getElem h] <;> rfl
def letsN (rs : Row) (i : Nat) : Bool := decide (0 < i) && decide (sS rs i - tS rs (i - 1) > sS rs (i - 1))
def fallsN (rs : Row) (i : Nat) : Bool := decide (sS rs i > sS rs (i + 1))
def passR (rs : Row) (p : Nat) : Row := rs.take (p - 1) ++ [(sS rs p - tS rs (p - 1), tS rs p), (sS rs (p - 1), tS rs (p - 1))] ++ rs.drop (p + 1)
def fallR (rs : Row) (p : Nat) : Row := rs.take p ++ [(sS rs (p + 1), tS rs (p + 1)), (sS rs p + tS rs (p + 1), tS rs p)] ++ rs.drop (p + 2)
def passL (rs : Row) : List V := given rs.length (letsN rs) (fun i => .int (i : Int))
end HH
set_option maxHeartbeats 4000000
namespace HH
open PySem PySem.Spec PyProof.Rows L2 Evl
section
variable {K : PySem.W.Frag} {σ : L2.St} {H H' : Hp} {ta tb te tx : TE} {x y z v : V} {D : Ends} {tz : TS}
end
end HH
set_option maxHeartbeats 4000000
namespace HH
open PySem PySem.Spec PyProof.Rows L2 Evl
theorem bits_le {i : Int} {n : Nat} (h : i.natAbs < 2 ^ n) : Builtin.Int.intBits i ≤ n := by
  unfold Builtin.Int.intBits
  split
  · exact Nat.zero_le _
  · rename_i z
    have hz : i.natAbs ≠ 0 := by
      intro e
      apply z
      have : i = 0 := by omega
      rw [this]
      rfl
    have := (Nat.log2_lt hz).mpr h
    omega
theorem pow_ok {i : Int} (h : i.natAbs < 2 ^ 4100) : CPowW i 5 := by
  refine ⟨by decide, ?_⟩
  have h1 := bits_le h
  have h2 : (Builtin.Int.intBits i : Int) ≤ 4100 := by omega
  have h3 : (2 : Int) ^ 27 = 134217728 := by decide
  rw [h3]
  omega
theorem mulW_ok {i j : Int} (h : i.natAbs < 2 ^ 4100) (g : j.natAbs < 2 ^ 4100) : CMulW i j := wide_mul h g (by decide) (by decide) (by decide)
theorem two_split : (2 : Nat) ^ 4100 = 2 ^ 4000 * 2 ^ 100 := by rw [← Nat.pow_add]
theorem big_of {c : Int} (h0 : 0 ≤ c) (h : c ≤ (Lim : Int) + 1) (k b : Int) (hk : 0 ≤ k) (hk2 : k ≤ 40000) (hb : 0 ≤ b) (hb2 : b ≤ 2 ^ 63) : (b + k * c).natAbs < 2 ^ 4100 := by
  have hl : Lim = 2 ^ 4000 := rfl
  have hp : 0 < (2 : Nat) ^ 4000 := Nat.pow_pos (by decide)
  rw [two_split]
  generalize (2 : Nat) ^ 4000 = L at *
  have h2 : c.toNat ≤ L + 1 := by omega
  have h3 : k.toNat * c.toNat ≤ 40000 * (L + 1) := Nat.mul_le_mul (by omega) h2
  have h4 : (b + k * c) = ((b.toNat + k.toNat * c.toNat : Nat) : Int) := by
    rw [Int.natCast_add, Int.natCast_mul, Int.toNat_of_nonneg hb, Int.toNat_of_nonneg hk, Int.toNat_of_nonneg h0]
  rw [h4, Int.natAbs_natCast]
  have h5 : b.toNat ≤ 2 ^ 63 := by omega
  have h6 : (2 : Nat) ^ 100 = 1267650600228229401496703205376 := by decide
  have h7 : (2 : Nat) ^ 63 = 9223372036854775808 := by decide
  rw [h6]
  rw [h7] at h5
  have h8 : L * 1267650600228229401496703205376 ≥ L * 40000 + L * 9223372036854775808 + L * 50000 := by omega
  omega
def spTake : Sp := fun vs H Q _ => ∃ (p : Addr) (m : Int) (n : Nat), vs = [.ref p, .int m] ∧ 0 < m ∧ m < 1073741824 ∧ Bx H p n ∧ n < Lim ∧ ∀ (r : Int) H', 0 ≤ r → r < m → ExB p H H' → Bx H' p (n + 1) → Q (.int r) H'
theorem divW_ok {i m : Int} (h : 0 < m) (g : m < 1073741824) : CDivW i m := wide_div h (show m.natAbs < 2 ^ 30 by
  have : (2 : Nat) ^ 30 = 1073741824 := by decide
  omega) (by decide) (by decide)
theorem fmod_lo {a m : Int} (h : 0 < m) : 0 ≤ a.fmod m := Int.fmod_nonneg_of_pos a h
theorem fmod_hi {a m : Int} (h : 0 < m) : a.fmod m < m := Int.fmod_lt_of_pos a h
end HH
set_option maxHeartbeats 4000000
namespace HH
open PySem PySem.Spec PyProof.Rows L2 Evl RZ
inductive TyN (K : PySem.W.Frag) (H : Hp) : V → String → Prop where
  | non : TyN K H .non "NoneType"
  | bl (b : Bool) : TyN K H (.bl b) "bool"
  | int (i : Int) : TyN K H (.int i) "int"
  | str (s : Str) : TyN K H (.str s) "str"
  | lst {a : Addr} {xs : List V} (e : SqL K H a xs) : TyN K H (.ref a) "list"
  | tup {a : Addr} {xs : List V} (e : SqT K H a xs) : TyN K H (.ref a) "tuple"
theorem TyN.ex {K : PySem.W.Frag} {H H' : Hp} {x : V} {t : String} (h : TyN K H x t) (e : Ex H H') : TyN K H' x t := by
  cases h with
  | non => exact .non
  | bl b => exact .bl b
  | int i => exact .int i
  | str s => exact .str s
  | lst h => exact .lst (ex_l e h)
  | tup h => exact .tup (ex_t e h)
theorem TyN.x {K : PySem.W.Frag} {H : Hp} {x : V} {t : String} (h : TyN K H x t) : TyX K H x (.type t) := by
  cases h with
  | non => exact .base .non
  | bl b => exact .base (.bl b)
  | int i => exact .base (.int i)
  | str s => exact .base (.str s)
  | lst h =>
    rcases h with (h | ⟨o, h⟩) | h
    · exact .base (.lst h)
    · exact .base (.frz h)
    · obtain ⟨o, _, _, h1, h2, _⟩ := h
      exact .kList h1 h2
  | tup h =>
    rcases h with (h | ⟨o, h⟩) | h
    · exact .base (.tup h)
    · exact .fTuple h
    · obtain ⟨o, _, _, h1, h2, _⟩ := h
      exact .kTuple h1 h2
section
variable {K : PySem.W.Frag} {σ : L2.St} {H H' : Hp} {ta tb te tx : TE} {x y z v : V} {D : Ends} {tz : TS}
theorem ev_isi {T C : String} {b : Bool} (h : Ev te σ H x) (ht : TyN K H x T) (k : kitB T C = some b) : Ev (tCB (rIsi K) (tCons te (tCons (tC (.ty C)) tNil))) σ H (.bl b) := fun H1 e Q q =>
  h H1 e _ fun H2 e2 => ⟨x, .ty C, .type T, .type C, b, rfl, .ty C, (ht.ex (e.trans e2)).x, kit_ty k, q H2 e2⟩
theorem ev_isiT {T C C2 : String} {b : Bool} (h : Ev te σ H x) (ht : TyN K H x T) (k : PySem.W.kitAny K (.type T) [.type C, .type C2] = some b) : Ev (tCB (rIsiT K) (tCons te (tCons (tTup (tCons (tC (.ty C)) (tCons (tC (.ty C2)) tNil))) tNil))) σ H (.bl b) := fun H1 e Q q =>
  h H1 e _ fun H2 e2 => ⟨by show 2 ≤ sizeLine; decide, fun p hp => ⟨x, p, [.ty C, .ty C2], .type T, [.type C, .type C2], b, rfl, upd_same, .cons (.ty C) (.cons (.ty C2) .nil), (ht.ex ((e.trans e2).trans (Ex.new hp))).x, k, q _ (e2.trans (Ex.new hp))⟩⟩
theorem rv_isN2 {b : Bool} (h : decide (x = V.non) = b) : RV (fun x y H Q => y = .non ∧ Q (.bl (decide (x = .non))) H) x .non H (.bl b) := fun H1 _ _ q => ⟨rfl, by rw [h]; exact q H1 (Ex.refl H1)⟩
end
theorem walk_zipT {K : PySem.W.Frag} {a b : Addr} {xs ys : List V} {n : Nat} (hn : n = min xs.length ys.length) : Walk (ItzT K a b) n (fun H => SqT K H a xs ∧ SqT K H b ys) (YPair (fun i => xs[i]?) (fun i => ys[i]?)) := by
  subst hn
  refine ⟨fun i _ hi q => ?_, fun _ q => ⟨xs, ys, q.1, q.2, by omega⟩, fun i H v H' _ q y => ?_⟩
  · have g1 : i < xs.length := by omega
    have g2 : i < ys.length := by omega
    exact ⟨xs, ys, xs[i], ys[i], q.1, q.2, by simp [g1], by simp [g2]⟩
  · obtain ⟨T, x, z, h1, h2, h3, h4, h5⟩ := y
    exact ⟨T, x, z, h1, h2, h3, h4 xs q.1, h5 ys q.2⟩
def Flat : V → Prop
  | .int _ => True
  | .bl _ => True
  | .str _ => True
  | .non => True
  | _ => False
def Alike (K : PySem.W.Frag) (H : Hp) : Nat → V → V → Prop
  | 0, _, _ => False
  | d + 1, x, y => (x = y ∧ Flat x) ∨ ∃ (a b : Addr) (xs ys : List V), x = .ref a ∧ y = .ref b ∧ ((SqL K H a xs ∧ SqL K H b ys) ∨ (SqT K H a xs ∧ SqT K H b ys)) ∧ xs.length = ys.length ∧ xs.length ≤ 40000 ∧
    ∀ (i : Nat) (u v : V), xs[i]? = some u → ys[i]? = some v → Alike K H d u v
theorem Alike.ex {K : PySem.W.Frag} {H H' : Hp} (e : Ex H H') : ∀ {d : Nat} {x y : V}, Alike K H d x y → Alike K H' d x y
  | 0, _, _, h => h
  | d + 1, x, y, h => by
    rcases h with h | ⟨a, b, xs, ys, h1, h2, h3, h4, h5, h6⟩
    · exact .inl h
    · refine .inr ⟨a, b, xs, ys, h1, h2, ?_, h4, h5, fun i u v hu hv => Alike.ex e (h6 i u v hu hv)⟩
      rcases h3 with h3 | h3
      · exact .inl ⟨ex_l e h3.1, ex_l e h3.2⟩
      · exact .inr ⟨ex_t e h3.1, ex_t e h3.2⟩
def spSame (K : PySem.W.Frag) (d : Nat) : Sp := fun vs H Q _ => ∃ x y, vs = [x, y] ∧ Alike K H d x y ∧ RetV (.bl true) H Q
theorem has_none {P : Program} {w : World} {K : PySem.W.Frag} {mg : Str → Option Value} {base : Heap} {f : Addr} {fd : FuncData} {ps : List Str} : FnOk P w K mg base CX0 0 f fd ps (spSame K 0) :=
  ⟨fun _ _ _ _ h => by obtain ⟨_, _, _, h, _⟩ := h; exact h.elim, fun _ _ _ _ _ _ _ _ _ _ _ _ _ h => by obtain ⟨_, _, _, h, _⟩ := h; exact h.elim⟩
section
variable {K : PySem.W.Frag} {σ : L2.St} {H H' : Hp}
theorem el_same {d : Nat} {a b : Addr} {xs ys : List V} (hl : xs.length = ys.length) (hz : xs.length ≤ 40000) (h3 : (SqL K H a xs ∧ SqL K H b ys) ∨ (SqT K H a xs ∧ SqT K H b ys)) (h6 : ∀ (i : Nat) (u v : V), xs[i]? = some u → ys[i]? = some v → Alike K H d u v) :
    EvL (tLc (iZipA K (tCons (tVar 0) (tCons (tVar 1) tNil))) (gTup K 2 (gCons (gName 2) (gCons (gName 3) gNil))) tYes (tCall (spSame K d) [] E0 (tCons (tVar 2) (tCons (tVar 3) tNil))) [2, 3]) [some (.ref a), some (.ref b), none, none] H ((List.replicate xs.length true).map V.bl) := fun H0 e Q q => by
  have turn : ∀ (Dl : Addr) (i : Nat) (x : V) (H1 H2 : Hp), H0 Dl = none → i < xs.length → (Ex H0 H1 ∧ H1 Dl = some (.lst ((List.replicate i true).map V.bl))) → YPair (fun i => xs[i]?) (fun i => ys[i]?) i H1 x H2 →
      gTup K 2 (gCons (gName 2) (gCons (gName 3) gNil)) x (wipe [some (.ref a), some (.ref b), none, none] [2, 3]) H2 fun σ2 H3 => wipe σ2 [2, 3] = wipe [some (.ref a), some (.ref b), none, none] [2, 3] ∧ tYes σ2 H3 fun b H4 =>
      if b = true then tCall (spSame K d) [] E0 (tCons (tVar 2) (tCons (tVar 3) tNil)) σ2 H4 fun y H5 => ∃ acc, H5 Dl = some (.lst acc) ∧ acc.length < sizeLine ∧ (Ex H0 (upd H5 Dl (.lst (acc ++ [y]))) ∧ (upd H5 Dl (.lst (acc ++ [y]))) Dl = some (.lst ((List.replicate (i + 1) true).map V.bl))) else (Ex H0 H4 ∧ H4 Dl = some (.lst ((List.replicate (i + 1) true).map V.bl))) := by
    intro Dl i x H1 H2 hD hi p y
    obtain ⟨T, u, v, rfl, nT, rfl, hu, hv⟩ := y
    refine ⟨T, [u, v], rfl, st_of upd_same, rfl, u, [v], rfl, v, [], rfl, rfl, rfl, ?_⟩
    show tCall (spSame K d) [] E0 (tCons (tVar 2) (tCons (tVar 3) tNil)) _ _ _
    have e2 : Ex H0 (upd H1 T (.tup [u, v])) := p.1.trans (Ex.new nT)
    refine ⟨u, rfl, v, rfl, u, v, rfl, (h6 i u v hu hv).ex (e.trans e2), fun H5 e5 => ⟨_, e5 _ _ ((Ex.new nT) _ _ p.2), ?_, ?_, ?_⟩⟩
    · rw [List.length_map, List.length_replicate]
      exact sz_lt (by omega)
    · exact Ex.mut (e2.trans e5) hD
    · rw [upd_same, List.replicate_succ', List.map_append]
      rfl
  rcases h3 with ⟨ha, hb⟩ | ⟨ha, hb⟩
  · refine ⟨.ref a, rfl, .ref b, rfl, a, b, xs, ys, rfl, .inl ⟨ex_l e ha, ex_l e hb, fun Dl hD => ?_⟩⟩
    refine lc_it (walk_zip (n := xs.length) (xs := xs) (ys := ys) (by omega)) (fun i H1 => Ex H0 H1 ∧ H1 Dl = some (.lst ((List.replicate i true).map V.bl))) ⟨Ex.new hD, upd_same⟩ (fun i H1 _ p => ⟨ex_l (e.trans p.1) ha, ex_l (e.trans p.1) hb⟩) (fun i x H1 H2 hi p y => turn Dl i x H1 H2 hD hi p y) (fun H1 p => q Dl H1 hD p.1 p.2)
  · refine ⟨.ref a, rfl, .ref b, rfl, a, b, xs, ys, rfl, .inr ⟨ex_t e ha, ex_t e hb, fun Dl hD => ?_⟩⟩
    refine lc_it (walk_zipT (n := xs.length) (xs := xs) (ys := ys) (by omega)) (fun i H1 => Ex H0 H1 ∧ H1 Dl = some (.lst ((List.replicate i true).map V.bl))) ⟨Ex.new hD, upd_same⟩ (fun i H1 _ p => ⟨ex_t (e.trans p.1) ha, ex_t (e.trans p.1) hb⟩) (fun i x H1 H2 hi p y => turn Dl i x H1 H2 hD hi p y) (fun H1 p => q Dl H1 hD p.1 p.2)
theorem ev_allT {n : Nat} {te : TE} (h : EvL te σ H ((List.replicate n true).map V.bl)) : Ev (tCB (rAll K) (tCons te tNil)) σ H (.bl true) := fun H1 e Q q =>
  h H1 e _ fun p H2 hp e2 h2 => ⟨p, List.replicate n true, rfl, sq_of h2, by
    have e3 : (List.replicate n true).all id = true := by
      rw [List.all_eq_true]
      intro x hx
      rw [(List.mem_replicate.mp hx).2]
      rfl
    rw [e3]
    exact q H2 e2⟩
theorem ev_lenA {a : Addr} {xs : List V} {te : TE} (h : Ev te σ H (.ref a)) (h3 : SqL K H a xs ∨ SqT K H a xs) : Ev (tCB (rLenS K) (tCons te tNil)) σ H (.int (xs.length : Int)) := fun H1 e Q q =>
  h H1 e _ fun H2 e2 => ⟨a, xs, rfl, by
    rcases h3 with h3 | h3
    · exact .inl (ex_l (e.trans e2) h3)
    · exact .inr (ex_t (e.trans e2) h3), q H2 e2⟩
end
theorem kit_list {K : PySem.W.Frag} : PySem.W.kitAny K (.type "list") [.type "list", .type "tuple"] = some true := kitAny_cons (b := true) (kit_ty (by decide +kernel)) (fun h => by cases h) (fun _ => rfl)
theorem kit_tuple {K : PySem.W.Frag} : PySem.W.kitAny K (.type "tuple") [.type "list", .type "tuple"] = some true := kitAny_cons (b := false) (kit_ty (by decide +kernel)) (fun _ => kitAny_cons (b := true) (kit_ty (by decide +kernel)) (fun h => by cases h) (fun _ => rfl)) (fun h => by cases h)
theorem kit_int {K : PySem.W.Frag} : PySem.W.kitAny K (.type "int") [.type "list", .type "tuple"] = some false := kitAny_cons (b := false) (kit_ty (by decide +kernel)) (fun _ => kitAny_cons (b := false) (kit_ty (by decide +kernel)) (fun _ => kitAny_nil) (fun h => by cases h)) (fun h => by cases h)
theorem kit_bool {K : PySem.W.Frag} : PySem.W.kitAny K (.type "bool") [.type "list", .type "tuple"] = some false := kitAny_cons (b := false) (kit_ty (by decide +kernel)) (fun _ => kitAny_cons (b := false) (kit_ty (by decide +kernel)) (fun _ => kitAny_nil) (fun h => by cases h)) (fun h => by cases h)
theorem kit_str {K : PySem.W.Frag} : PySem.W.kitAny K (.type "str") [.type "list", .type "tuple"] = some false := kitAny_cons (b := false) (kit_ty (by decide +kernel)) (fun _ => kitAny_cons (b := false) (kit_ty (by decide +kernel)) (fun _ => kitAny_nil) (fun h => by cases h)) (fun h => by cases h)
theorem kit_non {K : PySem.W.Frag} : PySem.W.kitAny K (.type "NoneType") [.type "list", .type "tuple"] = some false := kitAny_cons (b := false) (kit_ty (by decide +kernel)) (fun _ => kitAny_cons (b := false) (kit_ty (by decide +kernel)) (fun _ => kitAny_nil) (fun h => by cases h)) (fun h => by cases h)
end HH
set_option maxHeartbeats 4000000
namespace HH
open PySem PySem.Spec PyProof.Rows L2 Evl RZ
def spOf (K : PySem.W.Frag) : Sp := fun vs H Q _ => ∃ (p l : Addr) (xs : List V) (n : Nat), vs = [.ref p, .ref l] ∧ SqL K H l xs ∧ 0 < xs.length ∧ xs.length < 100000 ∧ l ≠ p ∧ Bx H p n ∧ n < Lim ∧ ∀ (r : Nat) (x : V) H', xs[r]? = some x → ExB p H H' → Bx H' p (n + 1) → Q x H'
def spDip (K : PySem.W.Frag) : Sp := fun vs H Q _ => ∃ (a : Addr) (k : Nat) (ns : List Int), vs = [.ref a, .int (k : Int)] ∧ SqL K H a (ns.map V.int) ∧ k ≤ 100 ∧ ∀ p H', H p = none → Ex H H' → Bx H' p 0 → Q (.ref p) H'
def spFolded (K : PySem.W.Frag) : Sp := fun vs H Q _ => ∃ (a : Addr) (m : Nat) (ns : List Int), vs = [.ref a, .int (m : Int)] ∧ 0 < m ∧ m ≤ 10 ∧ SqL K H a (ns.map V.int) ∧ ns.length ≤ 63 ∧ ∀ p H' (ms : List Int), H p = none → Ex H H' → ms.length ≤ m → H' p = some (.lst (ms.map V.int)) → Q (.ref p) H'
def Tame (b : Int × Int) : Prop := -(10 ^ 12) < b.1 ∧ b.1 < 10 ^ 12 ∧ 0 ≤ b.2 ∧ b.2 < 10 ^ 12
section
variable {K : PySem.W.Frag} {σ : L2.St} {H H' : Hp} {ta tb te tx : TE} {x y z v : V} {D : Ends} {tz : TS}
theorem el_listN {xs : List V} (ha : EvL ta σ H xs) : EvL (tCB (rListS K) (tCons ta tNil)) σ H xs := fun H1 e Q q =>
  ha H1 e _ fun p H2 hp e2 h2 => ⟨p, xs, rfl, .inl (sq_of h2), fun l hl => q l _ (fresh_back e2 hl) (e2.trans (Ex.new hl)) upd_same⟩
theorem rc_abs {i : Int} : RC (fun xs H Q => ∃ i, xs = [.int i] ∧ Q (.int (if i < 0 then -i else i)) H) [.int i] H (.int (if i < 0 then -i else i)) := fun H1 _ _ q => ⟨i, rfl, q H1 (Ex.refl H1)⟩
theorem rc_intB {b : Bool} : RC (fun xs H Q => (∃ i, xs = [.int i] ∧ Q (.int i) H) ∨ ∃ k, xs = [.bl k] ∧ Q (.int (if k then 1 else 0)) H) [.bl b] H (.int (if b then 1 else 0)) := fun H1 _ _ q => .inr ⟨b, rfl, q H1 (Ex.refl H1)⟩
end
theorem b01 (b : Bool) : -(2 ^ 64) < (if b = true then (1 : Int) else 0) ∧ (if b = true then (1 : Int) else 0) < 2 ^ 64 := by
  cases b <;> decide
theorem b01n (b : Bool) : 0 ≤ (if b = true then (1 : Int) else 0) := by
  cases b <;> decide
theorem cut_ints (ns : List Int) (lo hi : Option Int) : ∃ ms : List Int, cutV (ns.map V.int) lo hi = ms.map V.int ∧ ms.length ≤ ns.length - HT.sIx ns.length 0 lo := by
  refine ⟨(ns.drop (HT.sIx ns.length 0 lo)).take (HT.sIx ns.length ns.length hi - HT.sIx ns.length 0 lo), ?_, ?_⟩
  · unfold cutV
    rw [List.length_map, List.map_take, List.map_drop]
  · rw [List.length_take, List.length_drop]
    omega
section
variable {K : PySem.W.Frag} {σ : L2.St} {H H' : Hp} {D : Ends} {tz tu : TS} {g : TG}
theorem q_forE {xs : List V} {tl : TE} (h : EvL tl σ H xs) (Pv : Addr → Nat → L2.St → Hp → Prop) (h0 : ∀ c H1, H c = none → Ex H H1 → H1 c = some (.lst xs) → Pv c 0 σ H1) (hl : ∀ c i σ' H', i ≤ xs.length → Pv c i σ' H' → SqL K H' c xs)
    (hs : ∀ c i x σ' H' T, xs[i]? = some x → Pv c i σ' H' → H' T = none → g (.ref T) σ' (upd H' T (.tup [.int (i : Nat), x])) fun σ2 H2 => tu { D with nx := Pv c (i + 1), ct := Pv c (i + 1), bk := tz D } σ2 H2) (hd : ∀ c σ' H', Pv c xs.length σ' H' → tz D σ' H') : tSeq (tFor (iEnum K (tCons tl tNil)) g tu) tz D σ H :=
  h H (Ex.refl H) _ fun c H1 hc e h1 => ⟨c, xs, rfl, sq_of h1, for_it (walk_enum (xs := xs)) (D := { D with nx := tz D }) (Pv c) (h0 c H1 hc e h1) (hl c) (fun i x σ' H' H2 hi p y => by
    obtain ⟨T, u, z, rfl, nT, rfl, hu, hz⟩ := y
    cases hu
    exact hs c i z σ' H' T hz p nT) (hd c)⟩
end
theorem fmod_nat (i m : Nat) : ((i : Nat) : Int).fmod ((m : Nat) : Int) = ((i % m : Nat) : Int) := by
  rw [Int.fmod_eq_emod_of_nonneg _ (Int.natCast_nonneg m)]
  rfl
theorem ExB.back {b p : Addr} {H H' : Hp} (e : ExB b H H') (h : H' p = none) (n : p ≠ b) : H p = none := by
  cases z : H p with
  | none => rfl
  | some o =>
    rw [e p o n z] at h
    cases h
end HH
set_option maxHeartbeats 4000000
namespace HH
open PySem PySem.Spec PyProof.Rows L2 Evl RZ
def Nice (k : Nat) (d : PyData) : Prop := d.canLay0 = true ∧ d.depth ≤ k
theorem dp_ints {K : PySem.W.Frag} {H : Hp} : ∀ ns : List Int, DpAll K H (ns.map V.int) (ns.map PyData.int)
  | [] => .nil
  | n :: ns => .cons (.int n) (dp_ints ns)
mutual
theorem dp_ex {K : PySem.W.Frag} {H H' : Hp} (e : Ex H H') : ∀ {v : V} {d : PyData}, Dp K H v d → Dp K H' v d
  | _, _, .non => .non
  | _, _, .bl b => .bl b
  | _, _, .int i => .int i
  | _, _, .str x => .str x
  | _, _, .lst h g => .lst (ex_l e h) (dps_ex e g)
  | _, _, .tup h g => .tup (ex_t e h) (dps_ex e g)
theorem dps_ex {K : PySem.W.Frag} {H H' : Hp} (e : Ex H H') : ∀ {v : List V} {d : List PyData}, DpAll K H v d → DpAll K H' v d
  | _, _, .nil => .nil
  | _, _, .cons h g => .cons (dp_ex e h) (dps_ex e g)
end
section
variable {K : PySem.W.Frag} {σ : L2.St} {H H' : Hp} {te : TE}
end
theorem sS_at {pre post : Row} {x y : Int × Int} : sS (pre ++ x :: y :: post) pre.length = x.1 ∧ tS (pre ++ x :: y :: post) pre.length = x.2 ∧ sS (pre ++ x :: y :: post) (pre.length + 1) = y.1 ∧ tS (pre ++ x :: y :: post) (pre.length + 1) = y.2 := by
  unfold sS tS
  have h1 : (pre ++ x :: y :: post)[pre.length]? = some x := by
    rw [List.getElem?_append_right (Nat.le_refl _), Nat.sub_self]
    rfl
  have h2 : (pre ++ x :: y :: post)[pre.length + 1]? = some y := by
    rw [List.getElem?_append_right (by omega), show pre.length + 1 - pre.length = 1 by omega]
    rfl
  rw [h1, h2]
  exact ⟨rfl, rfl, rfl, rfl⟩
theorem split_take {pre post : Row} {x y : Int × Int} : (pre ++ x :: y :: post).take pre.length = pre ∧ (pre ++ x :: y :: post).drop (pre.length + 2) = post := by
  constructor
  · rw [List.take_append_of_le_length (Nat.le_refl _), List.take_length]
  · rw [← List.drop_drop, List.drop_append_of_le_length (Nat.le_refl _), List.drop_length]
    rfl
theorem pass_split {pre post : Row} {x y : Int × Int} : passR (pre ++ x :: y :: post) (pre.length + 1) = pre ++ (y.1 - x.2, y.2) :: x :: post := by
  unfold passR
  obtain ⟨h1, h2, h3, h4⟩ := sS_at (pre := pre) (post := post) (x := x) (y := y)
  obtain ⟨g1, g2⟩ := split_take (pre := pre) (post := post) (x := x) (y := y)
  rw [Nat.add_sub_cancel, h1, h2, h3, h4, g1, show pre.length + 1 + 1 = pre.length + 2 from rfl, g2, List.append_assoc]
  rfl
theorem fall_split {pre post : Row} {x y : Int × Int} : fallR (pre ++ x :: y :: post) pre.length = pre ++ y :: (x.1 + y.2, x.2) :: post := by
  unfold fallR
  obtain ⟨h1, h2, h3, h4⟩ := sS_at (pre := pre) (post := post) (x := x) (y := y)
  obtain ⟨g1, g2⟩ := split_take (pre := pre) (post := post) (x := x) (y := y)
  rw [h1, h2, h3, h4, g1, g2, List.append_assoc]
  rfl
theorem lets_split {pre post : Row} {x y : Int × Int} : letsN (pre ++ x :: y :: post) (pre.length + 1) = decide (y.1 - x.2 > x.1) := by
  unfold letsN
  obtain ⟨h1, h2, h3, h4⟩ := sS_at (pre := pre) (post := post) (x := x) (y := y)
  rw [Nat.add_sub_cancel, h1, h2, h3, decide_eq_true (Nat.succ_pos _), Bool.true_and]
theorem falls_split {pre post : Row} {x y : Int × Int} : fallsN (pre ++ x :: y :: post) pre.length = decide (x.1 > y.1) := by
  unfold fallsN
  obtain ⟨h1, h2, h3, h4⟩ := sS_at (pre := pre) (post := post) (x := x) (y := y)
  rw [h1, h3]
def tsum : Row → Int
  | [] => 0
  | b :: r => b.2 + tsum r
end HH
set_option maxHeartbeats 4000000
namespace HH
abbrev Cow := Nat × (Int × Int)
def Chk (id : Nat) : Int → List Cow → Prop
  | _, [] => True
  | c, y :: r => (y.1 < id → y.2.1 < c) ∧ Chk id (if y.1 < id then c + y.2.2 else c) r
def PInv : List Cow → Prop
  | [] => True
  | x :: r => Chk x.1 (x.2.1 + x.2.2) r ∧ PInv r
def FChk (id : Nat) : Int → List Cow → Prop
  | _, [] => True
  | c, y :: r => (y.1 < id → c < y.2.1) ∧ FChk id (if id < y.1 then c + y.2.2 else c) r
def FInv : List Cow → Prop
  | [] => True
  | x :: r => FChk x.1 x.2.1 r ∧ FInv r
def tag : Nat → Row → List Cow
  | _, [] => []
  | k, b :: r => (k, b) :: tag (k + 1) r
theorem tag_snd : ∀ (k : Nat) (rs : Row), (tag k rs).map (·.2) = rs
  | _, [] => rfl
  | k, b :: r => by
    show b :: (tag (k + 1) r).map (·.2) = b :: r
    rw [tag_snd]
theorem tag_fst : ∀ (k : Nat) (rs : Row), (tag k rs).map (·.1) = (List.range rs.length).map (k + ·)
  | _, [] => rfl
  | k, b :: r => by
    show k :: (tag (k + 1) r).map (·.1) = (List.range (r.length + 1)).map (k + ·)
    rw [tag_fst, List.range_succ_eq_map, List.map_cons, List.map_map]
    have e : (List.range r.length).map (fun x => k + 1 + x) = (List.range r.length).map ((fun x => k + x) ∘ Nat.succ) := List.map_congr_left fun i _ => by
      show k + 1 + i = k + (i + 1)
      omega
    rw [e]
    rfl
theorem tag_len (k : Nat) (rs : Row) : (tag k rs).length = rs.length := by
  have := congrArg List.length (tag_snd k rs)
  rw [List.length_map] at this
  exact this
theorem chk_tag : ∀ (id k : Nat) (c : Int) (rs : Row), id ≤ k → Chk id c (tag k rs)
  | _, _, _, [], _ => True.intro
  | id, k, c, b :: r, h => by
    refine ⟨fun h1 => ?_, ?_⟩
    · have h2 : k < id := h1
      omega
    · rw [if_neg (show ¬ k < id by omega)]
      exact chk_tag id (k + 1) c r (by omega)
theorem fchk_tag : ∀ (id k : Nat) (c : Int) (rs : Row), id ≤ k → FChk id c (tag k rs)
  | _, _, _, [], _ => True.intro
  | id, k, c, b :: r, h => by
    refine ⟨fun h1 => ?_, fchk_tag id (k + 1) _ r (by omega)⟩
    have h2 : k < id := h1
    omega
theorem pinv_tag : ∀ (k : Nat) (rs : Row), PInv (tag k rs)
  | _, [] => True.intro
  | k, b :: r => ⟨chk_tag k (k + 1) _ r (by omega), pinv_tag (k + 1) r⟩
theorem finv_tag : ∀ (k : Nat) (rs : Row), FInv (tag k rs)
  | _, [] => True.intro
  | k, b :: r => ⟨fchk_tag k (k + 1) _ r (by omega), finv_tag (k + 1) r⟩
theorem pinv_tail : ∀ {pre post : List Cow}, PInv (pre ++ post) → PInv post
  | [], _, h => h
  | _ :: pre, _, h => pinv_tail (pre := pre) h.2
theorem finv_tail : ∀ {pre post : List Cow}, FInv (pre ++ post) → FInv post
  | [], _, h => h
  | _ :: pre, _, h => finv_tail (pre := pre) h.2
theorem pinv_lt {pre post : List Cow} {a b : Cow} (h : PInv (pre ++ a :: b :: post)) (hp : b.2.1 - a.2.2 > a.2.1) (hne : a.1 ≠ b.1) : a.1 < b.1 := by
  have h1 := (pinv_tail h).1.1
  rcases Nat.lt_or_ge a.1 b.1 with h2 | h2
  · exact h2
  · have := h1 (by omega)
    omega
theorem finv_lt {pre post : List Cow} {a b : Cow} (h : FInv (pre ++ a :: b :: post)) (hp : a.2.1 > b.2.1) (hne : a.1 ≠ b.1) : a.1 < b.1 := by
  have h1 := (finv_tail h).1.1
  rcases Nat.lt_or_ge a.1 b.1 with h2 | h2
  · exact h2
  · have := h1 (by omega)
    omega
theorem chk_pass {id : Nat} {a b : Cow} {post : List Cow} (hab : a.1 < b.1) (ht : 0 ≤ b.2.2) (hp : b.2.1 - a.2.2 > a.2.1) : ∀ {pre : List Cow} {c : Int}, Chk id c (pre ++ a :: b :: post) → Chk id c (pre ++ (b.1, (b.2.1 - a.2.2, b.2.2)) :: a :: post)
  | [], c, h => by
    obtain ⟨h1, h2, h3⟩ := h
    show (b.1 < id → b.2.1 - a.2.2 < c) ∧ (a.1 < id → a.2.1 < if b.1 < id then c + b.2.2 else c) ∧ Chk id _ post
    by_cases hb : b.1 < id
    · have ha : a.1 < id := by omega
      rw [if_pos ha] at h2 h3
      rw [if_pos hb] at h3 ⊢
      have g1 := h1 ha
      have g2 := h2 hb
      refine ⟨fun _ => by omega, fun _ => by omega, ?_⟩
      rw [if_pos ha]
      have e : c + b.2.2 + a.2.2 = c + a.2.2 + b.2.2 := by omega
      show Chk id (c + b.2.2 + a.2.2) post
      rw [e]
      exact h3
    · rw [if_neg hb] at h3 ⊢
      refine ⟨fun z => absurd z hb, h1, ?_⟩
      exact h3
  | x :: pre, c, h => ⟨h.1, chk_pass hab ht hp (pre := pre) h.2⟩
theorem fchk_fall {id : Nat} {a b : Cow} {post : List Cow} (hab : a.1 < b.1) (ht : 0 ≤ b.2.2) (hp : a.2.1 > b.2.1) : ∀ {pre : List Cow} {c : Int}, FChk id c (pre ++ a :: b :: post) → FChk id c (pre ++ b :: (a.1, (a.2.1 + b.2.2, a.2.2)) :: post)
  | [], c, h => by
    obtain ⟨h1, h2, h3⟩ := h
    show (b.1 < id → c < b.2.1) ∧ (a.1 < id → (if id < b.1 then c + b.2.2 else c) < a.2.1 + b.2.2) ∧ FChk id (if id < a.1 then (if id < b.1 then c + b.2.2 else c) + a.2.2 else (if id < b.1 then c + b.2.2 else c)) post
    by_cases ha : id < a.1
    · have hb : id < b.1 := by omega
      rw [if_pos ha] at h2 h3
      rw [if_pos hb] at h3
      rw [if_pos ha, if_pos hb]
      refine ⟨fun z => by omega, fun z => by omega, ?_⟩
      have e : c + b.2.2 + a.2.2 = c + a.2.2 + b.2.2 := by omega
      rw [e]
      exact h3
    · rw [if_neg ha] at h2 h3
      rw [if_neg ha]
      by_cases hb : id < b.1
      · rw [if_pos hb] at h3
        rw [if_pos hb]
        refine ⟨fun z => by omega, fun z => ?_, h3⟩
        have := h1 z
        omega
      · rw [if_neg hb] at h3
        rw [if_neg hb]
        refine ⟨h2, fun z => ?_, h3⟩
        have := h1 z
        omega
  | x :: pre, c, h => ⟨h.1, fchk_fall hab ht hp (pre := pre) h.2⟩
theorem pinv_pass {a b : Cow} {post : List Cow} (hab : a.1 < b.1) (ht : 0 ≤ b.2.2) (hp : b.2.1 - a.2.2 > a.2.1) : ∀ {pre : List Cow}, PInv (pre ++ a :: b :: post) → PInv (pre ++ (b.1, (b.2.1 - a.2.2, b.2.2)) :: a :: post)
  | [], h => by
    obtain ⟨⟨_, h1⟩, h2, h3⟩ := h
    rw [if_neg (show ¬ b.1 < a.1 by omega)] at h1
    refine ⟨⟨fun _ => ?_, ?_⟩, h1, h3⟩
    · show a.2.1 < b.2.1 - a.2.2 + b.2.2
      omega
    · show Chk b.1 (if a.1 < b.1 then b.2.1 - a.2.2 + b.2.2 + a.2.2 else _) post
      rw [if_pos hab]
      have e : b.2.1 - a.2.2 + b.2.2 + a.2.2 = b.2.1 + b.2.2 := by omega
      rw [e]
      exact h2
  | x :: pre, h => ⟨chk_pass hab ht hp h.1, pinv_pass hab ht hp (pre := pre) h.2⟩
theorem finv_fall {a b : Cow} {post : List Cow} (hab : a.1 < b.1) (ht : 0 ≤ b.2.2) (hp : a.2.1 > b.2.1) : ∀ {pre : List Cow}, FInv (pre ++ a :: b :: post) → FInv (pre ++ b :: (a.1, (a.2.1 + b.2.2, a.2.2)) :: post)
  | [], h => by
    obtain ⟨⟨_, h1⟩, h2, h3⟩ := h
    rw [if_pos hab] at h1
    refine ⟨⟨fun _ => ?_, ?_⟩, h1, h3⟩
    · show b.2.1 < a.2.1 + b.2.2
      omega
    · show FChk b.1 (if b.1 < a.1 then b.2.1 + a.2.2 else b.2.1) post
      rw [if_neg (by omega)]
      exact h2
  | x :: pre, h => ⟨fchk_fall hab ht hp h.1, finv_fall hab ht hp (pre := pre) h.2⟩
def cnt (a : Nat) : List Nat → Nat
  | [] => 0
  | y :: r => (if a < y then 1 else 0) + cnt a r
def asc : List Nat → Nat
  | [] => 0
  | a :: r => cnt a r + asc r
theorem cnt_swap {x a b : Nat} {post : List Nat} : ∀ pre : List Nat, cnt x (pre ++ a :: b :: post) = cnt x (pre ++ b :: a :: post)
  | [] => by
    show (if x < a then 1 else 0) + ((if x < b then 1 else 0) + cnt x post) = (if x < b then 1 else 0) + ((if x < a then 1 else 0) + cnt x post)
    omega
  | y :: pre => by
    show (if x < y then 1 else 0) + cnt x (pre ++ a :: b :: post) = (if x < y then 1 else 0) + cnt x (pre ++ b :: a :: post)
    rw [cnt_swap pre]
theorem asc_swap {a b : Nat} {post : List Nat} (h : a < b) : ∀ pre : List Nat, asc (pre ++ a :: b :: post) = asc (pre ++ b :: a :: post) + 1
  | [] => by
    show ((if a < b then 1 else 0) + cnt a post) + (cnt b post + asc post) = ((if b < a then 1 else 0) + cnt b post) + (cnt a post + asc post) + 1
    rw [if_pos h, if_neg (by omega)]
    omega
  | x :: pre => by
    show cnt x (pre ++ a :: b :: post) + asc (pre ++ a :: b :: post) = cnt x (pre ++ b :: a :: post) + asc (pre ++ b :: a :: post) + 1
    rw [cnt_swap pre, asc_swap h pre]
    omega
theorem cnt_le (a : Nat) : ∀ l : List Nat, cnt a l ≤ l.length
  | [] => Nat.le_refl _
  | y :: r => by
    show (if a < y then 1 else 0) + cnt a r ≤ r.length + 1
    have := cnt_le a r
    split <;> omega
theorem asc_le : ∀ l : List Nat, asc l ≤ l.length * l.length
  | [] => Nat.le_refl _
  | a :: r => by
    show cnt a r + asc r ≤ (r.length + 1) * (r.length + 1)
    have h1 := cnt_le a r
    have h2 := asc_le r
    have e : (r.length + 1) * (r.length + 1) = r.length * r.length + 2 * r.length + 1 := by
      rw [Nat.add_mul, Nat.mul_add]
      omega
    omega
inductive PRun (L0 : List Cow) : List Cow → List (Int × Int) → Prop
  | nil : PRun L0 L0 []
  | step {pre post : List Cow} {a b : Cow} {ps : List (Int × Int)} : PRun L0 (pre ++ a :: b :: post) ps → b.2.1 - a.2.2 > a.2.1 → PRun L0 (pre ++ (b.1, (b.2.1 - a.2.2, b.2.2)) :: a :: post) (ps ++ [((a.1 : Int), (b.1 : Int))])
inductive FRun (L0 : List Cow) : List Cow → List (Int × Int) → Prop
  | nil : FRun L0 L0 []
  | step {pre post : List Cow} {a b : Cow} {ps : List (Int × Int)} : FRun L0 (pre ++ a :: b :: post) ps → a.2.1 > b.2.1 → FRun L0 (pre ++ b :: (a.1, (a.2.1 + b.2.2, a.2.2)) :: post) (ps ++ [((a.1 : Int), (b.1 : Int))])
structure Facts (n : Nat) (L : List Cow) (ps : List (Int × Int)) : Prop where
  len : L.length = n
  tl : ∀ x ∈ L, 0 ≤ x.2.2
  nd : (L.map (·.1)).Nodup
  few : ps.length + asc (L.map (·.1)) ≤ n * n
theorem nd_ne {pre post : List Cow} {a b : Cow} (h : ((pre ++ a :: b :: post).map (·.1)).Nodup) : a.1 ≠ b.1 := by
  rw [List.map_append] at h
  have h1 := (List.nodup_append.mp h).2.1
  intro e
  have h2 := (List.nodup_cons.mp h1).1
  apply h2
  show a.1 ∈ b.1 :: post.map (·.1)
  rw [e]
  exact List.mem_cons_self ..
theorem nd_swap {pre post : List Cow} {a b : Cow} {u v : Int × Int} (h : ((pre ++ a :: b :: post).map (·.1)).Nodup) : ((pre ++ (b.1, u) :: (a.1, v) :: post).map (·.1)).Nodup := by
  rw [List.map_append] at h ⊢
  refine (List.Perm.nodup_iff ?_).mp h
  exact List.Perm.append_left _ (List.Perm.swap ..)
theorem asc_step {pre post : List Cow} {a b : Cow} {u v : Int × Int} (h : a.1 < b.1) : asc ((pre ++ a :: b :: post).map (·.1)) = asc ((pre ++ (b.1, u) :: (a.1, v) :: post).map (·.1)) + 1 := by
  rw [List.map_append, List.map_append]
  exact asc_swap h (pre.map (·.1))
theorem facts_tag {rs : Row} (h : ∀ b ∈ rs, 0 ≤ b.2) : Facts rs.length (tag 0 rs) [] := by
  refine ⟨tag_len 0 rs, fun x hx => ?_, ?_, ?_⟩
  · apply h
    rw [← tag_snd 0 rs]
    exact List.mem_map_of_mem (f := (·.2)) hx
  · rw [tag_fst]
    have e : (fun x => 0 + x) = (id : Nat → Nat) := by
      funext x
      exact Nat.zero_add x
    rw [e, List.map_id]
    exact List.nodup_range
  · have := asc_le ((tag 0 rs).map (·.1))
    rw [List.length_map, tag_len] at this
    show 0 + asc _ ≤ _
    omega
theorem facts_pass {n : Nat} {pre post : List Cow} {a b : Cow} {ps : List (Int × Int)} {q : Int × Int} (f : Facts n (pre ++ a :: b :: post) ps) (i : PInv (pre ++ a :: b :: post)) (hp : b.2.1 - a.2.2 > a.2.1) :
    Facts n (pre ++ (b.1, (b.2.1 - a.2.2, b.2.2)) :: a :: post) (ps ++ [q]) ∧ PInv (pre ++ (b.1, (b.2.1 - a.2.2, b.2.2)) :: a :: post) ∧ asc ((pre ++ (b.1, (b.2.1 - a.2.2, b.2.2)) :: a :: post).map (·.1)) < asc ((pre ++ a :: b :: post).map (·.1)) := by
  have hab := pinv_lt i hp (nd_ne f.nd)
  have hs := asc_step (pre := pre) (post := post) (a := a) (b := b) (u := (b.2.1 - a.2.2, b.2.2)) (v := a.2) hab
  have hb := f.tl b (by simp)
  have ha := f.tl a (by simp)
  refine ⟨⟨?_, fun x hx => ?_, nd_swap (v := a.2) f.nd, ?_⟩, pinv_pass hab hb hp i, ?_⟩
  · rw [← f.len, List.length_append, List.length_append]
    rfl
  · rcases List.mem_append.mp hx with h | h
    · exact f.tl x (List.mem_append_left _ h)
    · rcases List.mem_cons.mp h with rfl | h
      · exact hb
      · rcases List.mem_cons.mp h with rfl | h
        · exact ha
        · exact f.tl x (by simp [h])
  · have := f.few
    rw [List.length_append]
    show ps.length + 1 + asc ((pre ++ (b.1, (b.2.1 - a.2.2, b.2.2)) :: (a.1, a.2) :: post).map (·.1)) ≤ n * n
    omega
  · show asc ((pre ++ (b.1, (b.2.1 - a.2.2, b.2.2)) :: (a.1, a.2) :: post).map (·.1)) < _
    omega
theorem facts_fall {n : Nat} {pre post : List Cow} {a b : Cow} {ps : List (Int × Int)} {q : Int × Int} (f : Facts n (pre ++ a :: b :: post) ps) (i : FInv (pre ++ a :: b :: post)) (hp : a.2.1 > b.2.1) :
    Facts n (pre ++ b :: (a.1, (a.2.1 + b.2.2, a.2.2)) :: post) (ps ++ [q]) ∧ FInv (pre ++ b :: (a.1, (a.2.1 + b.2.2, a.2.2)) :: post) ∧ asc ((pre ++ b :: (a.1, (a.2.1 + b.2.2, a.2.2)) :: post).map (·.1)) < asc ((pre ++ a :: b :: post).map (·.1)) := by
  have hab := finv_lt i hp (nd_ne f.nd)
  have hs := asc_step (pre := pre) (post := post) (a := a) (b := b) (u := b.2) (v := (a.2.1 + b.2.2, a.2.2)) hab
  have hb := f.tl b (by simp)
  have ha := f.tl a (by simp)
  refine ⟨⟨?_, fun x hx => ?_, nd_swap (u := b.2) f.nd, ?_⟩, finv_fall hab hb hp i, ?_⟩
  · rw [← f.len, List.length_append, List.length_append]
    rfl
  · rcases List.mem_append.mp hx with h | h
    · exact f.tl x (List.mem_append_left _ h)
    · rcases List.mem_cons.mp h with rfl | h
      · exact hb
      · rcases List.mem_cons.mp h with rfl | h
        · exact ha
        · exact f.tl x (by simp [h])
  · have := f.few
    rw [List.length_append]
    show ps.length + 1 + asc ((pre ++ (b.1, b.2) :: (a.1, (a.2.1 + b.2.2, a.2.2)) :: post).map (·.1)) ≤ n * n
    omega
  · show asc ((pre ++ (b.1, b.2) :: (a.1, (a.2.1 + b.2.2, a.2.2)) :: post).map (·.1)) < _
    omega
end HH
set_option maxHeartbeats 4000000
namespace HH
open PySem PySem.Spec PyProof.Rows L2 Evl RZ
def rowsOf (L : List Cow) : HH.Row := L.map (·.2)
def ordL (L : List Cow) : List V := L.map fun x => V.int (x.1 : Int)
theorem RowAt.exL {K : PySem.W.Frag} {H H' : Hp} {v : V} {rs : HH.Row} {q : Addr} {ys : List V} (h : RowAt K H v rs) (e : ExB q H H') (hy : H q = some (.lst ys)) : RowAt K H' v rs := by
  obtain ⟨a, vs, h1, h2, h3⟩ := h
  exact ⟨a, vs, h1, e.t hy h2, h3.exB e hy⟩
theorem cow_len (L : List Cow) : (rowsOf L).length = L.length := List.length_map ..
theorem rows_mid (pre post : List Cow) (x y : Cow) : rowsOf (pre ++ x :: y :: post) = rowsOf pre ++ x.2 :: y.2 :: rowsOf post := by
  unfold rowsOf
  rw [List.map_append, List.map_cons, List.map_cons]
theorem ord_tag (rs : HH.Row) : rgV 0 (rs.length : Int) = ordL (tag 0 rs) := by
  unfold rgV ordL
  have h := congrArg (List.map fun k : Nat => V.int (k : Int)) (tag_fst 0 rs)
  rw [List.map_map, List.map_map] at h
  refine Eq.trans ?_ h.symm
  rw [show ((rs.length : Int) - 0).toNat = rs.length by omega]
  refine List.map_congr_left fun i _ => ?_
  show V.int (0 + (i : Int)) = V.int ((0 + i : Nat) : Int)
  rw [Int.zero_add, Nat.zero_add]
section
variable {K : PySem.W.Frag} {σ : L2.St} {H H' : Hp} {te to ta tc : TE} {D : Ends} {tz : TS}
end
structure EndAt (K : PySem.W.Frag) (H H' : Hp) (p : Addr) (q : Addr) (v' : V) (ot lp : Addr) (pvs : List V) (L : List Cow) (ps : List (Int × Int)) (n : Nat) : Prop where
  ex : ExB p H H'
  bx : Bx H' p (n + 1000)
  q : H' q = some (.tup [v', .ref ot, .ref lp])
  row : RowAt K H' v' (rowsOf L)
  ord : H' ot = some (.tup (ordL L))
  lst : H' lp = some (.lst pvs)
  prs : Beasts K H' pvs ps
end HH
set_option maxHeartbeats 4000000
namespace HH
open PySem PySem.Spec PyProof.Rows L2 Evl RZ
inductive All2 {α : Type} (R : V → α → Prop) : List V → List α → Prop
  | nil : All2 R [] []
  | cons {v : V} {x : α} {vs : List V} {xs : List α} : R v x → All2 R vs xs → All2 R (v :: vs) (x :: xs)
theorem All2.mono {α : Type} {R S : V → α → Prop} (h : ∀ v x, R v x → S v x) : ∀ {vs : List V} {xs : List α}, All2 R vs xs → All2 S vs xs
  | _, _, .nil => .nil
  | _, _, .cons a b => .cons (h _ _ a) (All2.mono h b)
theorem All2.app {α : Type} {R : V → α → Prop} : ∀ {vs : List V} {xs : List α} {us : List V} {ys : List α}, All2 R vs xs → All2 R us ys → All2 R (vs ++ us) (xs ++ ys)
  | _, _, _, _, .nil, h => h
  | _, _, _, _, .cons a b, h => .cons a (All2.app b h)
theorem All2.len {α : Type} {R : V → α → Prop} : ∀ {vs : List V} {xs : List α}, All2 R vs xs → vs.length = xs.length
  | _, _, .nil => rfl
  | _, _, .cons a b => by rw [List.length_cons, List.length_cons, All2.len b]
theorem All2.get {α : Type} {R : V → α → Prop} : ∀ {vs : List V} {xs : List α} {i : Nat} {v : V}, All2 R vs xs → vs[i]? = some v → ∃ x, xs[i]? = some x ∧ R v x
  | _, _, _, _, .nil, h => by simp at h
  | _, _, 0, _, .cons a b, h => by
    cases h
    exact ⟨_, rfl, a⟩
  | _, _, i + 1, _, .cons a b, h => All2.get (i := i) b h
abbrev Deed := Bool × Nat
def wordOf (b : Bool) : Str := if b then "pass" else "fall"
def DeedAt (K : PySem.W.Frag) (H : Hp) (v : V) (d : Deed) : Prop := ∃ p, v = .ref p ∧ SqT K H p [.str (wordOf d.1), .int (d.2 : Int)]
section
variable {K : PySem.W.Frag} {σ : L2.St} {H H' : Hp} {t : TT}
end
inductive MRun (L0 : List Cow) : List Cow → List Deed → Prop
  | nil : MRun L0 L0 []
  | pass {pre post : List Cow} {a b : Cow} {ds : List Deed} : MRun L0 (pre ++ a :: b :: post) ds → b.2.1 - a.2.2 > a.2.1 → MRun L0 (pre ++ (b.1, (b.2.1 - a.2.2, b.2.2)) :: a :: post) (ds ++ [(true, pre.length + 1)])
  | fall {pre post : List Cow} {a b : Cow} {ds : List Deed} : MRun L0 (pre ++ a :: b :: post) ds → a.2.1 > b.2.1 → MRun L0 (pre ++ b :: (a.1, (a.2.1 + b.2.2, a.2.2)) :: post) (ds ++ [(false, pre.length)])
structure WanAt (K : PySem.W.Frag) (H H' : Hp) (p : Addr) (q : Addr) (v' : V) (ot lp : Addr) (us : List V) (L : List Cow) (ds : List Deed) (n m : Nat) : Prop where
  ex : ExB p H H'
  bx : Bx H' p (n + m)
  q : H' q = some (.tup [v', .ref ot, .ref lp])
  row : RowAt K H' v' (rowsOf L)
  ord : H' ot = some (.tup (ordL L))
  lst : H' lp = some (.lst us)
  prs : All2 (DeedAt K H') us ds
end HH
set_option maxHeartbeats 4000000
namespace HH
open PySem PySem.Spec PyProof.Rows L2 Evl RZ
section
variable {X : Cx}
end
section
variable {K : PySem.W.Frag} {σ : L2.St} {H H' : Hp} {te : TE} {D : Ends} {tz tu : TS} {g : TG}
theorem et_yes : EvT tYes σ H true := fun H1 _ _ q => q H1 (Ex.refl H1)
theorem given_all (n : Nat) (f : Nat → Bool) : given n (fun _ => true) (fun i => V.bl (f i)) = ((List.range n).map f).map V.bl := by
  unfold given
  rw [List.filter_eq_self.mpr (fun _ _ => rfl), List.map_map]
  rfl
end
def spRight : Sp := fun vs H Q _ => ∃ (p : Addr), vs = [.ref p] ∧ Bx H p 0 ∧ ∀ H', ExB p H H' → Q (.bl true) H'
def spLaw (K : PySem.W.Frag) : Sp := fun vs H Q _ => ∃ (a : Addr) (ns : List Int), vs = [.ref a] ∧ SqL K H a (ns.map V.int) ∧ ns.length ≤ 63 ∧ ∀ H', Q (.bl true) H'
theorem lim_ok {n : Nat} (h : n ≤ 100000000) : n < Lim := by
  have h1 : (2 : Nat) ^ 100 ≤ 2 ^ 4000 := Nat.pow_le_pow_right (by decide) (by decide)
  have h2 : (2 : Nat) ^ 100 = 1267650600228229401496703205376 := by decide
  have h3 : Lim = 2 ^ 4000 := rfl
  rw [h3]
  generalize (2 : Nat) ^ 4000 = L at *
  rw [h2] at h1
  omega
section
variable {K : PySem.W.Frag} {σ : L2.St} {H H' : Hp} {te t1 t2 : TE}
end
theorem q_call {sp : Sp} {dvs : List V} {E : XK} {ta : TA} {i : Nat} {D : Ends} {tz : TS} {σ : L2.St} {H : Hp} (h : ta σ H fun vs H1 => sp (vs ++ dvs) H1 (fun x H2 => tz D (σ.set i (some x)) H2) E) : tSeq (tAsg (tCall sp dvs E ta) (gName i)) tz D σ H := h
end HH
set_option maxHeartbeats 4000000
namespace HH
open PySem PySem.Spec PyProof.Rows L2 Evl RZ
structure FnG (P : Program) (w : World) (K : PySem.W.Frag) (mg : Str → Option Value) (base : Heap) (k : Nat) (f : Addr) (fd : FuncData) (ps : List Str) (sp : Sp) : Prop where
  len : ∀ vs H Q E, sp vs H Q E → vs.length = ps.length
  run : ∀ (A : Around) (outer : List Env) (s : Shared) (H : Hp) (args : Args) (us : List Value) (vs : List V) (Q : VK) (E : XK), A.guards = some [] → Room k A → Env0 P w K mg base A outer s H → BindsTo s fd args (ps.zip us) → Vals vs us → sp vs H Q E →
    codeAny (model P w) A (.call (.ref f) args) (CR CX0 outer P w H s Q E) s
theorem FnG.of {P : Program} {w : World} {K : PySem.W.Frag} {mg : Str → Option Value} {base : Heap} {k : Nat} {f : Addr} {x qual : Str} {params : Arguments} {body : List Stmt} {scope : Scope} {kws : List (Str × V)} {fd : FuncData} {N ps : List Str} {sp : Sp}
    (F : FunD K x qual params body scope [] kws f fd) (S : FnScope N ps scope) (len : ∀ vs H Q E, sp vs H Q E → vs.length = ps.length)
    (hbody : ∀ (cdv : Value) (A : Around) (outer : List Env) (s : Shared) (H : Hp) (vs : List V) (Q : VK) (E : XK), (A.deeper (envOfC qual scope s.heap.objs.size f cdv)).guards = some [] → Room k (A.deeper (envOfC qual scope s.heap.objs.size f cdv)) → sp vs H Q E →
      ∃ t, PSs (cxOf CX0 P w K mg base N qual scope f cdv A outer s H E) body t ∧ t { nx := fun _ H' => Q .non H', rt := Q } (start N vs) H) : FnG P w K mg base (k + 1) f fd ps sp := by
  obtain ⟨oc, od, dV, kV, doc, pm, an, cdv, ct, osl, rfl, lk, hcd, _, _⟩ := F.ex
  refine ⟨len, fun A outer s H args us vs Q E hg hr e0 hb r hsp => ?_⟩
  have inK : K.In s.heap := e0.mod.kin.keeps fun c o z => (e0.bs c o z).1
  have noL : s.heap.NoLimit := e0.mod.nolimit.keeps fun c o z => (e0.bs c o z).1
  have kinds : ∀ y ∈ ps.zip us, scope.names.lookup y.1 = some .local ∨ (scope.names.lookup y.1 = some .cell ∧ ((cellsFrom (s.heap.objs.size + 1) scope.names []).lookup y.1).isSome = true) := fun ⟨nm, v⟩ hy =>
    (S.par nm (List.of_mem_zip hy).1).elim .inl fun z => .inr ⟨z, PySem.W.cellsFrom_some _ _ _ (.inl z)⟩
  refine codeAny_call_function hr.depth (inK _ _ lk) rfl S.co S.gen rfl (PySem.W.codeRec_of inK hcd) (hb _ _ _ _ (wpAny_newFunctionEnv_cells S.kind kinds fun env he s1 x => ?_))
  subst he
  refine ⟨noL.keeps x.toInCall.keep, codeAny_func ?_⟩
  obtain ⟨t, ht, hq⟩ := hbody cdv A outer s H vs Q E hg (hr.deeper _) hsp
  have I0 := inv_start (CX := CX0) (E := E) S hr.hd e0 (len _ _ _ _ hsp) r x
  refine wpAny_mono (ht.run [] s1 (start N vs) H _ I0 hq) (fun fl s' hs => ?_) fun e s' hs => hs
  cases fl with
  | ret u =>
    obtain ⟨v, σ', H', J, rv, q⟩ := hs
    exact ⟨v, H', J.os, J.bare, J.base, J.hok, rv, q⟩
  | next =>
    obtain ⟨σ', H', J, q⟩ := hs
    exact ⟨.non, H', J.os, J.bare, J.base, J.hok, rfl, q⟩
  | brk => exact hs.elim fun _ z => z.elim fun _ z => z.2.elim
  | cont => exact hs.elim fun _ z => z.elim fun _ z => z.2.elim
structure HasG (P : Program) (w : World) (K : PySem.W.Frag) (mg : Str → Option Value) (base : Heap) (k : Nat) (x : Str) (ps : List Str) (sp : Sp) (f : Addr) (fd : FuncData) : Prop where
  G : FnG P w K mg base k f fd ps sp
  g : mg x = some (.ref f)
  kp : PySem.W.keepIn K (.ref f) = true
  b : Binds K fd ps []
section
variable {X : Cx}
end
end HH
set_option maxHeartbeats 4000000
namespace HH
open PySem PySem.Spec PyProof.Rows L2 Evl RZ
end HH
set_option maxHeartbeats 4000000
namespace HH
open PySem PySem.Spec PyProof.Rows L2 Evl RZ
section
variable {X : Cx}
def rGetN : V → V → Hp → VK → Prop := fun x y H Q => ∃ (l : Addr) (xs : List V) (j : Nat) (v : V), x = .ref l ∧ y = .int (j : Int) ∧ H l = some (.lst xs) ∧ xs[j]? = some v ∧ Q v H
theorem get_listN : PGet X rGetN := by
  intro pins s σ H o i ov iv Q I0 ro ri h
  obtain ⟨l, xs, j, v, rfl, rfl, hl, hv, q⟩ := h
  cases ro
  obtain ⟨t, rfl⟩ := ri
  obtain ⟨its, r, pl, hz⟩ := I0.list (SqL.of hl)
  obtain ⟨w, ew, rw'⟩ := r.get hv
  have hj : j < xs.length := (List.getElem?_eq_some_iff.mp hv).1
  have hn := line63
  exact wpAny_getItem_list pl.isList (Int.natCast_nonneg j) (by omega) (by simpa using ew) ⟨v, H, I0, rw', q⟩
end
def Step (L M : List Cow) : Prop := ∃ (pre post : List Cow) (a b : Cow), L = pre ++ a :: b :: post ∧ b.2.1 - a.2.2 > a.2.1 ∧ M = pre ++ (b.1, (b.2.1 - a.2.2, b.2.2)) :: a :: post
inductive Steps : List Cow → List Cow → Prop
  | refl (L : List Cow) : Steps L L
  | head {L M N : List Cow} : Step L M → Steps M N → Steps L N
theorem Steps.trans {L M N : List Cow} (h : Steps L M) (g : Steps M N) : Steps L N := by
  induction h with
  | refl => exact g
  | head s _ ih => exact .head s (ih g)
theorem Steps.one {L M : List Cow} (h : Step L M) : Steps L M := .head h (.refl M)
def Nf (L : List Cow) : Prop := ∀ M, ¬ Step L M
theorem Step.under {L M : List Cow} (pre post : List Cow) (h : Step L M) : Step (pre ++ L ++ post) (pre ++ M ++ post) := by
  obtain ⟨p, q, a, b, rfl, hp, rfl⟩ := h
  exact ⟨pre ++ p, q ++ post, a, b, by simp, hp, by simp⟩
theorem Steps.under {L M : List Cow} (pre post : List Cow) (h : Steps L M) : Steps (pre ++ L ++ post) (pre ++ M ++ post) := by
  induction h with
  | refl => exact .refl _
  | head s _ ih => exact .head (s.under pre post) ih
theorem three {a b c : Cow} (ta : 0 ≤ a.2.2) (tb : 0 ≤ b.2.2) (h1 : b.2.1 - a.2.2 > a.2.1) (h2 : c.2.1 - b.2.2 > b.2.1) :
    Steps [(b.1, (b.2.1 - a.2.2, b.2.2)), a, c] [(c.1, (c.2.1 - a.2.2 - b.2.2, c.2.2)), (b.1, (b.2.1 - a.2.2, b.2.2)), a] ∧ Steps [a, (c.1, (c.2.1 - b.2.2, c.2.2)), b] [(c.1, (c.2.1 - a.2.2 - b.2.2, c.2.2)), (b.1, (b.2.1 - a.2.2, b.2.2)), a] := by
  constructor
  · refine .head (M := [(b.1, (b.2.1 - a.2.2, b.2.2)), (c.1, (c.2.1 - a.2.2, c.2.2)), a]) ⟨[(b.1, (b.2.1 - a.2.2, b.2.2))], [], a, c, rfl, by omega, rfl⟩ (.one ⟨[], [a], (b.1, (b.2.1 - a.2.2, b.2.2)), (c.1, (c.2.1 - a.2.2, c.2.2)), rfl, by dsimp only; omega, rfl⟩)
  · have e : c.2.1 - a.2.2 - b.2.2 = c.2.1 - b.2.2 - a.2.2 := by omega
    rw [e]
    exact .head (M := [(c.1, (c.2.1 - b.2.2 - a.2.2, c.2.2)), a, b]) ⟨[], [b], a, (c.1, (c.2.1 - b.2.2, c.2.2)), rfl, by dsimp only; omega, rfl⟩ (.one ⟨[(c.1, (c.2.1 - b.2.2 - a.2.2, c.2.2))], [], a, b, rfl, h1, rfl⟩)
theorem splits {α : Type} : ∀ {p p' : List α} {a b a' b' : α} {q q' : List α}, p ++ a :: b :: q = p' ++ a' :: b' :: q' →
    (p = p' ∧ a = a' ∧ b = b' ∧ q = q') ∨ (∃ c, p' = p ++ [a] ∧ a' = b ∧ b' = c ∧ q = c :: q') ∨ (∃ c, p = p' ++ [a'] ∧ a = b' ∧ b = c ∧ q' = c :: q) ∨ (∃ m, p' = p ++ a :: b :: m ∧ q = m ++ a' :: b' :: q') ∨ (∃ m, p = p' ++ a' :: b' :: m ∧ q' = m ++ a :: b :: q)
  | [], [], _, _, _, _, _, _, h => by
    simp only [List.nil_append, List.cons.injEq] at h
    exact .inl ⟨rfl, h.1, h.2.1, h.2.2⟩
  | [], [x], a, b, a', b', q, q', h => by
    simp only [List.nil_append, List.cons_append, List.cons.injEq] at h
    exact .inr (.inl ⟨b', by simp [h.1], h.2.1.symm, rfl, h.2.2⟩)
  | [], x :: y :: m, a, b, a', b', q, q', h => by
    simp only [List.nil_append, List.cons_append, List.cons.injEq] at h
    exact .inr (.inr (.inr (.inl ⟨m, by simp [h.1, h.2.1], h.2.2⟩)))
  | [x], [], a, b, a', b', q, q', h => by
    simp only [List.nil_append, List.cons_append, List.cons.injEq] at h
    exact .inr (.inr (.inl ⟨b, by simp [h.1], h.2.1, rfl, h.2.2.symm⟩))
  | x :: y :: m, [], a, b, a', b', q, q', h => by
    simp only [List.nil_append, List.cons_append, List.cons.injEq] at h
    exact .inr (.inr (.inr (.inr ⟨m, by simp [h.1, h.2.1], h.2.2.symm⟩)))
  | x :: p, y :: p', a, b, a', b', q, q', h => by
    simp only [List.cons_append, List.cons.injEq] at h
    obtain ⟨rfl, h⟩ := h
    rcases splits h with ⟨rfl, k⟩ | ⟨c, rfl, k⟩ | ⟨c, rfl, k⟩ | ⟨m, rfl, k⟩ | ⟨m, rfl, k⟩
    · exact .inl ⟨rfl, k⟩
    · exact .inr (.inl ⟨c, rfl, k⟩)
    · exact .inr (.inr (.inl ⟨c, rfl, k⟩))
    · exact .inr (.inr (.inr (.inl ⟨m, rfl, k⟩)))
    · exact .inr (.inr (.inr (.inr ⟨m, rfl, k⟩)))
theorem near {L M N : List Cow} (ht : ∀ x ∈ L, 0 ≤ x.2.2) (h : Step L M) (g : Step L N) : ∃ J, Steps M J ∧ Steps N J := by
  obtain ⟨p, q, a, b, rfl, h1, rfl⟩ := h
  obtain ⟨p', q', a', b', e, h2, rfl⟩ := g
  rcases splits e with ⟨rfl, rfl, rfl, rfl⟩ | ⟨c, rfl, rfl, rfl, rfl⟩ | ⟨c, rfl, rfl, rfl, rfl⟩ | ⟨m, rfl, rfl⟩ | ⟨m, rfl, rfl⟩
  · exact ⟨_, .refl _, .refl _⟩
  · obtain ⟨s1, s2⟩ := three (a := a) (b := a') (c := b') (ht a (by simp)) (ht a' (by simp)) h1 h2
    refine ⟨p ++ [(b'.1, (b'.2.1 - a.2.2 - a'.2.2, b'.2.2)), (a'.1, (a'.2.1 - a.2.2, a'.2.2)), a] ++ q', ?_, ?_⟩
    · have := s1.under p q'
      simpa using this
    · have := s2.under p q'
      simpa using this
  · obtain ⟨s1, s2⟩ := three (a := a') (b := a) (c := b) (ht a' (by simp)) (ht a (by simp)) h2 h1
    refine ⟨p' ++ [(b.1, (b.2.1 - a'.2.2 - a.2.2, b.2.2)), (a.1, (a.2.1 - a'.2.2, a.2.2)), a'] ++ q, ?_, ?_⟩
    · have := s2.under p' q
      simpa using this
    · have := s1.under p' q
      simpa using this
  · refine ⟨p ++ (b.1, (b.2.1 - a.2.2, b.2.2)) :: a :: (m ++ (b'.1, (b'.2.1 - a'.2.2, b'.2.2)) :: a' :: q'), .one ⟨p ++ (b.1, (b.2.1 - a.2.2, b.2.2)) :: a :: m, q', a', b', by simp, h2, by simp⟩, .one ⟨p, m ++ (b'.1, (b'.2.1 - a'.2.2, b'.2.2)) :: a' :: q', a, b, by simp, h1, by simp⟩⟩
  · refine ⟨p' ++ (b'.1, (b'.2.1 - a'.2.2, b'.2.2)) :: a' :: (m ++ (b.1, (b.2.1 - a.2.2, b.2.2)) :: a :: q), .one ⟨p', m ++ (b.1, (b.2.1 - a.2.2, b.2.2)) :: a :: q, a', b', by simp, h2, by simp⟩, .one ⟨p' ++ (b'.1, (b'.2.1 - a'.2.2, b'.2.2)) :: a' :: m, q, a, b, by simp, h1, by simp⟩⟩
structure Good (L : List Cow) : Prop where
  tl : ∀ x ∈ L, 0 ≤ x.2.2
  nd : (L.map (·.1)).Nodup
  iv : PInv L
theorem Good.step {L M : List Cow} (g : Good L) (h : Step L M) : Good M ∧ asc (M.map (·.1)) < asc (L.map (·.1)) := by
  obtain ⟨p, q, a, b, rfl, h1, rfl⟩ := h
  obtain ⟨f1, f2, f3⟩ := facts_pass (n := (p ++ a :: b :: q).length) (ps := []) (q := (0, 0)) ⟨rfl, g.tl, g.nd, by
    have := asc_le ((p ++ a :: b :: q).map (·.1))
    rw [List.length_map] at this
    show 0 + _ ≤ _
    omega⟩ g.iv h1
  exact ⟨⟨f1.tl, f1.nd, f2⟩, f3⟩
theorem Good.steps {L M : List Cow} (g : Good L) (h : Steps L M) : Good M := by
  induction h with
  | refl => exact g
  | head s _ ih => exact ih (g.step s).1
theorem some_nf : ∀ (n : Nat) {L : List Cow}, Good L → asc (L.map (·.1)) ≤ n → ∃ N, Steps L N ∧ Nf N
  | n, L, g, h => by
    by_cases z : Nf L
    · exact ⟨L, .refl L, z⟩
    · have z' : ∃ M, Step L M := Classical.byContradiction fun e => z fun M s => e ⟨M, s⟩
      obtain ⟨M, s⟩ := z'
      obtain ⟨g2, lt⟩ := g.step s
      cases n with
      | zero => omega
      | succ n =>
        obtain ⟨N, s2, nf⟩ := some_nf n g2 (by omega)
        exact ⟨N, .head s s2, nf⟩
theorem one_nf : ∀ (n : Nat) {L N N' : List Cow}, Good L → asc (L.map (·.1)) ≤ n → Steps L N → Nf N → Steps L N' → Nf N' → N = N'
  | n, L, N, N', g, h, s, nf, s', nf' => by
    cases s with
    | refl =>
      cases s' with
      | refl => rfl
      | head t _ => exact (nf _ t).elim
    | @head _ M _ t u =>
      cases s' with
      | refl => exact (nf' _ t).elim
      | @head _ M' _ t' u' =>
        obtain ⟨J, j1, j2⟩ := near g.tl t t'
        obtain ⟨g2, l2⟩ := g.step t
        obtain ⟨g3, l3⟩ := g.step t'
        cases n with
        | zero => omega
        | succ n =>
          obtain ⟨O, so, nfo⟩ := some_nf _ (g2.steps j1) (Nat.le_refl _)
          have e1 := one_nf n g2 (by omega) u nf (j1.trans so) nfo
          have e2 := one_nf n g3 (by omega) u' nf' (j2.trans so) nfo
          rw [e1, e2]
theorem good_tag {rs : HH.Row} (h : ∀ b ∈ rs, 0 ≤ b.2) : Good (tag 0 rs) := ⟨(facts_tag h).tl, (facts_tag h).nd, pinv_tag 0 rs⟩
theorem Steps.snoc {L M N : List Cow} (h : Steps L M) (s : Step M N) : Steps L N := h.trans (.one s)
theorem PRun.steps {L0 L : List Cow} {ps : List (Int × Int)} (h : PRun L0 L ps) : Steps L0 L := by
  induction h with
  | nil => exact .refl _
  | step _ hp ih => exact ih.snoc ⟨_, _, _, _, rfl, hp, rfl⟩
end HH
set_option maxHeartbeats 4000000
namespace HH
open PySem PySem.Spec PyProof.Rows L2 Evl RZ
def NfR : List Cow → Prop
  | [] => True
  | [_] => True
  | a :: b :: r => ¬ (b.2.1 - a.2.2 > a.2.1) ∧ NfR (b :: r)
theorem nfr_tail {a : Cow} {r : List Cow} (h : NfR (a :: r)) : NfR r := by
  cases r with
  | nil => exact True.intro
  | cons b r => exact h.2
theorem nfr_nf : ∀ {L : List Cow}, NfR L → Nf L := by
  intro L h M s
  obtain ⟨p, q, a, b, rfl, hp, rfl⟩ := s
  induction p with
  | nil => exact h.1 hp
  | cons x p ih => exact ih (nfr_tail h)
theorem nfr_in {w : Cow} : ∀ {A B : List Cow}, NfR (A ++ B) → (∀ x, A.getLast? = some x → ¬ (w.2.1 - x.2.2 > x.2.1)) → (∀ b r, B = b :: r → ¬ (b.2.1 - w.2.2 > w.2.1)) → NfR (A ++ w :: B)
  | [], [], _, _, _ => True.intro
  | [], b :: r, h, _, g => ⟨g b r rfl, h⟩
  | [x], B, h, f, g => ⟨f x rfl, by
    have := nfr_in (w := w) (A := []) (B := B) (nfr_tail h) (fun _ z => by cases z) g
    exact this⟩
  | x :: y :: A, B, h, f, g => ⟨h.1, nfr_in (A := y :: A) (B := B) h.2 (fun z hz => f z (by rw [List.getLast?_cons_cons]; exact hz)) g⟩
def idsV (N : List Cow) : List V := N.map fun x => V.int (x.1 : Int)
structure Kept (S T : List Int) (N : List Cow) : Prop where
  s : ∀ x ∈ N, S[x.1]? = some x.2.1
  t : ∀ x ∈ N, T[x.1]? = some x.2.2
def ExB2 (a b : Addr) (H H' : Hp) : Prop := ∀ c o, c ≠ a → c ≠ b → H c = some o → H' c = some o
def spPassAll : Sp := fun vs H Q _ => ∃ (l sa ta : Addr) (N : List Cow) (S T : List Int) (who : Nat) (s0 t0 : Int), vs = [.ref l, .ref sa, .ref ta, .int (who : Int)] ∧ H l = some (.lst (idsV N)) ∧ H sa = some (.lst (S.map V.int)) ∧ H ta = some (.lst (T.map V.int)) ∧ l ≠ sa ∧ l ≠ ta ∧ sa ≠ ta ∧ Kept S T N ∧ S[who]? = some s0 ∧ T[who]? = some t0 ∧ (∀ x ∈ N, x.1 ≠ who) ∧ N.length ≤ 1000 ∧ 0 ≤ t0 ∧ NfR N ∧
  ∀ (A B : List Cow) (s : Int) H', N = A ++ B → Steps (N ++ [(who, (s0, t0))]) (A ++ (who, (s, t0)) :: B) → NfR (A ++ (who, (s, t0)) :: B) → H' l = some (.lst (idsV (A ++ (who, (s, t0)) :: B))) → H' sa = some (.lst ((S.set who s).map V.int)) → ExB2 l sa H H' → Q .non H'
structure LastAt (K : PySem.W.Frag) (H : Hp) (q : Addr) (L : List Cow) : Prop where
  ex : ∃ (v : V) (ot : Addr), H q = some (.tup [v, .ref ot]) ∧ RowAt K H v (rowsOf L) ∧ H ot = some (.tup (ordL L))
theorem LastAt.mono {K : PySem.W.Frag} {H H' : Hp} {q : Addr} {L : List Cow} (h : LastAt K H q L) (e : Ex H H') : LastAt K H' q L := by
  obtain ⟨v, ot, h1, h2, h3⟩ := h.ex
  exact ⟨v, ot, e _ _ h1, h2.ex e, e _ _ h3⟩
def spRowOrder (K : PySem.W.Frag) : Sp := fun vs H Q _ => ∃ (l sa ta : Addr) (N : List Cow) (S T : List Int), vs = [.ref l, .ref sa, .ref ta] ∧ H l = some (.lst (idsV N)) ∧ H sa = some (.lst (S.map V.int)) ∧ H ta = some (.lst (T.map V.int)) ∧ Kept S T N ∧ N.length ≤ 1000 ∧ ∀ q H', Ex H H' → LastAt K H' q N → Q (.ref q) H'
def spLast (K : PySem.W.Frag) : Sp := fun vs H Q _ => ∃ (v : V) (rs : HH.Row), vs = [v] ∧ RowAt K H v rs ∧ rs.length ≤ 1000 ∧ (∀ b ∈ rs, 0 ≤ b.2) ∧ ∀ q H' (L : List Cow), Ex H H' → LastAt K H' q L → Steps (tag 0 rs) L → NfR L → Q (.ref q) H'
section
variable {K : PySem.W.Frag} {σ : L2.St} {H H' : Hp} {te : TE} {v : V}
theorem getI {S : List Int} {j : Nat} {x : Int} (h : S[j]? = some x) : (S.map V.int)[j]? = some (.int x) := by
  rw [List.getElem?_map, h]
  rfl
theorem el_unzip {i j c : Nat} {vs : List Nat} {rs : HH.Row} (fst : Bool) (hr : RowAt K H v rs) (hl : rs.length ≤ 1000) (h : Ev te σ H v) (hw : ∀ x y, wipe (((wipe σ vs).set i (some x)).set j (some y)) vs = wipe σ vs) (hc : ∀ x y : V, (((wipe σ vs).set i (some x)).set j (some y))[c]? = some (some (if fst then x else y))) :
    EvL (tLc (iTup K te) (gTup K 2 (gCons (gName i) (gCons (gName j) gNil))) tYes (tVar c) vs) σ H (rs.map fun b => V.int (if fst then b.1 else b.2)) := fun H0 e Q q => by
  obtain ⟨a, us, rfl, ht, hb⟩ := hr
  refine h H0 e _ fun H1 e1 => ⟨a, rfl, ⟨us, ex_t (e.trans e1) ht⟩, fun Dl hD => ?_⟩
  refine lc_it (walk_tup (xs := us)) (fun k H2 => Ex H1 H2 ∧ H2 Dl = some (.lst ((rs.take k).map fun b => V.int (if fst then b.1 else b.2)))) ⟨Ex.new hD, upd_same⟩ (fun k H2 _ p => ex_t ((e.trans e1).trans p.1) ht) (fun k x H2 H3 hk p y => ?_) (fun H2 p => ?_)
  · obtain ⟨rfl, hx⟩ := y
    obtain ⟨p1, p2⟩ := p
    have hk' : k < rs.length := by rw [← hb.1]; exact hk
    obtain ⟨u, hu, bp, rfl, hbt⟩ := hb.2 k _ (List.getElem?_eq_getElem hk')
    rw [hx] at hu
    cases hu
    refine ⟨bp, _, rfl, ex_t ((e.trans e1).trans p1) hbt, rfl, _, _, rfl, _, _, rfl, rfl, hw _ _, ?_⟩
    refine ⟨_, hc _ _, _, p2, ?_, Ex.mut p1 hD, ?_⟩
    · rw [List.length_map, List.length_take]
      exact sz_lt (by omega)
    · rw [upd_same, List.take_add_one, List.getElem?_eq_getElem hk', List.map_append]
      cases fst <;> rfl
  · have e3 : rs.take us.length = rs := List.take_of_length_le (by rw [hb.1]; exact Nat.le_refl _)
    rw [e3] at p
    exact q Dl H2 (fresh_back e1 hD) (e1.trans p.1) p.2
end
theorem rows_get (rs : HH.Row) (k : Nat) (b : Int × Int) (h : rs[k]? = some b) : (rs.map (·.1))[k]? = some b.1 ∧ (rs.map (·.2))[k]? = some b.2 := by
  rw [List.getElem?_map, List.getElem?_map, h]
  exact ⟨rfl, rfl⟩
theorem tag_split : ∀ (k i : Nat) (rs : HH.Row) (b : Int × Int), rs[i]? = some b → tag (k + i) (rs.drop i) = (k + i, b) :: tag (k + i + 1) (rs.drop (i + 1))
  | k, 0, b' :: r, b, h => by
    cases h
    rfl
  | k, i + 1, c :: r, b, h => by
    have := tag_split (k + 1) i r b h
    show tag (k + (i + 1)) (r.drop i) = _
    rw [show k + (i + 1) = k + 1 + i by omega, this]
    rfl
  | _, 0, [], _, h => by cases h
  | _, _ + 1, [], _, h => by cases h
theorem set_self {α : Type} {S : List α} {k : Nat} {x : α} (h : S[k]? = some x) : S.set k x = S := by
  refine List.ext_getElem? fun i => ?_
  rw [List.getElem?_set]
  by_cases e : k = i
  · subst e
    rw [if_pos rfl, h, if_pos (List.getElem?_eq_some_iff.mp h).1]
  · rw [if_neg e]
theorem set_at {α : Type} {S : List α} {k : Nat} {x y : α} (h : S[k]? = some x) : (S.set k y)[k]? = some y := by
  rw [List.getElem?_set, if_pos rfl, if_pos (List.getElem?_eq_some_iff.mp h).1]
theorem set_off {α : Type} {S : List α} {k i : Nat} {y : α} (h : k ≠ i) : (S.set k y)[i]? = S[i]? := by
  rw [List.getElem?_set, if_neg h]
theorem idsV_at (A B : List Cow) (x : Cow) : (idsV (A ++ x :: B))[A.length]? = some (.int (x.1 : Int)) := by
  unfold idsV
  rw [List.map_append, List.getElem?_append_right (by rw [List.length_map]; exact Nat.le_refl _), List.length_map, Nat.sub_self]
  rfl
theorem idsV_len (A : List Cow) : (idsV A).length = A.length := List.length_map ..
theorem idsV_ins (A B : List Cow) (w : Cow) : (idsV (A ++ B)).take A.length ++ [.int (w.1 : Int)] ++ (idsV (A ++ B)).drop A.length = idsV (A ++ w :: B) := by
  unfold idsV
  rw [List.map_append, List.take_append_of_le_length (by rw [List.length_map]; exact Nat.le_refl _), List.drop_append_of_le_length (by rw [List.length_map]; exact Nat.le_refl _), List.take_of_length_le (by rw [List.length_map]; exact Nat.le_refl _), List.drop_of_length_le (by rw [List.length_map]; exact Nat.le_refl _), List.map_append, List.append_assoc]
  rfl
end HH
set_option maxHeartbeats 4000000
namespace HH
open PySem PySem.Spec PyProof.Rows L2 Evl RZ
section
variable {K : PySem.W.Frag} {σ : L2.St} {p : Addr} {ta tb te : TE} {D : Ends} {tz : TS}
end
end HH
set_option maxHeartbeats 4000000
namespace HH
open PySem PySem.Spec PyProof.Rows L2 Evl RZ
def beastD (b : Int × Int) : PyData := .tuple [.int b.1, .int b.2]
def rowD (rs : HH.Row) : PyData := .tuple (rs.map beastD)
theorem Beasts.uncons {K : PySem.W.Frag} {H : Hp} {v : V} {vs : List V} {b : Int × Int} {rs : HH.Row} (h : Beasts K H (v :: vs) (b :: rs)) : BeastAt K H v b ∧ Beasts K H vs rs := by
  refine ⟨?_, Nat.succ.inj h.1, fun i c hi => ?_⟩
  · obtain ⟨u, hu, g⟩ := h.2 0 b rfl
    cases hu
    exact g
  · obtain ⟨u, hu, g⟩ := h.2 (i + 1) c hi
    exact ⟨u, hu, g⟩
theorem beasts_dp {K : PySem.W.Frag} {H : Hp} : ∀ {vs : List V} {rs : HH.Row}, Beasts K H vs rs → DpAll K H vs (rs.map beastD)
  | [], [], _ => .nil
  | [], _ :: _, h => by cases h.1
  | _ :: _, [], h => by cases h.1
  | v :: vs, b :: rs, h => by
    obtain ⟨⟨p, rfl, hp⟩, h2⟩ := h.uncons
    exact .cons (.tup hp (.cons (.int _) (.cons (.int _) .nil))) (beasts_dp h2)
theorem RowAt.dp {K : PySem.W.Frag} {H : Hp} {v : V} {rs : HH.Row} (h : RowAt K H v rs) : ∃ a, v = .ref a ∧ Dp K H (.ref a) (rowD rs) := by
  obtain ⟨a, vs, rfl, h1, h2⟩ := h
  exact ⟨a, rfl, .tup h1 (beasts_dp h2)⟩
def Low (b : Int × Int) : Prop := b.1.natAbs < 10 ^ 18 ∧ b.2.natAbs < 10 ^ 18
theorem Tame.low {b : Int × Int} (h : Tame b) : Low b := by
  unfold Tame at h
  have e : (10 : Int) ^ 12 = 1000000000000 := by decide
  have e2 : (10 : Nat) ^ 18 = 1000000000000000000 := by decide
  rw [e] at h
  unfold Low
  rw [e2]
  omega
section
variable {K : PySem.W.Frag} {σ : L2.St} {H H' : Hp} {te : TE} {v : V}
end
theorem alike_beast {K : PySem.W.Frag} {H : Hp} {v u : V} {b : Int × Int} (h : BeastAt K H v b) (g : BeastAt K H u b) : Alike K H 2 v u := by
  obtain ⟨p, rfl, hp⟩ := h
  obtain ⟨q, rfl, hq⟩ := g
  refine .inr ⟨p, q, _, _, rfl, rfl, .inr ⟨hp, hq⟩, rfl, by show 2 ≤ 40000; decide, fun i x y hx hy => ?_⟩
  rw [hx] at hy
  cases hy
  refine .inl ⟨rfl, ?_⟩
  match i, hx with
  | 0, hx => cases hx; exact True.intro
  | 1, hx => cases hx; exact True.intro
  | i + 2, hx => cases hx
theorem alike_ints {K : PySem.W.Frag} {H : Hp} {a b : Addr} {ns : List Nat} (hl : ns.length ≤ 40000) (h : SqT K H a (ns.map fun (k : Nat) => V.int (k : Int))) (g : SqT K H b (ns.map fun (k : Nat) => V.int (k : Int))) : Alike K H 2 (.ref a) (.ref b) := by
  refine .inr ⟨a, b, _, _, rfl, rfl, .inr ⟨h, g⟩, rfl, by rw [List.length_map]; exact hl, fun i x y hx hy => ?_⟩
  rw [hx] at hy
  cases hy
  refine .inl ⟨rfl, ?_⟩
  obtain ⟨k, _, rfl⟩ := List.mem_map.mp (List.mem_of_getElem? hx)
  exact True.intro
theorem Alike.up {K : PySem.W.Frag} {H : Hp} : ∀ {d : Nat} {x y : V}, Alike K H d x y → Alike K H (d + 1) x y
  | 0, _, _, h => h.elim
  | d + 1, x, y, h => by
    rcases h with h | ⟨a, b, xs, ys, h1, h2, h3, h4, h5, h6⟩
    · exact .inl h
    · exact .inr ⟨a, b, xs, ys, h1, h2, h3, h4, h5, fun i u v hu hv => (h6 i u v hu hv).up⟩
def lastD (L : List Cow) : PyData := .tuple [rowD (rowsOf L), .tuple ((L.map fun x => (x.1 : Int)).map PyData.int)]
theorem LastAt.dp {K : PySem.W.Frag} {H : Hp} {p : Addr} {L : List Cow} (h : LastAt K H p L) : Dp K H (.ref p) (lastD L) := by
  obtain ⟨v, ot, h1, h2, h3⟩ := h.ex
  obtain ⟨a, rfl, hd⟩ := h2.dp
  have e : ordL L = (L.map fun x => (x.1 : Int)).map V.int := by
    unfold ordL
    rw [List.map_map]
    rfl
  rw [e] at h3
  exact .tup (st_of h1) (.cons hd (.cons (.tup (st_of h3) (dp_ints _)) .nil))
end HH
set_option maxHeartbeats 4000000
namespace HH
open PySem PySem.Spec PyProof.Rows L2 Evl RZ
def FStep (L M : List Cow) : Prop := ∃ (pre post : List Cow) (a b : Cow), L = pre ++ a :: b :: post ∧ a.2.1 > b.2.1 ∧ M = pre ++ b :: (a.1, (a.2.1 + b.2.2, a.2.2)) :: post
inductive FSteps : List Cow → List Cow → Prop
  | refl (L : List Cow) : FSteps L L
  | head {L M N : List Cow} : FStep L M → FSteps M N → FSteps L N
theorem FSteps.trans {L M N : List Cow} (h : FSteps L M) (g : FSteps M N) : FSteps L N := by
  induction h with
  | refl => exact g
  | head s _ ih => exact .head s (ih g)
theorem FSteps.one {L M : List Cow} (h : FStep L M) : FSteps L M := .head h (.refl M)
def Ff (L : List Cow) : Prop := ∀ M, ¬ FStep L M
theorem FStep.under {L M : List Cow} (pre post : List Cow) (h : FStep L M) : FStep (pre ++ L ++ post) (pre ++ M ++ post) := by
  obtain ⟨p, q, a, b, rfl, hp, rfl⟩ := h
  exact ⟨pre ++ p, q ++ post, a, b, by simp, hp, by simp⟩
theorem FSteps.under {L M : List Cow} (pre post : List Cow) (h : FSteps L M) : FSteps (pre ++ L ++ post) (pre ++ M ++ post) := by
  induction h with
  | refl => exact .refl _
  | head s _ ih => exact .head (s.under pre post) ih
theorem threeF {a b c : Cow} (tb : 0 ≤ b.2.2) (tc : 0 ≤ c.2.2) (h1 : a.2.1 > b.2.1) (h2 : b.2.1 > c.2.1) :
    FSteps [b, (a.1, (a.2.1 + b.2.2, a.2.2)), c] [c, (b.1, (b.2.1 + c.2.2, b.2.2)), (a.1, (a.2.1 + b.2.2 + c.2.2, a.2.2))] ∧ FSteps [a, c, (b.1, (b.2.1 + c.2.2, b.2.2))] [c, (b.1, (b.2.1 + c.2.2, b.2.2)), (a.1, (a.2.1 + b.2.2 + c.2.2, a.2.2))] := by
  constructor
  · exact .head (M := [b, c, (a.1, (a.2.1 + b.2.2 + c.2.2, a.2.2))]) ⟨[b], [], (a.1, (a.2.1 + b.2.2, a.2.2)), c, rfl, by dsimp only; omega, rfl⟩ (.one ⟨[], [(a.1, (a.2.1 + b.2.2 + c.2.2, a.2.2))], b, c, rfl, h2, rfl⟩)
  · have e : a.2.1 + b.2.2 + c.2.2 = a.2.1 + c.2.2 + b.2.2 := by omega
    rw [e]
    exact .head (M := [c, (a.1, (a.2.1 + c.2.2, a.2.2)), (b.1, (b.2.1 + c.2.2, b.2.2))]) ⟨[], [(b.1, (b.2.1 + c.2.2, b.2.2))], a, c, rfl, by omega, rfl⟩ (.one ⟨[c], [], (a.1, (a.2.1 + c.2.2, a.2.2)), (b.1, (b.2.1 + c.2.2, b.2.2)), rfl, by dsimp only; omega, rfl⟩)
theorem nearF {L M N : List Cow} (ht : ∀ x ∈ L, 0 ≤ x.2.2) (h : FStep L M) (g : FStep L N) : ∃ J, FSteps M J ∧ FSteps N J := by
  obtain ⟨p, q, a, b, rfl, h1, rfl⟩ := h
  obtain ⟨p', q', a', b', e, h2, rfl⟩ := g
  rcases splits e with ⟨rfl, rfl, rfl, rfl⟩ | ⟨c, rfl, rfl, rfl, rfl⟩ | ⟨c, rfl, rfl, rfl, rfl⟩ | ⟨m, rfl, rfl⟩ | ⟨m, rfl, rfl⟩
  · exact ⟨_, .refl _, .refl _⟩
  · obtain ⟨s1, s2⟩ := threeF (a := a) (b := a') (c := b') (ht a' (by simp)) (ht b' (by simp)) h1 h2
    refine ⟨p ++ [b', (a'.1, (a'.2.1 + b'.2.2, a'.2.2)), (a.1, (a.2.1 + a'.2.2 + b'.2.2, a.2.2))] ++ q', ?_, ?_⟩
    · have := s1.under p q'
      simpa using this
    · have := s2.under p q'
      simpa using this
  · obtain ⟨s1, s2⟩ := threeF (a := a') (b := a) (c := b) (ht a (by simp)) (ht b (by simp)) h2 h1
    refine ⟨p' ++ [b, (a.1, (a.2.1 + b.2.2, a.2.2)), (a'.1, (a'.2.1 + a.2.2 + b.2.2, a'.2.2))] ++ q, ?_, ?_⟩
    · have := s2.under p' q
      simpa using this
    · have := s1.under p' q
      simpa using this
  · refine ⟨p ++ b :: (a.1, (a.2.1 + b.2.2, a.2.2)) :: (m ++ b' :: (a'.1, (a'.2.1 + b'.2.2, a'.2.2)) :: q'), .one ⟨p ++ b :: (a.1, (a.2.1 + b.2.2, a.2.2)) :: m, q', a', b', by simp, h2, by simp⟩, .one ⟨p, m ++ b' :: (a'.1, (a'.2.1 + b'.2.2, a'.2.2)) :: q', a, b, by simp, h1, by simp⟩⟩
  · refine ⟨p' ++ b' :: (a'.1, (a'.2.1 + b'.2.2, a'.2.2)) :: (m ++ b :: (a.1, (a.2.1 + b.2.2, a.2.2)) :: q), .one ⟨p', m ++ b :: (a.1, (a.2.1 + b.2.2, a.2.2)) :: q, a', b', by simp, h2, by simp⟩, .one ⟨p' ++ b' :: (a'.1, (a'.2.1 + b'.2.2, a'.2.2)) :: m, q, a, b, by simp, h1, by simp⟩⟩
structure FGood (L : List Cow) : Prop where
  tl : ∀ x ∈ L, 0 ≤ x.2.2
  nd : (L.map (·.1)).Nodup
  iv : FInv L
theorem FGood.step {L M : List Cow} (g : FGood L) (h : FStep L M) : FGood M ∧ asc (M.map (·.1)) < asc (L.map (·.1)) := by
  obtain ⟨p, q, a, b, rfl, h1, rfl⟩ := h
  obtain ⟨f1, f2, f3⟩ := facts_fall (n := (p ++ a :: b :: q).length) (ps := []) (q := (0, 0)) ⟨rfl, g.tl, g.nd, by
    have := asc_le ((p ++ a :: b :: q).map (·.1))
    rw [List.length_map] at this
    show 0 + _ ≤ _
    omega⟩ g.iv h1
  exact ⟨⟨f1.tl, f1.nd, f2⟩, f3⟩
theorem FGood.steps {L M : List Cow} (g : FGood L) (h : FSteps L M) : FGood M := by
  induction h with
  | refl => exact g
  | head s _ ih => exact ih (g.step s).1
theorem some_ff : ∀ (n : Nat) {L : List Cow}, FGood L → asc (L.map (·.1)) ≤ n → ∃ N, FSteps L N ∧ Ff N
  | n, L, g, h => by
    by_cases z : Ff L
    · exact ⟨L, .refl L, z⟩
    · have z' : ∃ M, FStep L M := Classical.byContradiction fun e => z fun M s => e ⟨M, s⟩
      obtain ⟨M, s⟩ := z'
      obtain ⟨g2, lt⟩ := g.step s
      cases n with
      | zero => omega
      | succ n =>
        obtain ⟨N, s2, nf⟩ := some_ff n g2 (by omega)
        exact ⟨N, .head s s2, nf⟩
theorem one_ff : ∀ (n : Nat) {L N N' : List Cow}, FGood L → asc (L.map (·.1)) ≤ n → FSteps L N → Ff N → FSteps L N' → Ff N' → N = N'
  | n, L, N, N', g, h, s, nf, s', nf' => by
    cases s with
    | refl =>
      cases s' with
      | refl => rfl
      | head t _ => exact (nf _ t).elim
    | @head _ M _ t u =>
      cases s' with
      | refl => exact (nf' _ t).elim
      | @head _ M' _ t' u' =>
        obtain ⟨J, j1, j2⟩ := nearF g.tl t t'
        obtain ⟨g2, l2⟩ := g.step t
        obtain ⟨g3, l3⟩ := g.step t'
        cases n with
        | zero => omega
        | succ n =>
          obtain ⟨O, so, nfo⟩ := some_ff _ (g2.steps j1) (Nat.le_refl _)
          have e1 := one_ff n g2 (by omega) u nf (j1.trans so) nfo
          have e2 := one_ff n g3 (by omega) u' nf' (j2.trans so) nfo
          rw [e1, e2]
theorem fgood_tag {rs : HH.Row} (h : ∀ b ∈ rs, 0 ≤ b.2) : FGood (tag 0 rs) := ⟨(facts_tag h).tl, (facts_tag h).nd, finv_tag 0 rs⟩
theorem FSteps.snoc {L M N : List Cow} (h : FSteps L M) (s : FStep M N) : FSteps L N := h.trans (.one s)
theorem FRun.steps {L0 L : List Cow} {ps : List (Int × Int)} (h : FRun L0 L ps) : FSteps L0 L := by
  induction h with
  | nil => exact .refl _
  | step _ hp ih => exact ih.snoc ⟨_, _, _, _, rfl, hp, rfl⟩
def FfR : List Cow → Prop
  | [] => True
  | [_] => True
  | a :: b :: r => ¬ (a.2.1 > b.2.1) ∧ FfR (b :: r)
theorem ffr_tail {a : Cow} {r : List Cow} (h : FfR (a :: r)) : FfR r := by
  cases r with
  | nil => exact True.intro
  | cons b r => exact h.2
theorem ffr_ff : ∀ {L : List Cow}, FfR L → Ff L := by
  intro L h M s
  obtain ⟨p, q, a, b, rfl, hp, rfl⟩ := s
  induction p with
  | nil => exact h.1 hp
  | cons x p ih => exact ih (ffr_tail h)
theorem ffr_in {w : Cow} : ∀ {A B : List Cow}, FfR (A ++ B) → (∀ x, A.getLast? = some x → ¬ (x.2.1 > w.2.1)) → (∀ b r, B = b :: r → ¬ (w.2.1 > b.2.1)) → FfR (A ++ w :: B)
  | [], [], _, _, _ => True.intro
  | [], b :: r, h, _, g => ⟨g b r rfl, h⟩
  | [x], B, h, f, g => ⟨f x rfl, by
    have := ffr_in (w := w) (A := []) (B := B) (ffr_tail h) (fun _ z => by cases z) g
    exact this⟩
  | x :: y :: A, B, h, f, g => ⟨h.1, ffr_in (A := y :: A) (B := B) h.2 (fun z hz => f z (by rw [List.getLast?_cons_cons]; exact hz)) g⟩
def spFallAll : Sp := fun vs H Q _ => ∃ (l sa ta : Addr) (N : List Cow) (S T : List Int) (who : Nat) (s0 t0 : Int), vs = [.ref l, .ref sa, .ref ta, .int (who : Int)] ∧ H l = some (.lst (idsV N)) ∧ H sa = some (.lst (S.map V.int)) ∧ H ta = some (.lst (T.map V.int)) ∧ l ≠ sa ∧ l ≠ ta ∧ sa ≠ ta ∧ Kept S T N ∧ S[who]? = some s0 ∧ T[who]? = some t0 ∧ (∀ x ∈ N, x.1 ≠ who ∧ 0 ≤ x.2.2) ∧ N.length ≤ 1000 ∧ FfR N ∧
  ∀ (A B : List Cow) (s : Int) H', N = A ++ B → FSteps ((who, (s0, t0)) :: N) (A ++ (who, (s, t0)) :: B) → FfR (A ++ (who, (s, t0)) :: B) → H' l = some (.lst (idsV (A ++ (who, (s, t0)) :: B))) → H' sa = some (.lst ((S.set who s).map V.int)) → ExB2 l sa H H' → Q .non H'
def spFirst (K : PySem.W.Frag) : Sp := fun vs H Q _ => ∃ (v : V) (rs : HH.Row), vs = [v] ∧ RowAt K H v rs ∧ rs.length ≤ 1000 ∧ (∀ b ∈ rs, 0 ≤ b.2) ∧ ∀ q H' (L : List Cow), Ex H H' → LastAt K H' q L → FSteps (tag 0 rs) L → FfR L → Q (.ref q) H'
theorem tag_snoc : ∀ (j : Nat) (rs : HH.Row) (b : Int × Int), tag j (rs ++ [b]) = tag j rs ++ [(j + rs.length, b)]
  | j, [], b => rfl
  | j, c :: r, b => by
    show (j, c) :: tag (j + 1) (r ++ [b]) = (j, c) :: (tag (j + 1) r ++ [(j + (r.length + 1), b)])
    rw [tag_snoc, show j + 1 + r.length = j + (r.length + 1) by omega]
theorem tag_take {rs : HH.Row} {k : Nat} {b : Int × Int} (h : rs[k]? = some b) : tag 0 (rs.take (k + 1)) = tag 0 (rs.take k) ++ [(k, b)] := by
  have hk := (List.getElem?_eq_some_iff.mp h).1
  rw [List.take_add_one, h]
  show tag 0 (rs.take k ++ [b]) = _
  rw [tag_snoc, List.length_take, Nat.zero_add, Nat.min_eq_left (by omega)]
section
variable {K : PySem.W.Frag} {σ : L2.St} {H : Hp} {D : Ends} {tz tu : TS}
theorem q_forRev {te : TE} {j n : Nat} (h : Ev te σ H (.int (n : Int))) (hn : n ≤ 100000) (Pv : Nat → L2.St → Hp → Prop) (h0 : ∀ H1, Ex H H1 → Pv 0 σ H1)
    (hs : ∀ i σ' H', i < n → Pv i σ' H' → tu { D with nx := Pv (i + 1), ct := Pv (i + 1), bk := tz D } (σ'.set j (some (.int ((n - 1 - i : Nat) : Int)))) H') (hd : ∀ σ' H', Pv n σ' H' → tz D σ' H') : tSeq (tFor (iRevR (tRg1 te)) (gName j) tu) tz D σ H :=
  h H (Ex.refl H) _ fun H1 e => ⟨(n : Int), rfl, by omega, by omega, by omega, by omega, by
    rw [show ((n : Int) - 0).toNat = n by omega]
    refine for_rangeC (D := { D with nx := tz D }) Pv (h0 H1 e) (fun i σ' H' hi p => ?_) hd
    rw [show (0 : Int) + ((n : Nat) : Int) - 1 + ((i : Nat) : Int) * (-1) = ((n - 1 - i : Nat) : Int) by omega]
    exact hs i σ' H' hi p⟩
end
end HH
set_option maxHeartbeats 4000000
namespace PySem
open Sem (wp)
open AutoSeq1 (wpAny_loadPart')
theorem meets_enum_newT (t : Addr) (items : Array Value) (n : Nat) (dct : Option Addr) (sl : Array (Option Value)) :
    Meets (Builtin.«enumerate.__new__» ⟨[.type "enumerate", .ref t], []⟩) (fun _ R s => s.heap.get? t = some { cls := .type "tuple", dict := dct, data := .seq items n, slots := sl } ∧
      R (.ok (.ret (.ref (s.heap.push { cls := .type "tuple_iterator", data := .fields #[.ref t, .int 0 0] }).objs.size)))
        { s with heap := (s.heap.push { cls := .type "tuple_iterator", data := .fields #[.ref t, .int 0 0] }).push { cls := .type "enumerate", data := .fields #[.none, .bool false, .ref s.heap.objs.size, rawInt 0, .none, .none] } }) :=
  .of_wp fun prog w A R s h => by
    obtain ⟨hp, g, d, tk, os⟩ := s; obtain ⟨hl, h⟩ := h
    have hsub := sub_enumerate
    have hT : Heap.IsTuple (Shared.heap ⟨hp, g, d, tk, os⟩) t items := ⟨_, hl, rfl, n, rfl⟩
    wp_walk using wpAny_loadPart' hl
    refine wpAny_stack_any fun st => wpAny_pure ?_
    split
    · rename_i c _ _ _ _ _
      cases (c == Value.type "enumerate")
      · wp_walk using wpAny_loadPart' hl, wpAny_pyIter_tuple hT
        exact ⟨_, rfl, h⟩
      · wp_walk using wpAny_loadPart' hl, wpAny_pyIter_tuple hT
        exact ⟨_, rfl, h⟩
    · wp_walk using wpAny_loadPart' hl, wpAny_pyIter_tuple hT
      exact ⟨_, rfl, h⟩
section
variable {prog : Program} {w : World} {A : Around} {E : Value → Shared → Prop} {s : Shared}
theorem call_enum_tuple {t : Addr} {items : Array Value} {Q : Value → Shared → Prop} (hL : s.heap.IsTuple t items)
    (h : ∀ h', IsEnum h' (s.heap.objs.size + 1) s.heap.objs.size 0 .none → h'.IsTupleIter s.heap.objs.size t 0 → h'.objs.size = s.heap.objs.size + 2 →
      (∀ b o, s.heap.get? b = some o → h'.get? b = some o) → Q (.ref (s.heap.objs.size + 1)) { s with heap := h' }) :
    wpAny (model prog w) A (call (.type "enumerate") [.ref t]) Q E s := by
  obtain ⟨⟨c, dct, dt, sl⟩, hl, hc, n, hd⟩ := hL
  replace hc : c = .type "tuple" := hc
  replace hd : dt = .seq items n := hd
  subst hc hd
  refine callType_new F.called_enumerate (by decide) (F.typeCall_enumerate_1 _) (F.newCall_enumerate_1 _) (fun obj => F.args_object_init_2 obj _) F.entry_enumerate_new
    (meets_enum_newT t items n dct sl) ⟨hl, ?_⟩
  have hz : (s.heap.push { cls := .type "tuple_iterator", data := .fields #[.ref t, .int 0 0] }).objs.size = s.heap.objs.size + 1 := Heap.size_push ..
  show _ ∧ _
  rw [hz]
  have he : IsEnum ((s.heap.push { cls := .type "tuple_iterator", data := .fields #[.ref t, .int 0 0] }).push
      { cls := .type "enumerate", data := .fields #[.none, .bool false, .ref s.heap.objs.size, rawInt 0, .none, .none] }) (s.heap.objs.size + 1) s.heap.objs.size 0 .none := by
    have := Heap.get?_push_size (s.heap.push { cls := .type "tuple_iterator", data := .fields #[.ref t, .int 0 0] })
      (o := { cls := .type "enumerate", data := .fields #[.none, .bool false, .ref s.heap.objs.size, rawInt 0, .none, .none] }) rfl
    rw [hz] at this; exact this
  refine ⟨⟨_, he, rfl⟩, h _ he ⟨_, Heap.get?_push_of_some _ (Heap.get?_push_size _ rfl), rfl, rfl⟩ (by rw [Heap.size_push, hz]) fun b o x => Heap.get?_push_of_some _ (Heap.get?_push_of_some _ x)⟩
end
end PySem
namespace HH
open PySem PySem.Spec PyProof.Rows L2 Evl RZ
def IteT (K : PySem.W.Frag) (a : Addr) : It :=
  ⟨fun i H => ∃ (xs : List V) (x : V), SqT K H a xs ∧ xs[i]? = some x, fun i H v H' => ∃ T x, v = .ref T ∧ H T = none ∧ H' = upd H T (.tup [.int (i : Nat), x]) ∧ ∀ xs, SqT K H a xs → xs[i]? = some x, fun i H => ∃ xs : List V, SqT K H a xs ∧ xs.length = i⟩
theorem turn_enumT {P : Program} {w : World} {K : PySem.W.Frag} {elts : List Expr} {kk : Nat} {tpos : Pos} (a e it : Addr) :
    Turn P w K (.Tuple elts kk tpos) (IteT K a) [e, it] e (fun i h => (∃ old, IsEnum h e it ((i : Nat) : Int) old) ∧ h.IsTupleIter it a i ∧ e ≠ it) where
  mem := by simp
  obj := fun i h st b hb => by
    obtain ⟨⟨old, he⟩, ⟨o, ho, hc, hd⟩, _⟩ := st
    have e' : b = e ∨ b = it := by simpa using hb
    rcases e' with z | z
    · rw [z]; exact ⟨_, he, fun v q => nomatch q⟩
    · rw [z]; exact ⟨o, ho, fun v q => by rw [hd] at q; cases q⟩
  keep := fun i h h' st k => let ⟨⟨old, he⟩, hi, hne⟩ := st; ⟨⟨old, k e (by simp) _ he⟩, hi.at fun o q => k it (by simp) o q, hne⟩
  item := by
    intro X hP hw hK hc i pins s σ H E I hf st hg
    subst hP hw hK
    obtain ⟨⟨old, he⟩, hit, hne⟩ := st
    obtain ⟨xs, x, hq, hx⟩ := hg
    obtain ⟨its, rv, p, hz⟩ := I.tuple hq
    obtain ⟨u, hu, ru⟩ := rv.get hx
    have hel : e < s.heap.objs.size := Heap.lt_size he
    have hil : it < s.heap.objs.size := by obtain ⟨_, q, _⟩ := hit; exact Heap.lt_size q
    have pT : s.heap.IsTuple a its.toArray := p
    have hHa : ∀ b ∈ [e, it], a ≠ b := fun b hb z => by
      obtain ⟨o, ho, hoc, _⟩ := (show s.heap.IsTuple a its.toArray from p)
      obtain ⟨o2, ho2, hc2, _⟩ := hit
      have e' : b = e ∨ b = it := by simpa using hb
      rcases e' with z' | z'
      · rw [z, z', he] at ho
        rw [← Option.some.inj ho] at hoc
        revert hoc
        simp
      · rw [z, z', ho2] at ho
        rw [← Option.some.inj ho, hc2] at hoc
        revert hoc
        simp
    have hae : a ≠ e := hHa e (by simp)
    have hai : a ≠ it := hHa it (by simp)
    have hlt : i < its.toArray.size := by
      have := (List.getElem?_eq_some_iff.mp hu).1
      simpa using this
    refine wpAny_pyNext_enum_itemD (Draws.tuple (A := X.A.in1) (I.ok.hd hc) it a hai its.toArray) he ⟨hit, pT⟩ hlt hne (by simp; exact ⟨hne, Ne.symm hae⟩) fun y h' tk hy ho hst hT hsz hk => ?_
    have hyu : y = u := by
      have : its.toArray[i]? = some u := by simpa using hu
      rw [hy] at this
      exact Option.some.inj this
    subst hyu
    obtain ⟨hit', _⟩ := hst
    refine ⟨_, rfl, wpAny_letOwnedTupleGo_enum (s := { s with heap := h', toks := tk + 1 }) ho fun h'' he' sb => ?_⟩
    have hT2 : h''.get? s.heap.objs.size = some { cls := .type "tuple", data := .seq #[.int i tk, y] } := (sb.2 _ (Nat.ne_of_gt hel)).trans hT
    have new : ObjOk X.prog X.w (upd H s.heap.objs.size (.tup [.int (i : Nat), x])) h'' s.heap.objs.size (.tup [.int (i : Nat), x]) :=
      ⟨by show 2 ≤ sizeLine; decide, [.int i tk, y], .cons ⟨_, rfl⟩ (.cons ru .nil), ⟨_, hT2, rfl, _, rfl⟩⟩
    have I1 : Inv X pins σ (upd H s.heap.objs.size (.tup [.int (i : Nat), x])) { s with heap := h'', toks := tk + 1 } :=
      I.turnedNew (ch := [e, it]) (fun b ob hb q => (sb.2 b (fun z => hb (by simp [z]))).trans (hk b ob (fun z => hb (by simp [z])) (fun z => hb (by simp [z])) q)) hf (Nat.le_refl _) new
    refine ⟨.ref s.heap.objs.size, _, I1, rfl, ⟨_, x, rfl, I.hok.fresh (Nat.le_refl _), rfl, fun ys hy => by rw [I.tuple_inj hy hq]; exact hx⟩, ⟨⟨y, ?_⟩, hit'.at fun o q => (sb.2 it (Ne.symm hne)).trans q, hne⟩, fun b hb => ?_⟩
    · have e1 : ((i + 1 : Nat) : Int) = (i : Int) + 1 := by omega
      rw [e1]; exact he'
    · have hb' : b < s.heap.objs.size := by
        have e' : b = e ∨ b = it := by simpa using hb
        rcases e' with z | z
        · rw [z]; exact hel
        · rw [z]; exact hil
      rw [upd_ne (Nat.ne_of_lt hb')]
      exact (hf b hb).1
  done := by
    intro X hP hw hK hc i pins s σ H E I hf st hg
    subst hP hw hK
    obtain ⟨⟨old, he⟩, hit, hne⟩ := st
    obtain ⟨xs, hq, hx⟩ := hg
    obtain ⟨its, rv, p, hz⟩ := I.tuple hq
    have hHa : ∀ b ∈ [e, it], a ≠ b := fun b hb z => by
      obtain ⟨o, ho, hoc, _⟩ := (show s.heap.IsTuple a its.toArray from p)
      obtain ⟨o2, ho2, hc2, _⟩ := hit
      have e' : b = e ∨ b = it := by simpa using hb
      rcases e' with z' | z'
      · rw [z, z', he] at ho
        rw [← Option.some.inj ho] at hoc
        revert hoc
        simp
      · rw [z, z', ho2] at ho
        rw [← Option.some.inj ho, hc2] at hoc
        revert hoc
        simp
    have hai : a ≠ it := hHa it (by simp)
    have pT : s.heap.IsTuple a its.toArray := p
    obtain ⟨f0, f1, f2, f3, f4, f5⟩ := hf it (by simp)
    have hl := rv.length
    have hn : its.toArray.size = i := by simp; omega
    exact wpAny_pyNext_enum_endD (Draws.tuple (A := X.A.in1) (I.ok.hd hc) it a hai its.toArray) he (by rw [hn]; exact ⟨hit, pT⟩) fun h' eb => ⟨rfl, I.turned (t' := s.toks) (fun b o hb q => eb b o hb q) f0 f1 f3 f4 f5⟩
  self := fun A i s Q E st h => let ⟨⟨_, he⟩, _⟩ := st; wpAny_pyIter_enum he h
def iEnumT (K : PySem.W.Frag) (ta : TA) : TI := fun σ H R => ta σ H fun vs H1 => ∃ a xs, vs = [.ref a] ∧ SqT K H1 a xs ∧ R (IteT K a) H1
theorem pi_enumT {X : Cx} {e : Expr} {ta : TA} {p pos tpos : Pos} {elts : List Expr} {kk : Nat} (hg : Gl X "enumerate") (hm : X.mg "enumerate" = none) (ha : PA X [e] ta) (hs : starEach [e] X.env = [(false, eval e X.env)] := by rfl) :
    PI X (.Tuple elts kk tpos) (.Call (.Name "enumerate" p) [e] [] pos) (iEnumT X.K ta) := by
  refine ⟨fun pins s σ H R I h => ?_⟩
  refine Call_ (ld_blt I hg hm boot_enumerate (PyProof.Rows.callWith_type1 (thn (ha.run pos pins s σ H _ I h) fun us s1 ⟨vs, H1, I1, r1, q1⟩ => ?_) hs rfl))
  obtain ⟨a, xs, ex, hq, q⟩ := q1
  subst ex
  cases r1 with
  | cons r rr =>
    cases rr
    cases r
    obtain ⟨its, rv, p', hz⟩ := I1.tuple hq
    refine call_enum_tuple (show s1.heap.IsTuple a its.toArray from p') fun h' he hit hsz hk => wpAny_pyIter_enum he ?_
    have I2 : Inv X pins σ H1 { s1 with heap := h' } := I1.kept (t' := s1.toks) hk
    refine ⟨s1.heap.objs.size + 1, [s1.heap.objs.size + 1, s1.heap.objs.size], _, _, H1, rfl, I2, turn_enumT a (s1.heap.objs.size + 1) s1.heap.objs.size, ⟨⟨.none, he⟩, hit, Nat.succ_ne_self _⟩, fun b hb => ?_, q⟩
    have e' : b = s1.heap.objs.size + 1 ∨ b = s1.heap.objs.size := by simpa using hb
    have hle : s1.heap.objs.size ≤ b := by
      rcases e' with z | z
      · rw [z]; exact Nat.le_add_right _ _
      · rw [z]; exact Nat.le_refl _
    exact I1.fpOk hle (I1.hok.fresh hle)
theorem walk_enumT {K : PySem.W.Frag} {a : Addr} {xs : List V} : Walk (IteT K a) xs.length (fun H => SqT K H a xs) (YPair (fun i => some (.int (i : Nat))) (fun i => xs[i]?)) := by
  refine ⟨fun i _ hi q => ⟨xs, xs[i], q, by simp [hi]⟩, fun _ q => ⟨xs, q, rfl⟩, fun i H v H' _ q y => ?_⟩
  obtain ⟨T, x, h1, h2, h3, h4⟩ := y
  exact ⟨T, .int (i : Nat), x, h1, h2, h3, rfl, h4 xs q⟩
end HH
set_option maxHeartbeats 4000000
namespace HH
open PySem PySem.Spec PyProof.Rows L2 Evl RZ
def bef : List Nat → Nat → Nat → Bool
  | [], _, _ => false
  | x :: r, j, i => (decide (x = j) && decide (i ∈ r)) || bef r j i
theorem bef_cons {x : Nat} {r : List Nat} {j i : Nat} : bef (x :: r) j i = true ↔ (x = j ∧ i ∈ r) ∨ bef r j i = true := by
  simp [bef]
theorem bef_mem : ∀ {l : List Nat} {j i : Nat}, bef l j i = true → j ∈ l ∧ i ∈ l
  | [], _, _, h => by cases h
  | x :: r, j, i, h => by
    rcases bef_cons.mp h with ⟨rfl, h1⟩ | h1
    · exact ⟨List.mem_cons_self .., List.mem_cons_of_mem _ h1⟩
    · exact ⟨List.mem_cons_of_mem _ (bef_mem h1).1, List.mem_cons_of_mem _ (bef_mem h1).2⟩
theorem bef_swap {a b i j : Nat} {B : List Nat} (hab : a < b) (hij : i < j) : ∀ A : List Nat, bef (A ++ b :: a :: B) j i = true ↔ bef (A ++ a :: b :: B) j i = true ∨ (i = a ∧ j = b)
  | [] => by
    rw [List.nil_append, List.nil_append, bef_cons, bef_cons, bef_cons, bef_cons, List.mem_cons, List.mem_cons]
    constructor
    · rintro (⟨h1, h2 | h2⟩ | ⟨h1, h2⟩ | h)
      · exact .inr ⟨h2, h1.symm⟩
      · exact .inl (.inr (.inl ⟨h1, h2⟩))
      · exact .inl (.inl ⟨h1, .inr h2⟩)
      · exact .inl (.inr (.inr h))
    · rintro ((⟨h1, h2 | h2⟩ | ⟨h1, h2⟩ | h) | ⟨h1, h2⟩)
      · omega
      · exact .inr (.inl ⟨h1, h2⟩)
      · exact .inl ⟨h1, .inr h2⟩
      · exact .inr (.inr h)
      · exact .inl ⟨h2.symm, .inl h1⟩
  | x :: A => by
    rw [List.cons_append, List.cons_append, bef_cons, bef_cons, bef_swap hab hij A]
    have e : i ∈ A ++ b :: a :: B ↔ i ∈ A ++ a :: b :: B := by
      rw [List.mem_append, List.mem_append, List.mem_cons, List.mem_cons, List.mem_cons, List.mem_cons]
      constructor
      · rintro (h | h | h | h)
        · exact .inl h
        · exact .inr (.inr (.inl h))
        · exact .inr (.inl h)
        · exact .inr (.inr (.inr h))
      · rintro (h | h | h | h)
        · exact .inl h
        · exact .inr (.inr (.inl h))
        · exact .inr (.inl h)
        · exact .inr (.inr (.inr h))
    rw [e]
    constructor
    · rintro (h | h | h)
      · exact .inl (.inl h)
      · exact .inl (.inr h)
      · exact .inr h
    · rintro ((h | h) | h)
      · exact .inl h
      · exact .inr (.inl h)
      · exact .inr (.inr h)
theorem bef_lt : ∀ {l : List Nat} {p q j i : Nat}, l[p]? = some j → l[q]? = some i → p < q → bef l j i = true
  | [], p, q, j, i, h, _, _ => by cases h
  | x :: r, 0, 0, j, i, _, _, h => absurd h (Nat.lt_irrefl 0)
  | x :: r, 0, q + 1, j, i, h1, h2, _ => by
    have e : x = j := Option.some.inj h1
    exact bef_cons.mpr (.inl ⟨e, List.mem_of_getElem? (i := q) h2⟩)
  | x :: r, p + 1, 0, j, i, _, _, h => absurd h (Nat.not_lt_zero _)
  | x :: r, p + 1, q + 1, j, i, h1, h2, h => bef_cons.mpr (.inr (bef_lt (l := r) (p := p) (q := q) h1 h2 (by omega)))
theorem bef_get : ∀ {l : List Nat} {j i : Nat}, bef l j i = true → ∃ p q : Nat, p < q ∧ l[p]? = some j ∧ l[q]? = some i
  | [], _, _, h => by cases h
  | x :: r, j, i, h => by
    rcases bef_cons.mp h with ⟨rfl, h1⟩ | h1
    · obtain ⟨q, hq⟩ := List.getElem?_of_mem h1
      exact ⟨0, q + 1, by omega, rfl, hq⟩
    · obtain ⟨p, q, h2, h3, h4⟩ := bef_get h1
      exact ⟨p + 1, q + 1, by omega, h3, h4⟩
theorem nd_at {l : List Nat} (nd : l.Nodup) {p q j : Nat} (h1 : l[p]? = some j) (h2 : l[q]? = some j) : p = q := by
  have hp := (List.getElem?_eq_some_iff.mp h1).1
  exact (List.getElem?_inj hp nd).mp (h1.trans h2.symm)
theorem bef_iff {l : List Nat} (nd : l.Nodup) {p q j i : Nat} (h1 : l[p]? = some j) (h2 : l[q]? = some i) : bef l j i = decide (p < q) := by
  by_cases h : p < q
  · rw [decide_eq_true h]
    exact bef_lt h1 h2 h
  · rw [decide_eq_false h]
    cases hb : bef l j i with
    | false => rfl
    | true =>
      obtain ⟨p', q', h3, h4, h5⟩ := bef_get hb
      have := nd_at nd h1 h4
      have := nd_at nd h2 h5
      omega
def inP (l : List Nat) (i : Nat) (k : Nat) : Bool := bef l (i + 1 + k) i
def tabR (l : List Nat) (n i m : Nat) : List (Int × Int) := ((List.range m).filter (inP l i)).map fun k => ((i : Int), ((i + 1 + k : Nat) : Int))
def tab (l : List Nat) (n m : Nat) : List (Int × Int) := (List.range m).flatMap fun i => tabR l n i (n - (i + 1))
theorem tabR_succ (l : List Nat) (n i m : Nat) : tabR l n i (m + 1) = tabR l n i m ++ (if inP l i m = true then [((i : Int), ((i + 1 + m : Nat) : Int))] else []) := by
  unfold tabR
  rw [List.range_succ, List.filter_append, List.map_append]
  by_cases h : inP l i m = true
  · rw [if_pos h, List.filter_cons_of_pos h]
    rfl
  · rw [if_neg h, List.filter_cons_of_neg h]
    rfl
theorem tab_succ (l : List Nat) (n m : Nat) : tab l n (m + 1) = tab l n m ++ tabR l n m (n - (m + 1)) := by
  unfold tab
  rw [List.range_succ, List.flatMap_append]
  simp
theorem mem_tab {l : List Nat} {n : Nat} {p : Int × Int} : p ∈ tab l n n ↔ ∃ i j : Nat, i < j ∧ j < n ∧ p = ((i : Int), (j : Int)) ∧ bef l j i = true := by
  unfold tab tabR
  rw [List.mem_flatMap]
  constructor
  · rintro ⟨i, hi, h⟩
    obtain ⟨k, hk, rfl⟩ := List.mem_map.mp h
    obtain ⟨h1, h2⟩ := List.mem_filter.mp hk
    have h3 := List.mem_range.mp h1
    exact ⟨i, i + 1 + k, by omega, by omega, rfl, h2⟩
  · rintro ⟨i, j, h1, h2, rfl, h3⟩
    refine ⟨i, List.mem_range.mpr (by omega), List.mem_map.mpr ⟨j - (i + 1), List.mem_filter.mpr ⟨List.mem_range.mpr (by omega), ?_⟩, ?_⟩⟩
    · unfold inP
      rw [show i + 1 + (j - (i + 1)) = j by omega]
      exact h3
    · rw [show i + 1 + (j - (i + 1)) = j by omega]
def lexL (p q : Int × Int) : Prop := p.1 < q.1 ∨ (p.1 = q.1 ∧ p.2 < q.2)
theorem pw_tabR (l : List Nat) (n i m : Nat) : (tabR l n i m).Pairwise lexL := by
  unfold tabR
  rw [List.pairwise_map]
  refine List.Pairwise.filter _ ?_
  refine List.pairwise_lt_range.imp fun {a b} h => .inr ⟨rfl, ?_⟩
  show ((i + 1 + a : Nat) : Int) < ((i + 1 + b : Nat) : Int)
  omega
theorem pw_tab (l : List Nat) (n : Nat) : ∀ m, (tab l n m).Pairwise lexL
  | 0 => .nil
  | m + 1 => by
    rw [tab_succ]
    refine List.pairwise_append.mpr ⟨pw_tab l n m, pw_tabR l n m _, fun p hp q hq => ?_⟩
    obtain ⟨i, hi, h⟩ := List.mem_flatMap.mp hp
    obtain ⟨k, _, rfl⟩ := List.mem_map.mp h
    obtain ⟨k', _, rfl⟩ := List.mem_map.mp hq
    have := List.mem_range.mp hi
    exact .inl (by show (i : Int) < (m : Int); omega)
theorem lex_irr (p : Int × Int) : ¬ lexL p p := fun h => by
  rcases h with h | h
  · omega
  · omega
theorem nd_tab (l : List Nat) (n m : Nat) : (tab l n m).Nodup := (pw_tab l n m).imp fun {a b} h (e : a = b) => lex_irr b (by rw [e] at h; exact h)
structure Told (n : Nat) (l : List Nat) (ps : List (Int × Int)) : Prop where
  mem : ∀ p, p ∈ ps ↔ ∃ i j : Nat, i < j ∧ p = ((i : Int), (j : Int)) ∧ bef l j i = true
  nd : ps.Nodup
theorem told_swap {n a b : Nat} {A B : List Nat} {ps : List (Int × Int)} (t : Told n (A ++ a :: b :: B) ps) (hab : a < b) (nd : (A ++ a :: b :: B).Nodup) : Told n (A ++ b :: a :: B) (ps ++ [((a : Int), (b : Int))]) := by
  refine ⟨fun p => ?_, ?_⟩
  · rw [List.mem_append, List.mem_singleton, t.mem]
    constructor
    · rintro (⟨i, j, h1, h2, h3⟩ | rfl)
      · exact ⟨i, j, h1, h2, (bef_swap hab h1 A).mpr (.inl h3)⟩
      · exact ⟨a, b, hab, rfl, (bef_swap hab hab A).mpr (.inr ⟨rfl, rfl⟩)⟩
    · rintro ⟨i, j, h1, h2, h3⟩
      rcases (bef_swap hab h1 A).mp h3 with h4 | ⟨rfl, rfl⟩
      · exact .inl ⟨i, j, h1, h2, h4⟩
      · exact .inr h2
  · refine List.nodup_append.mpr ⟨t.nd, by simp, fun x hx y hy e => ?_⟩
    rw [List.mem_singleton] at hy
    subst e hy
    obtain ⟨i, j, h1, h2, h3⟩ := (t.mem _).mp hx
    have e1 : a = i := by
      have := congrArg Prod.fst h2
      have : (a : Int) = (i : Int) := this
      omega
    have e2 : b = j := by
      have := congrArg Prod.snd h2
      have : (b : Int) = (j : Int) := this
      omega
    subst e1 e2
    have g1 : (A ++ a :: b :: B)[A.length]? = some a := by simp
    have g2 : (A ++ a :: b :: B)[A.length + 1]? = some b := by
      rw [List.getElem?_append_right (by omega), show A.length + 1 - A.length = 1 by omega]
      rfl
    rw [bef_iff nd g2 g1] at h3
    have := of_decide_eq_true h3
    omega
theorem bef_range' : ∀ (k n : Nat) {j i : Nat}, bef (List.range' k n) j i = true → j < i
  | k, 0, _, _, h => by cases h
  | k, n + 1, j, i, h => by
    rw [List.range'_succ] at h
    rcases bef_cons.mp h with ⟨rfl, h1⟩ | h1
    · have := (List.mem_range'_1.mp h1).1
      omega
    · exact bef_range' _ n h1
theorem told_nil (n : Nat) : Told n (List.range n) [] := by
  refine ⟨fun p => ⟨(fun h => by cases h), ?_⟩, .nil⟩
  rintro ⟨i, j, h1, _, h2⟩
  rw [List.range_eq_range'] at h2
  have := bef_range' 0 n h2
  omega
theorem told_tab {n : Nat} {l : List Nat} {ps : List (Int × Int)} (t : Told n l ps) (hl : ∀ x ∈ l, x < n) : ps.Perm (tab l n n) := by
  refine (List.perm_ext_iff_of_nodup t.nd (nd_tab l n n)).mpr fun p => ?_
  rw [t.mem, mem_tab]
  constructor
  · rintro ⟨i, j, h1, h2, h3⟩
    exact ⟨i, j, h1, hl _ (bef_mem h3).1, h2, h3⟩
  · rintro ⟨i, j, h1, h2, h3, h4⟩
    exact ⟨i, j, h1, h3, h4⟩
end HH
set_option maxHeartbeats 4000000
namespace HH
open PySem PySem.Spec PyProof.Rows L2 Evl RZ
theorem in_it {J : It} {n : Nat} {G : Hp → Prop} {Y : Nat → Hp → V → Hp → Prop} (w : Walk J n G Y) {Step : V → Hp → (Hp → Prop) → Prop} {H1 : Hp} {Qd : Hp → Prop} (Pv : Nat → Hp → Prop) (h0 : Pv 0 H1) (hG : ∀ i H, i ≤ n → Pv i H → G H)
    (hs : ∀ i x H H', i < n → Pv i H → Y i H x H' → Step x H' (Pv (i + 1))) (hd : ∀ H, Pv n H → Qd H) :
    ∃ W : Nat → Nat → Hp → Prop, (∃ m, W 0 m H1) ∧ ∀ i m H, W i m H →
      (J.stop i H ∧ Qd H) ∨ (J.go i H ∧ ∃ Nx : Hp → Prop, (∀ H', Nx H' → ∃ m', m' < m ∧ W (i + 1) m' H') ∧ ∀ x H', J.yld i H x H' → Step x H' Nx) := by
  refine ⟨fun i m H => m = n - i ∧ i ≤ n ∧ Pv i H, ⟨n, by simp, Nat.zero_le _, h0⟩, ?_⟩
  rintro i m H ⟨rfl, hi, p⟩
  have q := hG i H hi p
  by_cases hlt : i < n
  · refine .inr ⟨w.goes i H hlt q, Pv (i + 1), fun H' p' => ⟨n - (i + 1), by omega, rfl, hlt, p'⟩, fun x H' y => hs i x H H' hlt p (w.yields i H x H' hlt q y)⟩
  · have e : i = n := by omega
    subst e
    exact .inl ⟨w.stops H q, hd H p⟩
theorem PRun.told {rs : HH.Row} {L : List Cow} {ps : List (Int × Int)} (r : PRun (tag 0 rs) L ps) (ht : ∀ b ∈ rs, 0 ≤ b.2) : Told rs.length (L.map (·.1)) ps ∧ Facts rs.length L ps ∧ PInv L := by
  induction r with
  | nil =>
    refine ⟨?_, facts_tag ht, pinv_tag 0 rs⟩
    have e : (tag 0 rs).map (·.1) = List.range rs.length := by
      rw [tag_fst]
      have e : (fun x => 0 + x) = (id : Nat → Nat) := by
        funext x
        exact Nat.zero_add x
      rw [e, List.map_id]
    rw [e]
    exact told_nil _
  | step r hp ih =>
    rename_i pre post a b ps
    obtain ⟨t, f, i⟩ := ih
    have hab := pinv_lt i hp (nd_ne f.nd)
    obtain ⟨f1, f2, f3⟩ := facts_pass (q := ((a.1 : Int), (b.1 : Int))) f i hp
    refine ⟨?_, f1, f2⟩
    have e1 : (pre ++ a :: b :: post).map (·.1) = pre.map (·.1) ++ a.1 :: b.1 :: post.map (·.1) := by simp
    have e2 : (pre ++ (b.1, (b.2.1 - a.2.2, b.2.2)) :: a :: post).map (·.1) = pre.map (·.1) ++ b.1 :: a.1 :: post.map (·.1) := by simp
    have nd := f.nd
    rw [e1] at t nd
    rw [e2]
    exact told_swap t hab nd
theorem FRun.told {rs : HH.Row} {L : List Cow} {ps : List (Int × Int)} (r : FRun (tag 0 rs) L ps) (ht : ∀ b ∈ rs, 0 ≤ b.2) : Told rs.length (L.map (·.1)) ps ∧ Facts rs.length L ps ∧ FInv L := by
  induction r with
  | nil =>
    refine ⟨?_, facts_tag ht, finv_tag 0 rs⟩
    have e : (tag 0 rs).map (·.1) = List.range rs.length := by
      rw [tag_fst]
      have e : (fun x => 0 + x) = (id : Nat → Nat) := by
        funext x
        exact Nat.zero_add x
      rw [e, List.map_id]
    rw [e]
    exact told_nil _
  | step r hp ih =>
    rename_i pre post a b ps
    obtain ⟨t, f, i⟩ := ih
    have hab := finv_lt i hp (nd_ne f.nd)
    obtain ⟨f1, f2, f3⟩ := facts_fall (q := ((a.1 : Int), (b.1 : Int))) f i hp
    refine ⟨?_, f1, f2⟩
    have e1 : (pre ++ a :: b :: post).map (·.1) = pre.map (·.1) ++ a.1 :: b.1 :: post.map (·.1) := by simp
    have e2 : (pre ++ b :: (a.1, (a.2.1 + b.2.2, a.2.2)) :: post).map (·.1) = pre.map (·.1) ++ b.1 :: a.1 :: post.map (·.1) := by simp
    have nd := f.nd
    rw [e1] at t nd
    rw [e2]
    exact told_swap t hab nd
theorem Step.ids {L M : List Cow} (h : Step L M) : (M.map (·.1)).Perm (L.map (·.1)) := by
  obtain ⟨pre, post, a, b, rfl, _, rfl⟩ := h
  rw [List.map_append, List.map_append]
  exact List.Perm.append_left _ (List.Perm.swap ..)
theorem FStep.ids {L M : List Cow} (h : FStep L M) : (M.map (·.1)).Perm (L.map (·.1)) := by
  obtain ⟨pre, post, a, b, rfl, _, rfl⟩ := h
  rw [List.map_append, List.map_append]
  exact List.Perm.append_left _ (List.Perm.swap ..)
theorem Steps.ids {L M : List Cow} (h : Steps L M) : (M.map (·.1)).Perm (L.map (·.1)) := by
  induction h with
  | refl => exact .refl _
  | head s _ ih => exact ih.trans s.ids
theorem FSteps.ids {L M : List Cow} (h : FSteps L M) : (M.map (·.1)).Perm (L.map (·.1)) := by
  induction h with
  | refl => exact .refl _
  | head s _ ih => exact ih.trans s.ids
theorem tag_ids (rs : HH.Row) : (tag 0 rs).map (·.1) = List.range rs.length := by
  rw [tag_fst]
  have e : (fun x => 0 + x) = (id : Nat → Nat) := by
    funext x
    exact Nat.zero_add x
  rw [e, List.map_id]
def natsV (l : List Nat) : List V := l.map fun (x : Nat) => V.int (x : Int)
theorem ordL_nats (L : List Cow) : ordL L = natsV (L.map (·.1)) := by
  unfold ordL natsV
  rw [List.map_map]
  rfl
structure PlacesD (l : List Nat) (k : Nat) (kvs : List (Key × V)) : Prop where
  at' : ∀ i x : Nat, i < k → l[i]? = some x → valV kvs (.inl (x : Int)) = some (.int (i : Int))
  few : kvs.length ≤ k
theorem PlacesD.put {l : List Nat} (nd : l.Nodup) {k x : Nat} {kvs : List (Key × V)} (h : PlacesD l k kvs) (hx : l[k]? = some x) : PlacesD l (k + 1) (putK kvs (.inl (x : Int)) (.int (k : Int))) := by
  refine ⟨fun i y hi hy => ?_, ?_⟩
  · rw [valV_put]
    by_cases e : y = x
    · subst e
      have := nd_at nd hy hx
      subst this
      rw [if_pos rfl]
    · rw [if_neg (fun z => e (by
        have z' : (y : Int) = (x : Int) := Sum.inl.inj z
        omega))]
      refine h.at' i y ?_ hy
      rcases Nat.lt_or_ge i k with h1 | h1
      · exact h1
      · have h2 : i = k := by omega
        subst h2
        rw [hx] at hy
        exact absurd (Option.some.inj hy).symm e
  · have := length_putK kvs (.inl (x : Int)) (.int (k : Int))
    have := h.few
    omega
theorem room_u1 {k : Nat} {A : Around} (r : Room k A) : A.units + 1 < cLine := by
  have := r.un
  omega
theorem ev_lenT {K : PySem.W.Frag} {ta : TE} {σ : L2.St} {H : Hp} {a : Addr} {xs : List V} (h : Ev ta σ H (.ref a)) (hr : SqT K H a xs) : Ev (tCB (rLenS K) (tCons ta tNil)) σ H (.int (xs.length : Int)) := fun H1 e Q q => h H1 e _ fun H2 e2 => ⟨a, xs, rfl, Or.inr (ex_t (e.trans e2) hr), q H2 e2⟩
theorem ev_dget {td ty : TE} {σ : L2.St} {H : Hp} {a : Addr} {kvs : List (Key × V)} {k : Key} {v : V} (hd : Ev td σ H (.ref a)) (hy : Ev ty σ H (kV k)) (h : H a = some (.dK kvs)) (hv : valV kvs k = some v) : Ev (tDGet td ty) σ H v := fun H1 e Q q =>
  hd H1 e _ fun H2 e2 => hy H2 (e.trans e2) _ fun H3 e3 => ⟨a, v, rfl, by rw [← hv]; exact DGet.k (((e.trans e2).trans e3) _ _ h), q H3 (e2.trans e3)⟩
theorem tabR_len (l : List Nat) (n i m : Nat) : (tabR l n i m).length ≤ m := by
  unfold tabR
  rw [List.length_map]
  have := List.length_filter_le (inP l i) (List.range m)
  rw [List.length_range] at this
  exact this
theorem tab_len (l : List Nat) (n : Nat) : ∀ m, (tab l n m).length ≤ m * n
  | 0 => by
    show ([] : List (Int × Int)).length ≤ 0 * n
    simp
  | m + 1 => by
    rw [tab_succ, List.length_append, Nat.succ_mul]
    have := tab_len l n m
    have := tabR_len l n m (n - (m + 1))
    omega
theorem i_rng2 {ta : TA} {σ : L2.St} {H : Hp} {R : It → Hp → Prop} {i j : Int} (h : EvA ta σ H [.int i, .int j]) (b : -(2 ^ 62) ≤ i ∧ i < 2 ^ 62 ∧ -(2 ^ 62) ≤ j ∧ j < 2 ^ 62) (k : ∀ H1, Ex H H1 → R (Itr i (j - i).toNat) H1) : iRng2 ta σ H R := h H (Ex.refl H) _ fun H1 e => ⟨i, j, rfl, b, k H1 e⟩
theorem t_ev {t : TT} {σ : L2.St} {H : Hp} {b : Bool} {Q : Bool → Hp → Prop} (h : EvT t σ H b) (k : ∀ H1, Ex H H1 → Q b H1) : t σ H Q := h H (Ex.refl H) _ k
theorem t_yes {σ : L2.St} {H : Hp} {Q R : Hp → Prop} (h : Q H) : tYes σ H (fun b H1 => if b = true then Q H1 else R H1) := by
  show if true = true then Q H else R H
  rw [if_pos rfl]
  exact h
def toLast (L M : List Cow) : Prop := Steps L M ∧ NfR M
def toFirst (L M : List Cow) : Prop := FSteps L M ∧ FfR M
end HH
set_option maxHeartbeats 4000000
namespace HH
open PySem PySem.Spec PyProof.Rows L2 Evl RZ
theorem step_back {L M : List Cow} (h : Step L M) : FStep M L := by
  obtain ⟨pre, post, a, b, rfl, hp, rfl⟩ := h
  refine ⟨pre, post, _, a, rfl, hp, ?_⟩
  obtain ⟨bi, bs, bt⟩ := b
  show pre ++ a :: (bi, (bs, bt)) :: post = pre ++ a :: (bi, (bs - a.2.2 + a.2.2, bt)) :: post
  rw [Int.sub_add_cancel]
theorem fstep_back {L M : List Cow} (h : FStep L M) : Step M L := by
  obtain ⟨pre, post, a, b, rfl, hp, rfl⟩ := h
  refine ⟨pre, post, b, _, rfl, ?_, ?_⟩
  · show a.2.1 + b.2.2 - b.2.2 > b.2.1
    omega
  · obtain ⟨ai, as, at'⟩ := a
    show pre ++ (ai, (as, at')) :: b :: post = pre ++ (ai, (as + b.2.2 - b.2.2, at')) :: b :: post
    rw [Int.add_sub_cancel]
theorem FSteps.back {L M : List Cow} (h : FSteps L M) : Steps M L := by
  induction h with
  | refl => exact .refl _
  | head s _ ih => exact ih.snoc (fstep_back s)
theorem Steps.back {L M : List Cow} (h : Steps L M) : FSteps M L := by
  induction h with
  | refl => exact .refl _
  | head s _ ih => exact ih.snoc (step_back s)
def rl (f : Nat → Nat) (x : Cow) : Cow := (f x.1, x.2)
def rlL (f : Nat → Nat) (L : List Cow) : List Cow := L.map (rl f)
theorem rl_rows (f : Nat → Nat) (L : List Cow) : rowsOf (rlL f L) = rowsOf L := by
  unfold rowsOf rlL
  rw [List.map_map]
  rfl
theorem rl_ids (f : Nat → Nat) (L : List Cow) : (rlL f L).map (·.1) = (L.map (·.1)).map f := by
  unfold rlL
  rw [List.map_map, List.map_map]
  rfl
theorem Step.map {L M : List Cow} (f : Nat → Nat) (h : Step L M) : Step (rlL f L) (rlL f M) := by
  obtain ⟨pre, post, a, b, rfl, hp, rfl⟩ := h
  exact ⟨rlL f pre, rlL f post, rl f a, rl f b, by simp [rlL], hp, by simp [rlL, rl]⟩
theorem Step.unmap {f : Nat → Nat} {L0 M : List Cow} (h : Step (rlL f L0) M) : ∃ M0, Step L0 M0 ∧ M = rlL f M0 := by
  obtain ⟨pre, post, a, b, h1, hp, rfl⟩ := h
  obtain ⟨p0, r0, rfl, rfl, h2⟩ := List.map_eq_append_iff.mp h1
  obtain ⟨a0, r1, rfl, rfl, h3⟩ := List.map_eq_cons_iff.mp h2
  obtain ⟨b0, r2, rfl, rfl, rfl⟩ := List.map_eq_cons_iff.mp h3
  exact ⟨_, ⟨p0, r2, a0, b0, rfl, hp, rfl⟩, by simp [rlL, rl]⟩
theorem FStep.map {L M : List Cow} (f : Nat → Nat) (h : FStep L M) : FStep (rlL f L) (rlL f M) := step_back ((fstep_back h).map f)
theorem Steps.map {L M : List Cow} (f : Nat → Nat) (h : Steps L M) : Steps (rlL f L) (rlL f M) := by
  induction h with
  | refl => exact .refl _
  | head s _ ih => exact .head (s.map f) ih
theorem FSteps.map {L M : List Cow} (f : Nat → Nat) (h : FSteps L M) : FSteps (rlL f L) (rlL f M) := by
  induction h with
  | refl => exact .refl _
  | head s _ ih => exact .head (s.map f) ih
theorem FStep.unmap {f : Nat → Nat} {L0 M : List Cow} (h : FStep (rlL f L0) M) : ∃ M0, FStep L0 M0 ∧ M = rlL f M0 := by
  obtain ⟨pre, post, a, b, h1, hp, rfl⟩ := h
  obtain ⟨p0, r0, rfl, rfl, h2⟩ := List.map_eq_append_iff.mp h1
  obtain ⟨a0, r1, rfl, rfl, h3⟩ := List.map_eq_cons_iff.mp h2
  obtain ⟨b0, r2, rfl, rfl, rfl⟩ := List.map_eq_cons_iff.mp h3
  exact ⟨_, ⟨p0, r2, a0, b0, rfl, hp, rfl⟩, by simp [rlL, rl]⟩
theorem Steps.unmap {f : Nat → Nat} {L M : List Cow} (h : Steps L M) : ∀ {L0 : List Cow}, L = rlL f L0 → ∃ M0, Steps L0 M0 ∧ M = rlL f M0 := by
  induction h with
  | refl => exact fun e => ⟨_, .refl _, e⟩
  | head s _ ih =>
    intro L0 e
    subst e
    obtain ⟨M1, s1, e1⟩ := s.unmap
    obtain ⟨M0, s0, e0⟩ := ih e1
    exact ⟨M0, .head s1 s0, e0⟩
theorem FSteps.unmap {f : Nat → Nat} {L M : List Cow} (h : FSteps L M) : ∀ {L0 : List Cow}, L = rlL f L0 → ∃ M0, FSteps L0 M0 ∧ M = rlL f M0 := by
  induction h with
  | refl => exact fun e => ⟨_, .refl _, e⟩
  | head s _ ih =>
    intro L0 e
    subst e
    obtain ⟨M1, s1, e1⟩ := s.unmap
    obtain ⟨M0, s0, e0⟩ := ih e1
    exact ⟨M0, .head s1 s0, e0⟩
theorem nf_un {f : Nat → Nat} {L : List Cow} (h : Nf (rlL f L)) : Nf L := fun M s => h _ (s.map f)
theorem ff_un {f : Nat → Nat} {L : List Cow} (h : Ff (rlL f L)) : Ff L := fun M s => h _ (s.map f)
theorem nf_map {f : Nat → Nat} {L : List Cow} (h : Nf L) : Nf (rlL f L) := fun M s => by
  obtain ⟨M0, s0, _⟩ := s.unmap
  exact h _ s0
theorem ff_map {f : Nat → Nat} {L : List Cow} (h : Ff L) : Ff (rlL f L) := fun M s => by
  obtain ⟨M0, s0, _⟩ := s.unmap
  exact h _ s0
def ixN (l : List Nat) (i : Nat) : Nat := (l[i]?).getD 0
theorem tag_at : ∀ (k i : Nat) (rs : HH.Row), (tag k rs)[i]? = (rs[i]?).map fun b => (k + i, b)
  | _, _, [] => rfl
  | k, 0, b :: r => rfl
  | k, i + 1, b :: r => by
    show (tag (k + 1) r)[i]? = (r[i]?).map _
    rw [tag_at (k + 1) i r]
    rw [show k + 1 + i = k + (i + 1) by omega]
theorem rl_tag (L : List Cow) : rlL (ixN (L.map (·.1))) (tag 0 (rowsOf L)) = L := by
  refine List.ext_getElem? fun i => ?_
  unfold rlL
  rw [List.getElem?_map, tag_at]
  unfold rowsOf
  rw [List.getElem?_map]
  cases h : L[i]? with
  | none => rfl
  | some x =>
    show some (rl (ixN (L.map (·.1))) (0 + i, x.2)) = some x
    unfold rl ixN
    rw [Nat.zero_add, List.getElem?_map, h]
    rfl
theorem tolls_rows {L : List Cow} (h : ∀ x ∈ L, 0 ≤ x.2.2) : ∀ b ∈ rowsOf L, 0 ≤ b.2 := fun b hb => by
  obtain ⟨x, hx, rfl⟩ := List.mem_map.mp hb
  exact h x hx
theorem nf_any {L N N' : List Cow} (ht : ∀ x ∈ L, 0 ≤ x.2.2) (s : Steps L N) (n : Nf N) (s' : Steps L N') (n' : Nf N') : N = N' := by
  obtain ⟨M, t, rfl⟩ := s.unmap (rl_tag L).symm
  obtain ⟨M', t', rfl⟩ := s'.unmap (rl_tag L).symm
  rw [one_nf _ (good_tag (tolls_rows ht)) (Nat.le_refl _) t (nf_un n) t' (nf_un n')]
theorem ff_any {L N N' : List Cow} (ht : ∀ x ∈ L, 0 ≤ x.2.2) (s : FSteps L N) (n : Ff N) (s' : FSteps L N') (n' : Ff N') : N = N' := by
  obtain ⟨M, t, rfl⟩ := s.unmap (rl_tag L).symm
  obtain ⟨M', t', rfl⟩ := s'.unmap (rl_tag L).symm
  rw [one_ff _ (fgood_tag (tolls_rows ht)) (Nat.le_refl _) t (ff_un n) t' (ff_un n')]
theorem nf_is {L : List Cow} (ht : ∀ x ∈ L, 0 ≤ x.2.2) : ∃ N, Steps L N ∧ Nf N := by
  obtain ⟨N, s, n⟩ := some_nf _ (good_tag (tolls_rows ht)) (Nat.le_refl _)
  have s' := s.map (ixN (L.map (·.1)))
  rw [rl_tag] at s'
  exact ⟨_, s', nf_map n⟩
theorem ff_is {L : List Cow} (ht : ∀ x ∈ L, 0 ≤ x.2.2) : ∃ N, FSteps L N ∧ Ff N := by
  obtain ⟨N, s, n⟩ := some_ff _ (fgood_tag (tolls_rows ht)) (Nat.le_refl _)
  have s' := s.map (ixN (L.map (·.1)))
  rw [rl_tag] at s'
  exact ⟨_, s', ff_map n⟩
theorem step_tl {L M : List Cow} (h : Step L M) (ht : ∀ x ∈ L, 0 ≤ x.2.2) : ∀ x ∈ M, 0 ≤ x.2.2 := by
  obtain ⟨pre, post, a, b, rfl, hp, rfl⟩ := h
  intro x hx
  simp only [List.mem_append, List.mem_cons] at hx
  rcases hx with h | h | h | h
  · exact ht x (by simp [h])
  · subst h
    exact ht b (by simp)
  · exact ht x (by simp [h])
  · exact ht x (by simp [h])
theorem fstep_tl {L M : List Cow} (h : FStep L M) (ht : ∀ x ∈ L, 0 ≤ x.2.2) : ∀ x ∈ M, 0 ≤ x.2.2 := by
  obtain ⟨pre, post, a, b, rfl, hp, rfl⟩ := h
  intro x hx
  simp only [List.mem_append, List.mem_cons] at hx
  rcases hx with h | h | h | h
  · exact ht x (by simp [h])
  · exact ht x (by simp [h])
  · subst h
    exact ht a (by simp)
  · exact ht x (by simp [h])
theorem Steps.tl {L M : List Cow} (h : Steps L M) (ht : ∀ x ∈ L, 0 ≤ x.2.2) : ∀ x ∈ M, 0 ≤ x.2.2 := by
  induction h with
  | refl => exact ht
  | head s _ ih => exact ih (step_tl s ht)
theorem FSteps.tl {L M : List Cow} (h : FSteps L M) (ht : ∀ x ∈ L, 0 ≤ x.2.2) : ∀ x ∈ M, 0 ≤ x.2.2 := by
  induction h with
  | refl => exact ht
  | head s _ ih => exact ih (fstep_tl s ht)
theorem ends_fstep {L M E : List Cow} (ht : ∀ x ∈ L, 0 ≤ x.2.2) (s : FStep L M) (h : FSteps L E) (n : Ff E) : FSteps M E := by
  obtain ⟨N, s1, n1⟩ := ff_is (fstep_tl s ht)
  rw [ff_any ht h n (.head s s1) n1]
  exact s1
theorem ends_step {L M E : List Cow} (ht : ∀ x ∈ L, 0 ≤ x.2.2) (s : Step L M) (h : Steps L E) (n : Nf E) : Steps M E := by
  obtain ⟨N, s1, n1⟩ := nf_is (step_tl s ht)
  rw [nf_any ht h n (.head s s1) n1]
  exact s1
theorem MRun.both {L0 L E B : List Cow} {ds : List Deed} (r : MRun L0 L ds) (ht : ∀ x ∈ L0, 0 ≤ x.2.2) (hE : Steps L0 E) (nE : Nf E) (hB : FSteps L0 B) (nB : Ff B) : (∀ x ∈ L, 0 ≤ x.2.2) ∧ Steps L E ∧ FSteps L B := by
  induction r with
  | nil => exact ⟨ht, hE, hB⟩
  | pass r hp ih =>
    rename_i pre post a b ds
    have s : Step (pre ++ a :: b :: post) (pre ++ (b.1, (b.2.1 - a.2.2, b.2.2)) :: a :: post) := ⟨_, _, _, _, rfl, hp, rfl⟩
    exact ⟨step_tl s ih.1, ends_step ih.1 s ih.2.1 nE, .head (step_back s) ih.2.2⟩
  | fall r hp ih =>
    rename_i pre post a b ds
    have s : FStep (pre ++ a :: b :: post) (pre ++ b :: (a.1, (a.2.1 + b.2.2, a.2.2)) :: post) := ⟨_, _, _, _, rfl, hp, rfl⟩
    exact ⟨fstep_tl s ih.1, .head (fstep_back s) ih.2.1, ends_fstep ih.1 s ih.2.2 nB⟩
theorem Steps.firsts {L M B : List Cow} (h : Steps L M) (hB : FSteps L B) : FSteps M B := h.back.trans hB
end HH
set_option maxHeartbeats 4000000
namespace HH
open PySem PySem.Spec PyProof.Rows L2 Evl RZ
theorem bef_stays {L M : List Cow} (g : Good L) (h : Steps L M) : ∀ {p q : Nat}, p < q → bef (L.map (·.1)) q p = true → bef (M.map (·.1)) q p = true := by
  induction h with
  | refl => exact fun _ h => h
  | head s _ ih =>
    intro p q hpq hb
    refine ih (g.step s).1 hpq ?_
    obtain ⟨pre, post, a, b, rfl, hp, rfl⟩ := s
    have hab := pinv_lt g.iv hp (nd_ne g.nd)
    have e1 : (pre ++ a :: b :: post).map (·.1) = pre.map (·.1) ++ a.1 :: b.1 :: post.map (·.1) := by simp
    have e2 : (pre ++ (b.1, (b.2.1 - a.2.2, b.2.2)) :: a :: post).map (·.1) = pre.map (·.1) ++ b.1 :: a.1 :: post.map (·.1) := by simp
    rw [e1] at hb
    rw [e2]
    exact (bef_swap hab hpq _).mpr (.inl hb)
theorem bef_map {f : Nat → Nat} {j i : Nat} : ∀ {l : List Nat}, (∀ x ∈ l, f x = f j → x = j) → (∀ x ∈ l, f x = f i → x = i) → (bef (l.map f) (f j) (f i) = true ↔ bef l j i = true)
  | [], _, _ => Iff.rfl
  | x :: r, h1, h2 => by
    rw [List.map_cons, bef_cons, bef_cons, bef_map (l := r) (fun x hx => h1 x (List.mem_cons_of_mem _ hx)) (fun x hx => h2 x (List.mem_cons_of_mem _ hx))]
    have e1 : f x = f j ↔ x = j := ⟨h1 x (List.mem_cons_self ..), fun e => by rw [e]⟩
    have e2 : f i ∈ r.map f ↔ i ∈ r := by
      constructor
      · intro h
        obtain ⟨y, hy, e⟩ := List.mem_map.mp h
        rw [← h2 y (List.mem_cons_of_mem _ hy) e]
        exact hy
      · exact fun h => List.mem_map_of_mem h
    rw [e1, e2]
theorem bef_asym {l : List Nat} (nd : l.Nodup) {j i : Nat} (h : bef l j i = true) : bef l i j = false := by
  obtain ⟨p, q, h1, h2, h3⟩ := bef_get h
  rw [bef_iff nd h3 h2, decide_eq_false]
  omega
theorem bef_tot {l : List Nat} {j i : Nat} (hj : j ∈ l) (hi : i ∈ l) (hne : j ≠ i) (h : bef l j i = false) : bef l i j = true := by
  obtain ⟨p, hp⟩ := List.getElem?_of_mem hj
  obtain ⟨q, hq⟩ := List.getElem?_of_mem hi
  rcases Nat.lt_trichotomy p q with h1 | h1 | h1
  · rw [bef_lt hp hq h1] at h
    cases h
  · subst h1
    rw [hp] at hq
    exact absurd (Option.some.inj hq) hne
  · exact bef_lt hq hp h1
theorem ixN_at {l : List Nat} {p : Nat} (h : p < l.length) : l[p]? = some (ixN l p) := by
  unfold ixN
  rw [List.getElem?_eq_getElem h]
  rfl
theorem ixN_inj {l : List Nat} (nd : l.Nodup) {p q : Nat} (hp : p < l.length) (hq : q < l.length) (h : ixN l p = ixN l q) : p = q := by
  have h1 := ixN_at hp
  rw [h] at h1
  exact nd_at nd h1 (ixN_at hq)
structure Thru (n : Nat) (l1 l2 y : List Nat) : Prop where
  p1 : l1.Perm (List.range n)
  p2 : l2.Perm (List.range n)
  py : y.Perm (List.range n)
  e : l2 = y.map (ixN l1)
  no : ∀ {a b : Nat}, a < b → bef l1 b a = true → bef l2 b a = true → False
theorem pair_inj {a b c d : Nat} (h : (((a : Int), (b : Int)) : Int × Int) = ((c : Int), (d : Int))) : a = c ∧ b = d := by
  have h1 : (a : Int) = (c : Int) := congrArg Prod.fst h
  have h2 : (b : Int) = (d : Int) := congrArg Prod.snd h
  omega
end HH
set_option maxHeartbeats 4000000
namespace SrtO
open PySem PySem.Spec PyProof.Rows L2
section
variable {prog : Program} {w : World} {A : Around} {E : Value → Shared → Prop} {s : Shared}
end
end SrtO
namespace HH
open PySem PySem.Spec PyProof.Rows L2 Evl RZ
section
variable {X : Cx}
def pairOf (h : Heap) : Value → Int × Int
  | .ref t => match h.get? t with
    | some o => match o.data with
      | .seq its _ => match its.toList with
        | [.int a _, .int b _] => (a, b)
        | _ => (0, 0)
      | _ => (0, 0)
    | none => (0, 0)
  | _ => (0, 0)
theorem pairOf_is {pins : List (Addr × Obj)} {σ : L2.St} {H : Hp} {s : Shared} {x : V} {u : Value} {b : Int × Int} (I : Inv X pins σ H s) (r : RelV x u) (h : BeastAt X.K H x b) : pairOf s.heap u = b ∧ Srt.IsPair s.heap u b.1 b.2 ∧ ∃ p, u = .ref p ∧ x = .ref p := by
  obtain ⟨p, rfl, hp⟩ := h
  obtain rfl : u = Value.ref p := r
  obtain ⟨its, rv, ⟨o, ho, hc, n, hd⟩, hz⟩ := I.tuple hp
  obtain ⟨u1, u2, rfl, ri, rj⟩ := vals2 rv
  obtain ⟨t1, rfl⟩ := ri
  obtain ⟨t2, rfl⟩ := rj
  refine ⟨?_, ⟨p, o, t1, t2, n, rfl, ho, hc, hd⟩, p, rfl, rfl⟩
  unfold pairOf
  dsimp only
  rw [ho]
  dsimp only
  rw [hd]
def rSortedPT (K : PySem.W.Frag) : List V → Hp → VK → Prop := fun vs H Q => ∃ (a : Addr) (xs : List V) (ps : HH.Row), vs = [V.ref a] ∧ SqL K H a xs ∧ Beasts K H xs ps ∧
  ∀ (ys : List V) (qs : HH.Row) (p : Addr), Beasts K H ys qs → qs.Perm ps → qs.Pairwise (fun b c => ¬ lexL c b) → H p = none → Q (.ref p) (upd H p (.lst ys))
theorem cr_sortedPT : CallR X (.builtin "sorted") (rSortedPT X.K) := by
  intro pins s σ H vs us Q I r h
  obtain ⟨a, xs, ps, rfl, hs, hb, q⟩ := h
  obtain ⟨its, rv, hl, hz⟩ := I.list hs
  obtain ⟨u, rfl, ru⟩ := vals1 r
  obtain rfl : u = Value.ref a := ru
  have hlen : its.length = ps.length := by rw [← rv.length, hb.1]
  have at' : ∀ (i : Nat) (b : Int × Int), ps[i]? = some b → ∃ u, its[i]? = some u ∧ pairOf s.heap u = b ∧ Srt.IsPair s.heap u b.1 b.2 ∧ ∃ p, u = Value.ref p ∧ BeastAt X.K H (.ref p) b := fun i b hi => by
    obtain ⟨x, hx, hB⟩ := hb.2 i b hi
    obtain ⟨u, hu, ru⟩ := rv.get hx
    obtain ⟨e1, e2, p, e3, e4⟩ := pairOf_is I ru hB
    exact ⟨u, hu, e1, e2, p, e3, by rw [← e4]; exact hB⟩
  have each : ∀ u ∈ its, Srt.IsPair s.heap u (pairOf s.heap u).1 (pairOf s.heap u).2 ∧ ∃ p, u = Value.ref p ∧ BeastAt X.K H (.ref p) (pairOf s.heap u) := fun u hu => by
    obtain ⟨i, hi⟩ := List.getElem?_of_mem hu
    have hi' : i < ps.length := by
      have := (List.getElem?_eq_some_iff.mp hi).1
      omega
    obtain ⟨u', hu', e1, e2, p, e3, e4⟩ := at' i _ (List.getElem?_eq_getElem hi')
    rw [hi] at hu'
    cases hu'
    rw [e1]
    exact ⟨e2, p, e3, e4⟩
  have emap : its.map (pairOf s.heap) = ps := by
    refine List.ext_getElem? fun i => ?_
    rw [List.getElem?_map]
    cases hp : ps[i]? with
    | none =>
      have h1 : its[i]? = none := List.getElem?_eq_none (by
        have := List.getElem?_eq_none_iff.mp hp
        omega)
      rw [h1]
      rfl
    | some b =>
      obtain ⟨u, hu, e1, _⟩ := at' i b hp
      rw [hu, Option.map_some, e1]
  refine SrtO.sorted_pairsO (k := pairOf s.heap) hl.isList (by rw [← rv.length]; exact hz) (fun v hv => (each v hv).1) fun h' d out h1 h2 kp hd hn => ?_
  have hmem : ∀ u ∈ out, u ∈ its := fun u hu => h2.perm.mem_iff.mp hu
  obtain ⟨n, hn⟩ := hn
  have h3 : ∀ u ∈ out, ∃ a, u = Value.ref a := fun u hu => by
    obtain ⟨_, p, e, _⟩ := each u (hmem u hu)
    exact ⟨p, e⟩
  have hol : out.length = its.length := h2.perm.length_eq
  refine ⟨.ref d, upd H d (.lst (out.map backV)), I.laid (t' := s.toks) kp hd ⟨?_, out, n, vals_back h3, hn⟩, rfl, q _ (out.map (pairOf s.heap)) d ⟨by rw [List.length_map, List.length_map], fun i b hi => ?_⟩ ?_ ?_ (I.hok.fresh hd)⟩
  · rw [List.length_map, hol, ← rv.length]
    exact hz
  · rw [List.getElem?_map] at hi
    cases ho : out[i]? with
    | none =>
      rw [ho] at hi
      cases hi
    | some u =>
      rw [ho] at hi
      cases hi
      obtain ⟨_, p, rfl, hB⟩ := each u (hmem u (List.mem_of_getElem? ho))
      refine ⟨.ref p, ?_, hB⟩
      rw [List.getElem?_map, ho]
      rfl
  · rw [← emap]
    exact h2.perm.map _
  · refine List.pairwise_map.mpr (List.Pairwise.imp (fun {u v} hh => ?_) h1)
    exact SrtO.lexB_no.mp hh
end
theorem sort_one {ps qs : HH.Row} (h : qs.Perm ps) (h1 : qs.Pairwise (fun b c => ¬ lexL c b)) (h2 : ps.Pairwise (fun b c => ¬ lexL c b)) : qs = ps := by
  refine h.eq_of_pairwise (fun b c _ _ g1 g2 => ?_) h1 h2
  unfold lexL at g1 g2
  obtain ⟨b1, b2⟩ := b
  obtain ⟨c1, c2⟩ := c
  dsimp only at g1 g2
  have e1 : b1 = c1 := by omega
  have e2 : b2 = c2 := by omega
  rw [e1, e2]
theorem pw_no {ps : HH.Row} (h : ps.Pairwise lexL) : ps.Pairwise (fun b c => ¬ lexL c b) := h.imp fun {b c} g g' => by
  unfold lexL at g g'
  omega
end HH
set_option maxHeartbeats 4000000
namespace HH
open PySem PySem.Spec PyProof.Rows L2 Evl RZ
theorem natsV_at {l : List Nat} {k x : Nat} (h : l[k]? = some x) : (natsV l)[k]? = some (V.int (x : Int)) := by
  unfold natsV
  rw [List.getElem?_map, h]
  rfl
theorem natsV_len (l : List Nat) : (natsV l).length = l.length := List.length_map ..
def natsD (l : List Nat) : PyData := .tuple ((l.map fun (x : Nat) => (x : Int)).map PyData.int)
theorem natsV_ints (l : List Nat) : natsV l = (l.map fun (x : Nat) => (x : Int)).map V.int := by
  unfold natsV
  rw [List.map_map]
  rfl
section
variable {K : PySem.W.Frag} {σ : L2.St} {H H' : Hp} {ta tb te : TE} {x y v : V}
theorem dp_nats {a : Addr} {l : List Nat} (h : SqT K H a (natsV l)) : Dp K H (.ref a) (natsD l) := by
  rw [natsV_ints] at h
  exact .tup h (dp_ints _)
end
end HH
set_option maxHeartbeats 4000000
namespace HH
open PySem PySem.Spec PyProof.Rows L2 Evl RZ
theorem FSteps.len {L M : List Cow} (h : FSteps L M) : M.length = L.length := by
  have := h.ids.length_eq
  rw [List.length_map, List.length_map] at this
  exact this
theorem Steps.len {L M : List Cow} (h : Steps L M) : M.length = L.length := by
  have := h.ids.length_eq
  rw [List.length_map, List.length_map] at this
  exact this
theorem FSteps.idsT {rs : HH.Row} {M : List Cow} (h : FSteps (tag 0 rs) M) : (M.map (·.1)).Perm (List.range rs.length) := by
  rw [← tag_ids]
  exact h.ids
theorem Steps.idsT {rs : HH.Row} {M : List Cow} (h : Steps (tag 0 rs) M) : (M.map (·.1)).Perm (List.range rs.length) := by
  rw [← tag_ids]
  exact h.ids
section
variable {K : PySem.W.Frag} {σ : L2.St} {H H' : Hp} {ta tb te : TE} {x y v : V} {t : TT} {tu tz : TS} {D : Ends}
end
end HH
namespace HH
open PySem PySem.Spec PyProof.Rows L2 Evl RZ
section
variable {X : Cx} {K : PySem.W.Frag}
end
end HH
namespace HH
open PySem PySem.Spec PyProof.Rows L2 Evl RZ
section
variable {K : PySem.W.Frag} {σ : L2.St} {H H' : Hp} {ta tb te : TE} {x y v : V} {Q : VK}
end
end HH
namespace HH
open PySem PySem.Spec PyProof.Rows L2 Evl RZ
section
variable {K : PySem.W.Frag} {σ : L2.St} {H H' : Hp} {ta tb te : TE} {x y v : V} {Q : VK}
end
end HH
set_option maxHeartbeats 4000000
namespace HH
open PySem PySem.Spec PyProof.Rows L2 Evl RZ
section
variable {K : PySem.W.Frag} {σ : L2.St} {H H' : Hp} {ta tb te : TE} {x y v : V} {Q : VK}
end
end HH
namespace HH
open PySem PySem.Spec PyProof.Rows L2 Evl RZ
end HH
namespace HH
open PySem PySem.Spec PyProof.Rows L2 Evl RZ
end HH
set_option maxHeartbeats 4000000
namespace HH
open PySem PySem.Spec PyProof.Rows L2 Evl RZ
def spPlaces (K : PySem.W.Frag) : Sp := fun vs H Q _ => ∃ (o : Addr) (l : List Nat), vs = [.ref o] ∧ SqT K H o (natsV l) ∧ l.Nodup ∧ l.length ≤ 30 ∧ ∀ (q : Addr) (kvs : List (Key × V)) (H' : Hp), H q = none → Ex H H' → H' q = some (.dK kvs) → PlacesD l l.length kvs → Q (.ref q) H'
theorem s_at {ts : TS} {D : Ends} {σ : L2.St} {H : Hp} (σ' : L2.St) (e : σ = σ') (k : ts D σ' H) : ts D σ H := by
  rw [e]
  exact k
end HH
set_option maxHeartbeats 4000000
namespace HH
open PySem PySem.Spec PyProof.Rows L2 Evl RZ
def barN (rs : HH.Row) (i : Nat) : Nat → Int
  | 0 => sS rs i + tS rs i
  | m + 1 => if sS rs (i + 1 + m) ≤ barN rs i m then barN rs i m + tS rs (i + 1 + m) else barN rs i m
theorem barN_yes {rs : HH.Row} {i m : Nat} (h : sS rs (i + 1 + m) ≤ barN rs i m) : barN rs i (m + 1) = barN rs i m + tS rs (i + 1 + m) := if_pos h
theorem barN_no {rs : HH.Row} {i m : Nat} (h : ¬ sS rs (i + 1 + m) ≤ barN rs i m) : barN rs i (m + 1) = barN rs i m := if_neg h
def tsumC : List Cow → Int
  | [] => 0
  | x :: r => x.2.2 + tsumC r
theorem tsumC_app : ∀ A B : List Cow, tsumC (A ++ B) = tsumC A + tsumC B
  | [], B => by
    show tsumC B = 0 + tsumC B
    omega
  | x :: A, B => by
    show x.2.2 + tsumC (A ++ B) = x.2.2 + tsumC A + tsumC B
    rw [tsumC_app A B]
    omega
def BarI (rs : HH.Row) (m : Nat) : List Cow → Prop
  | [] => True
  | x :: r => x.2.1 + x.2.2 + tsumC r = barN rs x.1 (m - x.1 - 1) ∧ BarI rs m r
def PB (s : Int) : List Cow → Prop
  | [] => True
  | x :: r => x.2.1 + x.2.2 + tsumC r < s ∧ PB s r
theorem ins_end (w : Cow) : ∀ (k : Nat) (A B : List Cow), A.length = k → PB w.2.1 B → ∃ A' B', A ++ B = A' ++ B' ∧ PB w.2.1 B' ∧ Steps (A ++ (w.1, (w.2.1 - tsumC B, w.2.2)) :: B) (A' ++ (w.1, (w.2.1 - tsumC B', w.2.2)) :: B') ∧ ∀ x, A'.getLast? = some x → ¬ (w.2.1 - tsumC B' - x.2.2 > x.2.1)
  | 0, A, B, h, hp => by
    have e : A = [] := List.length_eq_zero_iff.mp h
    subst e
    exact ⟨[], B, rfl, hp, .refl _, fun x hx => by cases hx⟩
  | k + 1, A, B, h, hp => by
    have hne : A ≠ [] := fun e => by
      rw [e] at h
      cases h
    have eA := List.dropLast_concat_getLast hne
    generalize A.getLast hne = a at eA
    by_cases z : w.2.1 - tsumC B - a.2.2 > a.2.1
    · have hl : A.dropLast.length = k := by rw [List.length_dropLast, h]; rfl
      obtain ⟨A', B', e1, p1, s1, l1⟩ := ins_end w k A.dropLast (a :: B) hl ⟨by omega, hp⟩
      refine ⟨A', B', ?_, p1, .head ?_ s1, l1⟩
      · rw [← e1]
        conv => lhs; rw [← eA]
        simp
      · refine ⟨A.dropLast, B, a, (w.1, (w.2.1 - tsumC B, w.2.2)), ?_, z, ?_⟩
        · conv => lhs; rw [← eA]
          simp
        · have e2 : w.2.1 - tsumC (a :: B) = w.2.1 - tsumC B - a.2.2 := by
            show w.2.1 - (a.2.2 + tsumC B) = _
            omega
          rw [e2]
    · refine ⟨A, B, rfl, hp, .refl _, fun x hx => ?_⟩
      have e3 : A.getLast? = some a := by
        rw [← eA]
        simp
      rw [e3] at hx
      cases hx
      exact z
theorem bar_idx {x m : Nat} (h : x < m) : m + 1 - x - 1 = (m - x - 1) + 1 ∧ x + 1 + (m - x - 1) = m := by omega
theorem barI_B {rs : HH.Row} {m : Nat} {s : Int} (hs : s = sS rs m) : ∀ {B : List Cow}, PB s B → BarI rs m B → (∀ x ∈ B, x.1 < m) → BarI rs (m + 1) B ∧ ∀ x ∈ B, barN rs x.1 (m - x.1 - 1) < s
  | [], _, _, _ => ⟨True.intro, fun x hx => by cases hx⟩
  | x :: r, h, b, l => by
    obtain ⟨i1, i2⟩ := bar_idx (l x (List.mem_cons_self ..))
    obtain ⟨g1, g2⟩ := barI_B hs h.2 b.2 fun y hy => l y (List.mem_cons_of_mem _ hy)
    have h1 := h.1
    have hb := b.1
    refine ⟨⟨?_, g1⟩, fun y hy => ?_⟩
    · rw [i1, barN_no (by rw [i2, ← hs, ← hb]; omega)]
      exact hb
    · rcases List.mem_cons.mp hy with rfl | hy
      · rw [← hb]
        exact h1
      · exact g2 y hy
theorem barI_A {rs : HH.Row} {m : Nat} {w : Cow} {B : List Cow} (hw : w.1 = m) (hs : w.2.1 = sS rs m) (ht : w.2.2 = tS rs m) (hB : BarI rs (m + 1) B) : ∀ {A : List Cow}, NfR (A ++ B) → BarI rs m (A ++ B) → (∀ x ∈ A, x.1 < m) → (∀ x, A.getLast? = some x → ¬ (w.2.1 - tsumC B - x.2.2 > x.2.1)) →
    BarI rs (m + 1) (A ++ (w.1, (w.2.1 - tsumC B, w.2.2)) :: B) ∧ (∀ x r, A = x :: r → w.2.1 ≤ x.2.1 + x.2.2 + tsumC (r ++ B)) ∧ ∀ x ∈ A, w.2.1 ≤ barN rs x.1 (m - x.1 - 1)
  | [], _, _, _, _ => by
    refine ⟨⟨?_, hB⟩, fun x r e => (by cases e), fun x hx => by cases hx⟩
    show w.2.1 - tsumC B + w.2.2 + tsumC B = barN rs w.1 (m + 1 - w.1 - 1)
    rw [hw, show m + 1 - m - 1 = 0 by omega]
    show _ = sS rs m + tS rs m
    omega
  | [x], n, b, l, la => by
    obtain ⟨i1, i2⟩ := bar_idx (l x (List.mem_cons_self ..))
    have z := la x rfl
    have hb : x.2.1 + x.2.2 + tsumC ([] ++ B) = barN rs x.1 (m - x.1 - 1) := b.1
    have hc : w.2.1 ≤ x.2.1 + x.2.2 + tsumC ([] ++ B) := by
      show w.2.1 ≤ x.2.1 + x.2.2 + tsumC B
      omega
    refine ⟨⟨?_, ?_⟩, fun y r e => ?_, fun y hy => ?_⟩
    · show x.2.1 + x.2.2 + (w.2.2 + tsumC B) = barN rs x.1 (m + 1 - x.1 - 1)
      rw [i1, barN_yes (by rw [i2, ← hs, ← hb]; exact hc), i2, ← hb, ← ht]
      show _ = x.2.1 + x.2.2 + tsumC B + w.2.2
      omega
    · show BarI rs (m + 1) ((w.1, (w.2.1 - tsumC B, w.2.2)) :: B)
      refine ⟨?_, hB⟩
      show w.2.1 - tsumC B + w.2.2 + tsumC B = barN rs w.1 (m + 1 - w.1 - 1)
      rw [hw, show m + 1 - m - 1 = 0 by omega]
      show _ = sS rs m + tS rs m
      omega
    · cases e
      exact hc
    · rcases List.mem_cons.mp hy with rfl | hy
      · rw [← hb]
        exact hc
      · cases hy
  | x :: y :: A, n, b, l, la => by
    obtain ⟨i1, i2⟩ := bar_idx (l x (List.mem_cons_self ..))
    obtain ⟨g1, g2, g3⟩ := barI_A hw hs ht hB (A := y :: A) n.2 b.2 (fun z hz => l z (List.mem_cons_of_mem _ hz)) (fun z hz => la z (by rw [List.getLast?_cons_cons]; exact hz))
    have hb : x.2.1 + x.2.2 + tsumC (y :: A ++ B) = barN rs x.1 (m - x.1 - 1) := b.1
    have nn := n.1
    have hy := g2 y A rfl
    have hc : w.2.1 ≤ x.2.1 + x.2.2 + tsumC (y :: A ++ B) := by
      show w.2.1 ≤ x.2.1 + x.2.2 + (y.2.2 + tsumC (A ++ B))
      omega
    refine ⟨⟨?_, g1⟩, fun z r e => ?_, fun z hz => ?_⟩
    · show x.2.1 + x.2.2 + tsumC (y :: A ++ (w.1, (w.2.1 - tsumC B, w.2.2)) :: B) = barN rs x.1 (m + 1 - x.1 - 1)
      rw [i1, barN_yes (by rw [i2, ← hs, ← hb]; exact hc), i2, ← hb, ← ht, tsumC_app, tsumC_app]
      show x.2.1 + x.2.2 + (tsumC (y :: A) + (w.2.2 + tsumC B)) = _
      omega
    · cases e
      exact hc
    · rcases List.mem_cons.mp hz with rfl | hz
      · rw [← hb]
        exact hc
      · exact g3 z hz
theorem bef_ins {m j i : Nat} {Y : List Nat} (hj : j ≠ m) (hi : i ≠ m) : ∀ X : List Nat, (bef (X ++ m :: Y) j i = true ↔ bef (X ++ Y) j i = true)
  | [] => by
    show bef (m :: Y) j i = true ↔ bef Y j i = true
    rw [bef_cons]
    constructor
    · rintro (⟨h, _⟩ | h)
      · exact absurd h.symm hj
      · exact h
    · exact .inr
  | x :: X => by
    show bef (x :: (X ++ m :: Y)) j i = true ↔ bef (x :: (X ++ Y)) j i = true
    rw [bef_cons, bef_cons, bef_ins hj hi X]
    have e : i ∈ X ++ m :: Y ↔ i ∈ X ++ Y := by
      simp [hi]
    rw [e]
theorem bef_new {m i : Nat} {Y : List Nat} (hY : m ∉ Y) : ∀ X : List Nat, m ∉ X → (bef (X ++ m :: Y) m i = true ↔ i ∈ Y)
  | [], _ => by
    show bef (m :: Y) m i = true ↔ i ∈ Y
    rw [bef_cons]
    constructor
    · rintro (⟨_, h⟩ | h)
      · exact h
      · exact absurd (bef_mem h).1 hY
    · exact fun h => .inl ⟨rfl, h⟩
  | x :: X, h => by
    show bef (x :: (X ++ m :: Y)) m i = true ↔ i ∈ Y
    rw [bef_cons, bef_new hY X (fun z => h (List.mem_cons_of_mem _ z))]
    constructor
    · rintro (⟨e, _⟩ | h1)
      · exact absurd (List.mem_cons.mpr (.inl e.symm)) h
      · exact h1
    · exact .inr
theorem tag_app : ∀ (k : Nat) (a b : HH.Row), tag k (a ++ b) = tag k a ++ tag (k + a.length) b
  | k, [], b => rfl
  | k, x :: a, b => by
    show (k, x) :: tag (k + 1) (a ++ b) = (k, x) :: (tag (k + 1) a ++ tag (k + (a.length + 1)) b)
    rw [tag_app (k + 1) a b, show k + 1 + a.length = k + (a.length + 1) by omega]
structure EndP (rs : HH.Row) (m : Nat) (N : List Cow) : Prop where
  st : Steps (tag 0 (rs.take m)) N
  nf : NfR N
  ba : BarI rs m N
  ids : (N.map (·.1)).Perm (List.range m)
  by' : ∀ i j : Nat, i < j → j < m → (bef (N.map (·.1)) j i = true ↔ barN rs i (j - i - 1) < sS rs j)
theorem endP {rs : HH.Row} (ht : ∀ b ∈ rs, 0 ≤ b.2) : ∀ m, m ≤ rs.length → ∃ N, EndP rs m N
  | 0, _ => ⟨[], .refl _, True.intro, True.intro, .refl _, fun i j _ h => absurd h (Nat.not_lt_zero _)⟩
  | m + 1, h => by
    obtain ⟨N, e⟩ := endP ht m (by omega)
    have hm : m < rs.length := by omega
    have hg := row_get hm
    have hmem : ∀ x ∈ N, x.1 < m := fun x hx => List.mem_range.mp (e.ids.mem_iff.mp (List.mem_map_of_mem (f := (·.1)) hx))
    obtain ⟨A, B, e1, pb, st, la⟩ := ins_end (m, (sS rs m, tS rs m)) N.length N [] rfl True.intro
    rw [List.append_nil] at e1
    subst e1
    have t0 : 0 ≤ tS rs m := by
      have := ht (sS rs m, tS rs m) (List.mem_of_getElem? hg)
      exact this
    have hA : ∀ x ∈ A, x.1 < m := fun x hx => hmem x (List.mem_append_left _ hx)
    have hB : ∀ x ∈ B, x.1 < m := fun x hx => hmem x (List.mem_append_right _ hx)
    have baB : BarI rs m B := by
      have := e.ba
      clear e st la pb hmem hA
      induction A with
      | nil => exact this
      | cons x A ih => exact ih this.2
    obtain ⟨b1, b2⟩ := barI_B (s := sS rs m) rfl pb baB hB
    obtain ⟨a1, _, a3⟩ := barI_A (w := (m, (sS rs m, tS rs m))) rfl rfl rfl b1 e.nf e.ba hA la
    refine ⟨A ++ (m, (sS rs m - tsumC B, tS rs m)) :: B, ?_, ?_, a1, ?_, ?_⟩
    · have e2 : rs.take (m + 1) = rs.take m ++ [(sS rs m, tS rs m)] := by
        rw [List.take_add_one, hg]
        rfl
      have e3 : tag 0 (rs.take (m + 1)) = tag 0 (rs.take m) ++ [(m, (sS rs m, tS rs m))] := by
        rw [e2, tag_app, List.length_take, Nat.min_eq_left (by omega), Nat.zero_add]
        rfl
      rw [e3]
      have s1 := e.st.under [] [(m, (sS rs m, tS rs m))]
      refine Steps.trans (by simpa using s1) ?_
      have e4 : sS rs m - tsumC [] = sS rs m := Int.sub_zero _
      have st' := st
      dsimp only at st'
      rw [e4] at st'
      simpa using st'
    · refine nfr_in e.nf la fun b r eb => ?_
      subst eb
      have := pb.1
      show ¬ (b.2.1 - tS rs m > sS rs m - (b.2.2 + tsumC r))
      dsimp only at this
      omega
    · rw [List.map_append, List.map_cons, List.range_succ]
      have ids := e.ids
      rw [List.map_append] at ids
      refine List.perm_middle.trans ?_
      refine (List.Perm.cons m ids).trans ?_
      exact List.perm_append_comm (l₁ := [m]) (l₂ := List.range m)
    · intro i j hij hj
      have eids : (A ++ (m, (sS rs m - tsumC B, tS rs m)) :: B).map (·.1) = A.map (·.1) ++ m :: B.map (·.1) := by
        rw [List.map_append, List.map_cons]
      rw [eids]
      have eids0 : (A ++ B).map (·.1) = A.map (·.1) ++ B.map (·.1) := List.map_append
      have noA : m ∉ A.map (·.1) := fun z => by
        obtain ⟨x, hx, ex⟩ := List.mem_map.mp z
        have := hA x hx
        omega
      have noB : m ∉ B.map (·.1) := fun z => by
        obtain ⟨x, hx, ex⟩ := List.mem_map.mp z
        have := hB x hx
        omega
      by_cases hjm : j = m
      · subst hjm
        rw [bef_new noB _ noA]
        constructor
        · intro z
          obtain ⟨x, hx, rfl⟩ := List.mem_map.mp z
          exact b2 x hx
        · intro z
          have hi : i ∈ (A ++ B).map (·.1) := e.ids.mem_iff.mpr (List.mem_range.mpr hij)
          rw [eids0] at hi
          rcases List.mem_append.mp hi with hi | hi
          · obtain ⟨x, hx, rfl⟩ := List.mem_map.mp hi
            have := a3 x hx
            dsimp only at this
            omega
          · exact hi
      · rw [bef_ins hjm (by omega), ← eids0]
        exact e.by' i j hij (by omega)
theorem never_iff {rs : HH.Row} {L : List Cow} (ht : ∀ b ∈ rs, 0 ≤ b.2) (h : Steps (tag 0 rs) L) (nf : Nf L) {i j : Nat} (hij : i < j) (hj : j < rs.length) : bef (L.map (·.1)) j i = true ↔ barN rs i (j - i - 1) < sS rs j := by
  obtain ⟨N, e⟩ := endP ht rs.length (Nat.le_refl _)
  have st := e.st
  rw [List.take_length] at st
  rw [nf_any (good_tag ht).tl h nf st (nfr_nf e.nf)]
  exact e.by' i j hij hj
def nevP (rs : HH.Row) (i m : Nat) : Bool := decide (sS rs (i + 1 + m) ≤ barN rs i m)
def nevL (rs : HH.Row) (i n : Nat) : List Nat := ((List.range n).filter (nevP rs i)).map (i + 1 + ·)
end HH
set_option maxHeartbeats 4000000
namespace HH
open PySem PySem.Spec PyProof.Rows L2 Evl RZ
section
variable {K : PySem.W.Frag} {σ : L2.St} {H H' : Hp} {ta tb te : TE} {x y v : V}
end
def LowN (n : Nat) (b : Int × Int) : Prop := b.1.natAbs ≤ 10 ^ 12 * (n + 1) ∧ 0 ≤ b.2 ∧ b.2 < 10 ^ 12
theorem MRun.low {L0 L : List Cow} {ds : List Deed} (r : MRun L0 L ds) (h : ∀ x ∈ L0, LowN 0 x.2) : ∀ x ∈ L, LowN ds.length x.2 := by
  have e : (10 : Int) ^ 12 = 1000000000000 := by decide
  have e2 : (10 : Nat) ^ 12 = 1000000000000 := by decide
  induction r with
  | nil => exact h
  | pass r hp ih =>
    rename_i pre post a b ds
    intro x hx
    rw [List.length_append]
    show LowN (ds.length + 1) x.2
    have up : ∀ y, LowN ds.length y → LowN (ds.length + 1) y := fun y hy => by
      unfold LowN at hy ⊢
      rw [e2] at hy ⊢
      omega
    simp only [List.mem_append, List.mem_cons] at hx
    rcases hx with hx | hx | hx | hx
    · exact up _ (ih x (by simp [hx]))
    · subst hx
      have ha := ih a (by simp)
      have hb := ih b (by simp)
      unfold LowN at ha hb ⊢
      rw [e, e2] at ha hb ⊢
      dsimp only
      omega
    · exact up _ (ih x (by simp [hx]))
    · exact up _ (ih x (by simp [hx]))
  | fall r hp ih =>
    rename_i pre post a b ds
    intro x hx
    rw [List.length_append]
    show LowN (ds.length + 1) x.2
    have up : ∀ y, LowN ds.length y → LowN (ds.length + 1) y := fun y hy => by
      unfold LowN at hy ⊢
      rw [e2] at hy ⊢
      omega
    simp only [List.mem_append, List.mem_cons] at hx
    rcases hx with hx | hx | hx | hx
    · exact up _ (ih x (by simp [hx]))
    · exact up _ (ih x (by simp [hx]))
    · subst hx
      have ha := ih a (by simp)
      have hb := ih b (by simp)
      unfold LowN at ha hb ⊢
      rw [e, e2] at ha hb ⊢
      dsimp only
      omega
    · exact up _ (ih x (by simp [hx]))
theorem LowN.low {n : Nat} {b : Int × Int} (h : LowN n b) (hn : n ≤ 1000) : Low b := by
  unfold LowN at h
  unfold Low
  have e : (10 : Int) ^ 12 = 1000000000000 := by decide
  have e2 : (10 : Nat) ^ 12 = 1000000000000 := by decide
  have e3 : (10 : Nat) ^ 18 = 1000000000000000000 := by decide
  rw [e, e2] at h
  rw [e3]
  omega
end HH
set_option maxHeartbeats 4000000
namespace HH
open PySem PySem.Spec PyProof.Rows L2 Evl RZ
section
variable {K : PySem.W.Frag} {σ : L2.St} {H H' : Hp} {ta tb te : TE} {x y v : V}
end
end HH
set_option maxHeartbeats 4000000
namespace HH
open PySem PySem.Spec PyProof.Rows L2 Evl RZ
section
variable {X : Cx}
end
def stopAt (l : List Nat) (j : Nat) : V := if j = 0 then .non else .int (ixN l (j - 1) : Int)
structure InsR (w : Cow) (N A B : List Cow) : Prop where
  e : N = A ++ B
  st : Steps (N ++ [w]) (A ++ (w.1, (w.2.1 - tsumC B, w.2.2)) :: B)
  pb : PB w.2.1 B
theorem InsR.start (w : Cow) (N : List Cow) : InsR w N N [] := by
  refine ⟨(List.append_nil N).symm, ?_, True.intro⟩
  have e : (w.1, (w.2.1 - tsumC [], w.2.2)) = w := by
    show (w.1, (w.2.1 - 0, w.2.2)) = w
    rw [Int.sub_zero]
  rw [e]
  exact .refl _
theorem InsR.next {w a : Cow} {N A B : List Cow} (h : InsR w N (A ++ [a]) B) (hp : w.2.1 - tsumC B - a.2.2 > a.2.1) : InsR w N A (a :: B) := by
  refine ⟨by rw [h.e, List.append_assoc]; rfl, h.st.snoc ⟨A, B, a, (w.1, (w.2.1 - tsumC B, w.2.2)), by rw [List.append_assoc]; rfl, hp, ?_⟩, ⟨by omega, h.pb⟩⟩
  have e2 : w.2.1 - tsumC (a :: B) = w.2.1 - tsumC B - a.2.2 := by
    show w.2.1 - (a.2.2 + tsumC B) = _
    omega
  rw [e2]
theorem InsR.stop {w : Cow} {N A B : List Cow} (h : InsR w N A B) (n : NfR N) (t : 0 ≤ w.2.2) (la : ∀ x, A.getLast? = some x → ¬ (w.2.1 - tsumC B - x.2.2 > x.2.1)) : NfR (A ++ (w.1, (w.2.1 - tsumC B, w.2.2)) :: B) := by
  have hn := n
  rw [h.e] at hn
  refine nfr_in hn la fun b r eb => ?_
  have hb := h.pb
  subst eb
  have := hb.1
  show ¬ (b.2.1 - w.2.2 > w.2.1 - (b.2.2 + tsumC r))
  omega
end HH
set_option maxHeartbeats 4000000
namespace HH
open PySem PySem.Spec PyProof.Rows L2 Evl RZ
def MixSt (z TI TO i1 i2 a b : Addr) (i : Nat) (h : Heap) : Prop := IsZip h z TI TO .none ∧ IsTupOf2 h TI (.ref i1) (.ref i2) ∧ (∃ x y, IsTupOf2 h TO x y) ∧ h.IsListIter i1 a i ∧ h.IsTupleIter i2 b i
theorem five {c z TI TO i1 i2 : Addr} (h : c ∈ [z, TI, TO, i1, i2]) : c = z ∨ c = TI ∨ c = TO ∨ c = i1 ∨ c = i2 := by simpa using h
theorem MixSt.objs {z TI TO i1 i2 a b : Addr} {i : Nat} {h : Heap} (m : MixSt z TI TO i1 i2 a b i h) : ∀ c ∈ [z, TI, TO, i1, i2], ∃ ob, h.get? c = some ob ∧ ∀ v, ob.data ≠ .cell v := fun c hc => by
  obtain ⟨m1, m2, ⟨_, _, m3⟩, ⟨p1, g1, _, d1⟩, ⟨p2, g2, _, d2⟩⟩ := m
  rcases five hc with rfl | rfl | rfl | rfl | rfl
  · exact ⟨_, m1, fun v q => by cases q⟩
  · exact ⟨_, m2, fun v q => by cases q⟩
  · exact ⟨_, m3, fun v q => by cases q⟩
  · exact ⟨p1, g1, fun v q => by rw [d1] at q; cases q⟩
  · exact ⟨p2, g2, fun v q => by rw [d2] at q; cases q⟩
end HH
set_option maxHeartbeats 4000000
namespace HH
open PySem PySem.Spec PyProof.Rows L2 Evl RZ
def tp (rs : HH.Row) (k : Nat) : Int := tsum (rs.take k)
section
variable {K : PySem.W.Frag} {σ : L2.St} {H H' : Hp} {ta tb te : TE} {x y v : V} {t : TT}
theorem alike_two {d : Nat} {a b : Addr} {x1 x2 y1 y2 : V} (h : SqL K H a [x1, x2]) (g : SqL K H b [y1, y2]) (h1 : Alike K H d x1 y1) (h2 : Alike K H d x2 y2) : Alike K H (d + 1) (.ref a) (.ref b) := .inr ⟨a, b, _, _, rfl, rfl, .inl ⟨h, g⟩, rfl, by show 2 ≤ 40000; decide, fun i u w hu hw => by
  match i, hu, hw with
  | 0, hu, hw =>
    cases hu
    cases hw
    exact h1
  | 1, hu, hw =>
    cases hu
    cases hw
    exact h2
  | i + 2, hu, _ => cases hu⟩
end
section
variable {X : Cx}
end
end HH
set_option maxHeartbeats 4000000
namespace HH
open PySem PySem.Spec PyProof.Rows L2 Evl RZ
structure ListsF (H0 H : Hp) (us : List V) (ll : List (List Nat)) : Prop where
  len : us.length = ll.length
  at' : ∀ (i : Nat) (l : List Nat), ll[i]? = some l → ∃ p, us[i]? = some (.ref p) ∧ H0 p = none ∧ H p = some (.lst (natsV l))
theorem ListsF.nil {H0 H : Hp} : ListsF H0 H [] [] := ⟨rfl, fun i l h => by cases h⟩
theorem ListsF.ex {H0 H H' : Hp} {us : List V} {ll : List (List Nat)} (h : ListsF H0 H us ll) (e : Ex H H') : ListsF H0 H' us ll := ⟨h.len, fun i l hl => by
  obtain ⟨p, h1, h2, h3⟩ := h.at' i l hl
  exact ⟨p, h1, h2, e _ _ h3⟩⟩
theorem ListsF.low {H00 H0 H : Hp} {us : List V} {ll : List (List Nat)} (h : ListsF H0 H us ll) (e : Ex H00 H0) : ListsF H00 H us ll := ⟨h.len, fun i l hl => by
  obtain ⟨p, h1, h2, h3⟩ := h.at' i l hl
  exact ⟨p, h1, fresh_back e h2, h3⟩⟩
theorem ListsF.mut {H0 H : Hp} {us : List V} {ll : List (List Nat)} {D : Addr} {o o' : HO} (h : ListsF H0 H us ll) (hD : H0 D = some o) : ListsF H0 (upd H D o') us ll := ⟨h.len, fun i l hl => by
  obtain ⟨p, h1, h2, h3⟩ := h.at' i l hl
  refine ⟨p, h1, h2, ?_⟩
  rw [upd_ne (Ne.symm (ne_of_none hD h2))]
  exact h3⟩
theorem ListsF.app {H0 H : Hp} {us : List V} {ll : List (List Nat)} {p : Addr} {l : List Nat} (h : ListsF H0 H us ll) (hp : H0 p = none) (hl : H p = some (.lst (natsV l))) : ListsF H0 H (us ++ [.ref p]) (ll ++ [l]) := by
  refine ⟨by rw [List.length_append, List.length_append, h.len]; rfl, fun i m hm => ?_⟩
  by_cases hi : i < ll.length
  · rw [List.getElem?_append_left hi] at hm
    rw [List.getElem?_append_left (by rw [h.len]; exact hi)]
    exact h.at' i m hm
  · rw [List.getElem?_append_right (by omega)] at hm
    rw [List.getElem?_append_right (by rw [h.len]; omega), h.len]
    match e : i - ll.length, hm with
    | 0, hm =>
      cases hm
      exact ⟨p, rfl, hp, hl⟩
    | k + 1, hm => cases hm
def nevT (rs : HH.Row) : List (List Nat) := (List.range rs.length).map fun i => nevL rs i (rs.length - i - 1)
section
variable {X : Cx}
end
section
variable {K : PySem.W.Frag} {σ : L2.St} {H : Hp} {v : V}
end
end HH
set_option maxHeartbeats 4000000
namespace HH
open PySem PySem.Spec PyProof.Rows L2 Evl RZ
def PlainT (o : Obj) : Prop := o.cls = .type "tuple" ∧ o.dict = none
section
variable {X : Cx}
end
structure LastAtF (K : PySem.W.Frag) (H : Hp) (q : Addr) (L : List Cow) : Prop where
  ex : ∃ (v : V) (ot : Addr) (o : Obj), H q = some (.tup [v, .ref ot]) ∧ RowAt K H v (rowsOf L) ∧ H ot = some (.frz o (.tup (ordL L))) ∧ PlainT o
end HH
set_option maxHeartbeats 4000000
namespace HH
open PySem PySem.Spec PyProof.Rows L2 Evl RZ
inductive StepsN : Nat → List Cow → List Cow → Prop
  | refl (L : List Cow) : StepsN 0 L L
  | head {k : Nat} {L M N : List Cow} : Step L M → StepsN k M N → StepsN (k + 1) L N
theorem StepsN.trans {a b : Nat} {L M N : List Cow} (h : StepsN a L M) (g : StepsN b M N) : StepsN (a + b) L N := by
  induction h with
  | refl => rw [Nat.zero_add]; exact g
  | head s _ ih =>
    rename_i k L M N _
    rw [show k + 1 + b = k + b + 1 by omega]
    exact .head s (ih g)
theorem StepsN.steps {a : Nat} {L M : List Cow} (h : StepsN a L M) : Steps L M := by
  induction h with
  | refl => exact .refl _
  | head s _ ih => exact .head s ih
theorem StepsN.under {a : Nat} {L M : List Cow} (pre post : List Cow) (h : StepsN a L M) : StepsN a (pre ++ L ++ post) (pre ++ M ++ post) := by
  induction h with
  | refl => exact .refl _
  | head s _ ih => exact .head (s.under pre post) ih
theorem StepsN.map {a : Nat} {L M : List Cow} (f : Nat → Nat) (h : StepsN a L M) : StepsN a (rlL f L) (rlL f M) := by
  induction h with
  | refl => exact .refl _
  | head s _ ih => exact .head (s.map f) ih
theorem StepsN.run {a : Nat} {L0 L M : List Cow} (h : StepsN a L M) : ∀ {ps : List (Int × Int)}, PRun L0 L ps → ∃ qs, PRun L0 M qs ∧ qs.length = ps.length + a := by
  induction h with
  | refl => exact fun r => ⟨_, r, rfl⟩
  | head s _ ih =>
    intro ps r
    obtain ⟨pre, post, x, y, rfl, hp, rfl⟩ := s
    obtain ⟨qs, g1, g2⟩ := ih (r.step hp)
    refine ⟨qs, g1, ?_⟩
    rw [g2, List.length_append]
    show ps.length + 1 + _ = _
    omega
theorem StepsN.tab {a : Nat} {rs : HH.Row} {L : List Cow} (ht : ∀ b ∈ rs, 0 ≤ b.2) (h : StepsN a (tag 0 rs) L) : (tab (L.map (·.1)) rs.length rs.length).length = a := by
  obtain ⟨qs, r, e⟩ := h.run (PRun.nil)
  obtain ⟨td, _, _⟩ := r.told ht
  have ids := h.steps.ids
  rw [tag_ids] at ids
  rw [← (told_tab td fun x hx => List.mem_range.mp (ids.mem_iff.mp hx)).length_eq, e]
  show 0 + a = a
  omega
theorem tag_rl (k b : Nat) : ∀ rs : HH.Row, tag (b + k) rs = rlL (b + ·) (tag k rs) := by
  intro rs
  refine List.ext_getElem? fun i => ?_
  unfold rlL
  rw [List.getElem?_map, tag_at, tag_at]
  cases rs[i]? with
  | none => rfl
  | some x =>
    show some (b + k + i, x) = some (b + (k + i), x)
    rw [Nat.add_assoc]
end HH
set_option maxHeartbeats 4000000
namespace HH
open PySem PySem.Spec PyProof.Rows L2 Evl RZ
section
variable {X : Cx}
end
def EvP (K : PySem.W.Frag) (te : TE) (σ : L2.St) (H : Hp) (ps : HH.Row) : Prop := ∀ H1, Ex H H1 → ∀ Q : VK, (∀ (q : Addr) (us : List V) (H2 : Hp), H1 q = none → Ex H1 H2 → H2 q = some (.lst us) → Beasts K H2 us ps → Q (.ref q) H2) → te σ H1 Q
section
variable {K : PySem.W.Frag} {σ : L2.St} {H H' : Hp} {ta tb tc te : TE} {x y v : V} {Q : VK}
theorem alike_pairs {a b : Addr} {us ws : List V} {ps : HH.Row} (ha : SqL K H a us) (hb : SqL K H b ws) (f : Beasts K H us ps) (g : Beasts K H ws ps) (hz : ps.length ≤ 40000) : Alike K H 3 (.ref a) (.ref b) := by
  refine .inr ⟨a, b, us, ws, rfl, rfl, .inl ⟨ha, hb⟩, by rw [f.1, g.1], by rw [f.1]; exact hz, fun i x y hx hy => ?_⟩
  have hi : i < ps.length := by
    rw [← f.1]
    exact (List.getElem?_eq_some_iff.mp hx).1
  obtain ⟨x', ex, bx⟩ := f.2 i _ (List.getElem?_eq_getElem hi)
  obtain ⟨y', ey, by'⟩ := g.2 i _ (List.getElem?_eq_getElem hi)
  rw [hx] at ex
  rw [hy] at ey
  cases ex
  cases ey
  exact alike_beast bx by'
theorem g_at {i : Nat} {x : V} {k : L2.St → Hp → Prop} (σ' : L2.St) (e : σ.set i (some x) = σ') (h : k σ' H) : gName i x σ H k := by
  show k (σ.set i (some x)) H
  rw [e]
  exact h
end
end HH
set_option maxHeartbeats 4000000
namespace HH
open PySem PySem.Spec PyProof.Rows L2 Evl RZ
abbrev RowsA (K : PySem.W.Frag) (H : Hp) : List V → List HH.Row → Prop := All2 (RowAt K H)
theorem RowsA.ex' {K : PySem.W.Frag} {H H' : Hp} {us : List V} {rr : List HH.Row} (h : RowsA K H us rr) (e : Ex H H') : RowsA K H' us rr := All2.mono (fun _ _ r => r.ex e) h
theorem RowsA.exB' {K : PySem.W.Frag} {H H' : Hp} {us : List V} {rr : List HH.Row} {q : Addr} {ys : List V} (h : RowsA K H us rr) (e : ExB q H H') (hq : H q = some (.lst ys)) : RowsA K H' us rr := All2.mono (fun _ _ r => r.exL e hq) h
section
variable {K : PySem.W.Frag} {σ : L2.St} {H : Hp} {ta tb tc tx : TE} {Q : VK}
end
end HH
set_option maxHeartbeats 4000000
namespace HH
open PySem PySem.Spec PyProof.Rows L2 Evl RZ
section
variable {X : Cx}
theorem run_put {ps : List (Addr × Obj)} {τ : L2.St} {G G' : Hp} {t : Shared} {Er : Value → Shared → Prop} {d : Addr} {key val : V} {ku vu : Value} {Fin : Unit → Shared → Prop} (rm : X.A.units < cLine) (inv : Inv X ps τ G t) (put : DPut G d key val G') (rk : RelV key ku) (rv : RelV val vu)
    (go : ∀ t', Inv X ps τ G' t' → Fin () t') : wpAny (model X.prog X.w) X.A (dictSet d ku vu) Fin Er t := by
  rcases put with ⟨es, c, ed, rfl, sz, rfl⟩ | ⟨es, c, b, ed, rfl, eb, sz, rfl⟩
  · exact d_dictSet inv ed sz rk rv go
  · cases (show ku = Value.ref b from rk)
    obtain ⟨z1, z2, rows, pr, holds⟩ := dt_of inv.hok ed
    have few : rows.length ≤ sizeLine := (Paired.length pr) ▸ z1
    refine wpAny_dictSet_heap (knd := tupleKind (mixKind X.prog X.w)) (hsz := few) rm (key_of inv.hok eb) holds fun g2 holds2 same => go _ ?_
    obtain ⟨ob, ents, ep, o1, o2, o3, o4, _, o6⟩ := holds2
    have len2 : (putK es c val).length ≤ sizeLine := Nat.le_trans (length_putK es c val) sz
    have pr2 := (pr.put c eb rv).keeps (H' := upd G d (.dT (putK es c val))) fun x ys ex => by
      rw [upd_ne (ne_of ex ed fun z => nomatch z)]
      exact ex
    exact d_write inv (by rw [ed]; trivial) same ⟨ob, o1⟩ ⟨len2, z2, _, pr2, ob, ents, ep, o1, o2, o3, o4, o6⟩
def tDcT (wi : TI) (g : TG) (tt : TT) (tk tv : TE) (vs : List Nat) : TE := fun σ H Q => wi σ H fun J H1 => ∀ d, H1 d = none → ∃ W : Nat → Nat → Hp → Prop, (∃ m, W 0 m (upd H1 d (.dT []))) ∧ ∀ i m G, W i m G →
  (J.stop i G ∧ Q (.ref d) G) ∨ (J.go i G ∧ ∃ Nx : Hp → Prop, (∀ G', Nx G' → ∃ m', m' < m ∧ W (i + 1) m' G') ∧ ∀ x G', J.yld i G x G' → g x (wipe σ vs) G' fun σ2 G2 => wipe σ2 vs = wipe σ vs ∧ tt σ2 G2 fun b G3 =>
    if b = true then tk σ2 G3 fun y G4 => tv σ2 G4 fun z G5 => ∃ G6, DPut G5 d y z G6 ∧ Nx G6 else Nx G3)
theorem core_dcT {ps : List (Addr × Obj)} {t : Shared} {σ : L2.St} {H : Hp} {Q : VK} {kx vx tg it : Expr} {ifs : List Expr} {scp : Scope} {own : List (Str × Nat)} {pa pb : Pos} {wi : TI} {g : TG} {tt : TT} {tk tv : TE} {use : Option (Value → Sem Unit)} {Fin : Value → Shared → Prop}
    (calm : X.calm = true) (rm : X.A.units < cLine) (nd : X.N.Nodup) (inv : Inv X ps σ H t) (pi : PI X tg it wi) (ok : BlkOk X.N X.env.scope scp own)
    (pg : ∀ (s : Shared) (G : Hp) (c : Addr) (cl : List (Str × Addr)) (fp : List Addr), PG (X.blk s G scp (compEnvC scp cl c X.env) fp) tg g)
    (pt : ∀ (s : Shared) (G : Hp) (c : Addr) (cl : List (Str × Addr)) (fp : List Addr), PTs (X.blk s G scp (compEnvC scp cl c X.env) fp) ifs tt)
    (pk : ∀ (s : Shared) (G : Hp) (c : Addr) (cl : List (Str × Addr)) (fp : List Addr), PE (X.blk s G scp (compEnvC scp cl c X.env) fp) kx tk)
    (pv : ∀ (s : Shared) (G : Hp) (c : Addr) (cl : List (Str × Addr)) (fp : List Addr), PE (X.blk s G scp (compEnvC scp cl c X.env) fp) vx tv)
    (fold : ∀ x, foldedSetIterable it X.env x = pure x) (told : tDcT wi g tt tk tv (own.map (·.2)) σ H Q)
    (last : ∀ d c t' m G, Inv X ps σ G t' → Q (.ref d) G → t'.heap.Ns c m → FpOk X ps G c → compPost (model X.prog X.w) X.A X.xe use Fin (.ref d) c (.ok .next) t') :
    wpAny (model X.prog X.w) X.A (comprehension (.DictComp kx vx [⟨tg, it, ifs, 0⟩] scp pa) scp X.env pb newDict false (eval it X.env) use) Fin X.xe t := by
  have cells : ∀ y ∈ scp.names, y.2 = .free → ∃ c, X.env.cells.lookup y.1 = some c := by
    intro y my ey
    exact (ok.free y my ey).elim (fun k => inv.ok.has _ (.inl k)) fun k => inv.ok.has _ (.inr k)
  refine wpAny_comprehension_free (use := use) rfl fold (closure_ok cells) ok.kind (fun y my ey => (ok.uniq y my).trans (congrArg some ey)) ?_
  refine thn (pi.run ps t σ H _ inv told) fun x1 t1 h1 => thn h1 fun x2 t2 h2 => ?_
  obtain ⟨ia, fp, tn, J, H2, rfl, inv2, turns, at2, fp2, steps⟩ := h2
  refine wpAny_newObj_type (newEnv_comp ?_)
  have fresh : H2 t2.heap.objs.size = none := inv2.hok.fresh (Nat.le_refl _)
  obtain ⟨W, ⟨m0, w0⟩, turn⟩ := steps t2.heap.objs.size fresh
  have inv3 : Inv X ps σ (upd H2 t2.heap.objs.size (.dT [])) { t2 with heap := t2.heap.push { cls := .type "dict", data := .dict #[] } } :=
    inv2.laid (t' := t2.toks) (fun a o ea => Heap.get?_push_of_some _ ea) (Nat.le_refl _) (dt_empty t2.heap inv2.big)
  have below : ∀ a ∈ fp, a < t2.heap.objs.size := fun a ma => by
    obtain ⟨o, eo, _⟩ := turns.obj _ _ at2 a ma
    exact Heap.lt_size eo
  have fp3 : ∀ a ∈ fp, FpOk X ps (upd H2 t2.heap.objs.size (.dT [])) a ∧ a < (t2.heap.push { cls := .type "dict", data := .dict #[] }).objs.size := fun a ma => by
    have lt := below a ma
    constructor
    · refine ⟨?_, (fp2 a ma).2⟩
      rw [upd_ne (Nat.ne_of_lt lt)]
      exact (fp2 a ma).1
    · rw [Heap.size_push]
      exact Nat.lt_succ_of_lt lt
  have at3 : tn 0 (t2.heap.push { cls := .type "dict", data := .dict #[] }) := turns.keep _ _ _ at2 fun a _ o eo => Heap.get?_push_of_some _ eo
  generalize t2.heap.objs.size = d at *
  generalize et3 : ({ t2 with heap := t2.heap.push { cls := .type "dict", data := .dict #[] } } : Shared) = t3 at *
  have eh3 : t2.heap.push { cls := .type "dict", data := .dict #[] } = t3.heap := by rw [← et3]
  rw [eh3] at fp3 at3
  have inv4 := block_start inv3 ok nd fp3
  have pg4 := pg t3 (upd H2 d (.dT [])) t3.heap.objs.size (cellsFrom (t3.heap.objs.size + 1) scp.names (cloFrom X.env.cells scp.names [])) fp
  have pt4 := pt t3 (upd H2 d (.dT [])) t3.heap.objs.size (cellsFrom (t3.heap.objs.size + 1) scp.names (cloFrom X.env.cells scp.names [])) fp
  have pk4 := pk t3 (upd H2 d (.dT [])) t3.heap.objs.size (cellsFrom (t3.heap.objs.size + 1) scp.names (cloFrom X.env.cells scp.names [])) fp
  have pv4 := pv t3 (upd H2 d (.dT [])) t3.heap.objs.size (cellsFrom (t3.heap.objs.size + 1) scp.names (cloFrom X.env.cells scp.names [])) fp
  show codeAny _ _ (.compStart (.DictComp kx vx [⟨tg, it, ifs, 0⟩] scp pa) 0 (.ref ia) (.ref d) (compEnvC scp (cellsFrom (t3.heap.objs.size + 1) scp.names (cloFrom X.env.cells scp.names [])) t3.heap.objs.size X.env)) _ _
  have none3 : ∀ a ∈ fp, (upd H2 d (.dT [])) a = none := fun a ma => (fp3 a ma).1.1
  generalize eEnv : compEnvC scp (cellsFrom (t3.heap.objs.size + 1) scp.names (cloFrom X.env.cells scp.names [])) t3.heap.objs.size X.env = env4 at *
  have locs : env4.locals = t3.heap.objs.size := by rw [← eEnv]; rfl
  generalize upd H2 d (.dT []) = H3 at *
  generalize et4 : ({ t3 with heap := pushCells (t3.heap.push { cls := .type "dict", data := .dict #[] }) scp.names } : Shared) = t4 at *
  have at4 : tn 0 t4.heap := turns.keep _ _ _ at3 fun a _ o eo => by
    rw [← et4]
    exact pushCells_keeps _ _ _ _ (Heap.get?_push_of_some _ eo)
  have held : ∀ {τ : L2.St} {G : Hp} {t' : Shared}, Inv (X.blk t3 H3 scp env4 fp) [] τ G t' → (∀ a ∈ fp, G a = none) → ∀ a ∈ fp, FpOk (X.blk t3 H3 scp env4 fp) [] G a := by
    intro τ G t' inv' no a ma
    have x1 := inv'.ok.exf a ma
    refine ⟨no a ma, x1.1, inv'.ok.exfs a ma, .inl ma, fun y c ec => x1.2 y c ec, fun p mp => ?_⟩
    have : p ∈ ([] : List (Addr × Obj)) ++ [] := mp
    simp at this
  have whole : codeAny (model X.prog X.w) X.A (.compLoop (.DictComp kx vx [⟨tg, it, ifs, 0⟩] scp pa) 0 (.ref ia) (.ref d) env4) (compPost (model X.prog X.w) X.A X.xe use Fin (.ref d) t3.heap.objs.size) t4 := by
    refine compLoop_anyD (fun n t' => ∃ i G, Inv (X.blk t3 H3 scp env4 fp) [] (wipe σ (own.map (·.2))) G t' ∧ tn i t'.heap ∧ (∀ a ∈ fp, G a = none) ∧ W i n G) ?_ m0 ⟨0, H3, inv4, at4, none3, w0⟩
    rintro n t5 ⟨i, H5, inv5, at5, none5, w5⟩
    rcases turn i n H5 w5 with ⟨stops, qd⟩ | ⟨goes, Nx, less, step⟩
    · refine thnF (turns.done (X.blk t3 H3 scp env4 fp) rfl rfl rfl calm i [] t5 _ H5 (fun _ _ => False) inv5 (held inv5 none5) at5 stops) fun r t6 ⟨er, inv6⟩ => ?_
      subst er
      have back : Inv X ps σ H5 t6 := inv3.call' (ch := fp) inv6.os inv6.base inv6.hok inv6.bare fun a ma => by
        obtain ⟨_, y1, _, y3, y4, y5⟩ := (fp3 a ma).1
        exact ⟨y3, y1, y4, y5⟩
      obtain ⟨m, ns, _⟩ := inv6.loc
      have ns' : t6.heap.Ns env4.locals m := ns
      have none6 : H5 env4.locals = none := inv6.free
      rw [locs] at ns' none6
      exact last d t3.heap.objs.size t6 m H5 back qd ns' (inv3.fpOk (Nat.le_refl _) none6)
    · refine thnF (turns.item (X.blk t3 H3 scp env4 fp) rfl rfl rfl calm i [] t5 _ H5 (fun _ _ => False) inv5 (held inv5 none5) at5 goes) fun r t6 ⟨u, er, h6⟩ => ?_
      subst er
      refine thnF h6 fun _ t7 ⟨x, H7, inv7, rx, yx, at7, none7⟩ => ?_
      have pinned := inv7.pinned (held inv7 none7) (turns.obj _ _ at7)
      refine thnF (pg4.run _ t7 _ H7 x u _ pinned rx (step x H7 yx)) fun _ t8 ⟨σ8, H8, inv8, w8, q8⟩ => ?_
      refine thnF (pt4.run _ t8 σ8 H8 _ inv8 q8) fun b t9 ⟨H9, inv9, q9⟩ => ?_
      have next : ∀ {t' : Shared} {G : Hp}, Inv (X.blk t3 H3 scp env4 fp) ([] ++ pinsAt fp t7.heap) σ8 G t' → Nx G → ∃ m, m < n ∧ ∃ i G, Inv (X.blk t3 H3 scp env4 fp) [] (wipe σ (own.map (·.2))) G t' ∧ tn i t'.heap ∧ (∀ a ∈ fp, G a = none) ∧ W i m G := by
        intro t' G inv' nx
        obtain ⟨m', lt, w'⟩ := less G nx
        have still : ∀ a ∈ fp, ∀ o, t7.heap.get? a = some o → t'.heap.get? a = some o ∧ G a = none := by
          intro a ma o eo
          have z := inv'.pin (a, o) (List.mem_append_right _ (List.mem_append_right _ (mem_pinsAt ma eo)))
          exact ⟨z.1, z.2.1⟩
        have ln : (wipe σ (own.map (·.2))).length = σ8.length := (congrArg List.length w8.symm).trans (wipe_length _ _)
        refine ⟨m', lt, i + 1, G, (inv'.unpinned (pins := [])).weak ln (fun j v ej => ?_), turns.keep _ _ _ at7 fun a ma o eo => (still a ma o eo).1, fun a ma => ?_, w'⟩
        · rw [← w8] at ej
          exact (wipe_some ej).1
        · obtain ⟨o, eo, _⟩ := turns.obj _ _ at7 a ma
          exact (still a ma o eo).2
      cases b with
      | false =>
        rw [if_neg Bool.false_ne_true] at q9 ⊢
        exact next inv9 q9
      | true =>
        rw [if_pos rfl] at q9 ⊢
        refine thnF (pk4.run _ t9 σ8 H9 _ inv9 q9) fun ku t10 ⟨yk, H10, inv10, rk, q10⟩ => ?_
        refine thnF (pv4.run _ t10 σ8 H10 _ inv10 q10) fun vu t11 ⟨yv, H11, inv11, rv, H12, put, nx⟩ => ?_
        exact run_put (X := X.blk t3 H3 scp env4 fp) rm inv11 put rk rv fun t12 inv12 => next inv12 nx
  exact codeAny_compStart_dict whole (turns.self X.A 0 _ _ _ at4 whole)
theorem pe_dcT {kx vx tg it : Expr} {ifs : List Expr} {scp : Scope} {own : List (Str × Nat)} {pos : Pos} {wi : TI} {g : TG} {tt : TT} {tk tv : TE} (rm : X.A.units < cLine) (calm : X.calm = true) (nd : X.N.Nodup) (pi : PI X tg it wi) (ok : BlkOk X.N X.env.scope scp own)
    (pg : ∀ (s : Shared) (G : Hp) (c : Addr) (cl : List (Str × Addr)) (fp : List Addr), PG (X.blk s G scp (compEnvC scp cl c X.env) fp) tg g)
    (pt : ∀ (s : Shared) (G : Hp) (c : Addr) (cl : List (Str × Addr)) (fp : List Addr), PTs (X.blk s G scp (compEnvC scp cl c X.env) fp) ifs tt)
    (pk : ∀ (s : Shared) (G : Hp) (c : Addr) (cl : List (Str × Addr)) (fp : List Addr), PE (X.blk s G scp (compEnvC scp cl c X.env) fp) kx tk)
    (pv : ∀ (s : Shared) (G : Hp) (c : Addr) (cl : List (Str × Addr)) (fp : List Addr), PE (X.blk s G scp (compEnvC scp cl c X.env) fp) vx tv) (fold : ∀ x, foldedSetIterable it X.env x = pure x := by intro _; rfl) :
    PE X (.DictComp kx vx [⟨tg, it, ifs, 0⟩] scp pos) (tDcT wi g tt tk tv (own.map (·.2))) :=
  ⟨fun ps t σ H Q inv told => by
    rw [arm_eval_DictComp]
    refine core_dcT calm rm nd inv pi ok pg pt pk pv fold told fun d c t' m G inv' qd ns fpo => ⟨m, ns, fun g2 same => ?_⟩
    obtain ⟨a0, a1, _, a3, a4, a5⟩ := fpo
    exact ⟨.ref d, G, inv'.turned (t' := t'.toks) (fun a o na eo => (same.2 a na).trans eo) a0 a1 a3 a4 a5, rfl, qd⟩⟩
end
end HH
set_option maxHeartbeats 4000000
namespace HH
open PySem PySem.Spec PyProof.Rows L2 Evl RZ
def doR (rs : HH.Row) (d : Deed) : HH.Row := if d.1 then passR rs d.2 else fallR rs d.2
def okD (rs : HH.Row) (d : Deed) : Prop := if d.1 then d.2 < rs.length ∧ letsN rs d.2 = true else d.2 + 1 < rs.length ∧ fallsN rs d.2 = true
theorem MRun.rows {L0 L : List Cow} {ds : List Deed} (r : MRun L0 L ds) : rowsOf L = ds.foldl doR (rowsOf L0) ∧ ∀ k d, ds[k]? = some d → okD ((ds.take k).foldl doR (rowsOf L0)) d := by
  induction r with
  | nil => exact ⟨rfl, fun k d h => by cases h⟩
  | pass r hp ih =>
    rename_i pre post a b ds
    obtain ⟨i1, i2⟩ := ih
    have el : pre.length = (rowsOf pre).length := (cow_len pre).symm
    refine ⟨?_, fun k d hk => ?_⟩
    · rw [List.foldl_append, ← i1]
      show _ = passR (rowsOf (pre ++ a :: b :: post)) (pre.length + 1)
      rw [rows_mid, rows_mid, el, pass_split]
    · by_cases hlt : k < ds.length
      · rw [List.getElem?_append_left hlt] at hk
        rw [List.take_append_of_le_length (by omega)]
        exact i2 k d hk
      · rw [List.getElem?_append_right (by omega)] at hk
        have e0 : k = ds.length := by
          have := (List.getElem?_eq_some_iff.mp hk).1
          simp at this
          omega
        subst e0
        rw [Nat.sub_self] at hk
        cases hk
        rw [List.take_left, ← i1]
        refine ⟨by rw [cow_len, List.length_append, List.length_cons, List.length_cons]; omega, ?_⟩
        show letsN (rowsOf (pre ++ a :: b :: post)) (pre.length + 1) = true
        rw [rows_mid, el, lets_split]
        exact decide_eq_true hp
  | fall r hp ih =>
    rename_i pre post a b ds
    obtain ⟨i1, i2⟩ := ih
    have el : pre.length = (rowsOf pre).length := (cow_len pre).symm
    refine ⟨?_, fun k d hk => ?_⟩
    · rw [List.foldl_append, ← i1]
      show _ = fallR (rowsOf (pre ++ a :: b :: post)) pre.length
      rw [rows_mid, rows_mid, el, fall_split]
    · by_cases hlt : k < ds.length
      · rw [List.getElem?_append_left hlt] at hk
        rw [List.take_append_of_le_length (by omega)]
        exact i2 k d hk
      · rw [List.getElem?_append_right (by omega)] at hk
        have e0 : k = ds.length := by
          have := (List.getElem?_eq_some_iff.mp hk).1
          simp at this
          omega
        subst e0
        rw [Nat.sub_self] at hk
        cases hk
        rw [List.take_left, ← i1]
        refine ⟨by rw [cow_len, List.length_append, List.length_cons, List.length_cons]; omega, ?_⟩
        show fallsN (rowsOf (pre ++ a :: b :: post)) pre.length = true
        rw [rows_mid, el, falls_split]
        exact decide_eq_true hp
end HH
set_option maxHeartbeats 4000000
namespace HH
open PySem PySem.Spec PyProof.Rows L2 Evl RZ
section
variable {K : PySem.W.Frag} {σ : L2.St} {H H' : Hp} {ta tb tc te tl : TE} {x y v : V} {Q : VK} {D : Ends} {tz tu : TS} {g : TG}
end
theorem DeedAt.ex' {K : PySem.W.Frag} {H H' : Hp} {v : V} {d : Deed} (h : DeedAt K H v d) (e : Ex H H') : DeedAt K H' v d := by
  obtain ⟨p, h1, h2⟩ := h
  exact ⟨p, h1, ex_t e h2⟩
section
variable {K : PySem.W.Frag} {σ : L2.St} {H H' : Hp} {ta tb tc te tl : TE} {v : V} {D : Ends}
end
section
variable {K : PySem.W.Frag} {σ : L2.St} {H H' : Hp} {ta tb tc te tl : TE} {v : V} {D : Ends}
end
end HH
set_option maxHeartbeats 4000000
namespace HH
open PySem PySem.Spec PyProof.Rows L2 Evl RZ
end HH
set_option maxHeartbeats 4000000
namespace HH
open PySem PySem.Spec PyProof.Rows L2 Evl RZ
def PairT (H : Hp) (v : V) (b : Int × Int) : Prop := ∃ p, v = .ref p ∧ H p = some (.tup [.int b.1, .int b.2])
abbrev BeastsT (H : Hp) : List V → HH.Row → Prop := All2 (PairT H)
theorem PairT.ex {H H' : Hp} {v : V} {b : Int × Int} (h : PairT H v b) (e : Ex H H') : PairT H' v b := by
  obtain ⟨p, rfl, hp⟩ := h
  exact ⟨p, rfl, e _ _ hp⟩
theorem PairT.exB {H H' : Hp} {v : V} {b : Int × Int} {q : Addr} {ys : List V} (h : PairT H v b) (e : ExB q H H') (hq : H q = some (.lst ys)) : PairT H' v b := by
  obtain ⟨p, rfl, hp⟩ := h
  exact ⟨p, rfl, e _ _ (ne_of hp hq fun z => nomatch z) hp⟩
theorem BeastsT.ex' {H H' : Hp} {us : List V} {ps : HH.Row} (h : BeastsT H us ps) (e : Ex H H') : BeastsT H' us ps := All2.mono (fun _ _ r => r.ex e) h
theorem BeastsT.exB' {H H' : Hp} {us : List V} {ps : HH.Row} {q : Addr} {ys : List V} (h : BeastsT H us ps) (e : ExB q H H') (hq : H q = some (.lst ys)) : BeastsT H' us ps := All2.mono (fun _ _ r => r.exB e hq) h
theorem BeastsT.be {K : PySem.W.Frag} {H : Hp} : ∀ {us : List V} {ps : HH.Row}, BeastsT H us ps → Beasts K H us ps
  | _, _, .nil => Beasts.nil
  | _, _, .cons a b => by
    obtain ⟨p, rfl, hp⟩ := a
    exact Beasts.app (vs := [_]) (rs := [_]) (Beasts.one ⟨p, rfl, st_of hp⟩) (BeastsT.be b)
theorem BeastsT.at' {H : Hp} {us : List V} {ps : HH.Row} (h : BeastsT H us ps) {k : Nat} {x : V} (hx : us[k]? = some x) : ∃ b, ps[k]? = some b ∧ PairT H x b := h.get hx
def keyP (b : Int × Int) : List Key := [.inl b.1, .inl b.2]
theorem keyP_inj {a b : Int × Int} : keyP a = keyP b ↔ a = b := by
  unfold keyP
  constructor
  · intro h
    simp only [List.cons.injEq, Sum.inl.injEq, and_true] at h
    exact Prod.ext h.1 h.2
  · rintro rfl
    rfl
theorem keyP_V (b : Int × Int) : (keyP b).map kV = [V.int b.1, .int b.2] := rfl
structure PairsD (kvs : List (List Key × V)) (ps : HH.Row) : Prop where
  has : ∀ b : Int × Int, (valV kvs (keyP b)).isSome = decide (b ∈ ps)
  few : kvs.length ≤ ps.length
theorem PairsD.nil : PairsD [] [] := ⟨fun b => by rw [valV_nil]; simp, Nat.le_refl _⟩
theorem PairsD.put {kvs : List (List Key × V)} {ps : HH.Row} (h : PairsD kvs ps) (b : Int × Int) (v : V) : PairsD (putK kvs (keyP b) v) (ps ++ [b]) := by
  refine ⟨fun c => ?_, ?_⟩
  · rw [valV_put]
    by_cases e : keyP c = keyP b
    · rw [if_pos e]
      have := keyP_inj.mp e
      subst this
      simp
    · rw [if_neg e, h.has c]
      have ne : c ≠ b := fun z => e (by rw [z])
      rw [decide_eq_decide, List.mem_append, List.mem_singleton]
      exact ⟨.inl, fun z => z.elim id fun z => absurd z ne⟩
  · have := length_putK kvs (keyP b) v
    rw [List.length_append]
    show _ ≤ ps.length + 1
    have := h.few
    omega
section
variable {K : PySem.W.Frag} {σ : L2.St} {H : Hp} {ta tb te : TE} {Q : VK}
def EvPT (te : TE) (σ : L2.St) (H : Hp) (ps : HH.Row) : Prop := ∀ H1, Ex H H1 → ∀ Q : VK, (∀ (q : Addr) (us : List V) (H2 : Hp), H1 q = none → Ex H1 H2 → H2 q = some (.lst us) → BeastsT H2 us ps → Q (.ref q) H2) → te σ H1 Q
theorem EvPT.ep {ps : HH.Row} (h : EvPT te σ H ps) : EvP K te σ H ps := fun H1 e1 Q q => h H1 e1 Q fun a us H2 ha e2 g2 bs => q a us H2 ha e2 g2 bs.be
theorem ed_pairs {j : Nat} {vs : List Nat} {ps : HH.Row} (h : ∀ R : V → Hp → Prop, (∀ (a : Addr) (us : List V) (H1 : Hp), Ex H H1 → SqL K H1 a us → (∀ H2, Ex H1 H2 → SqL K H2 a us) → BeastsT H1 us ps → R (.ref a) H1) → te σ H R) (hl : ps.length ≤ 2000)
    (hw : ∀ x, wipe ((wipe σ vs).set j (some x)) vs = wipe σ vs) (hj : ∀ x : V, ((wipe σ vs).set j (some x))[j]? = some (some x))
    (k : ∀ (d : Addr) (kvs : List (List Key × V)) (H' : Hp), H d = none → Ex H H' → H' d = some (.dT kvs) → PairsD kvs ps → Q (.ref d) H') :
    tDcT (iList K te) (gName j) tYes (tVar j) (tC (.bl true)) vs σ H Q := by
  refine h _ fun a us H1 e1 sa sx bs => ⟨a, rfl, ⟨us, sa⟩, fun d hd => ?_⟩
  have ul : us.length = ps.length := bs.len
  refine in_it (walk_list (xs := us)) (fun i H2 => Ex H1 H2 ∧ ∃ kvs, H2 d = some (.dT kvs) ∧ PairsD kvs (ps.take i)) ⟨Ex.new hd, [], upd_same, PairsD.nil⟩ (fun i H2 _ p => sx H2 p.1) (fun i x H2 H3 hi p y => ?_) (fun H2 p => ?_)
  · obtain ⟨rfl, hx⟩ := y
    obtain ⟨p1, kvs, p2, p3⟩ := p
    obtain ⟨b, hb, q, rfl, hq⟩ := bs.at' hx
    refine ⟨hw _, t_yes ⟨_, hj _, ?_⟩⟩
    have hq2 := p1 _ _ hq
    refine ⟨_, DPut.t (k := keyP b) p2 (by rw [keyP_V]; exact hq2) (sz_lt (by have := p3.few; rw [List.length_take] at this; omega)), Ex.mut p1 hd, _, upd_same, ?_⟩
    rw [List.take_add_one, hb]
    exact p3.put b (.bl true)
  · obtain ⟨p1, kvs, p2, p3⟩ := p
    rw [ul, List.take_length] at p3
    exact k d kvs H2 (fresh_back e1 hd) (e1.trans p1) p2 p3
theorem et_dnotin {d : Addr} {kvs : List (List Key × V)} {ps : HH.Row} {b : Int × Int} (h1 : ∀ H1, Ex H H1 → ∀ Q : VK, (∀ p H2, Ex H1 H2 → H2 p = some (.tup [.int b.1, .int b.2]) → Q (.ref p) H2) → ta σ H1 Q) (h2 : Ev tb σ H (.ref d)) (hd : H d = some (.dT kvs)) (pd : PairsD kvs ps) : EvT (tB (tDNotIn ta tb)) σ H (!decide (b ∈ ps)) := fun H1 e1 Q q => by
  refine h1 H1 e1 _ fun p H2 e2 hp => h2 H2 (e1.trans e2) _ fun H3 e3 => ⟨d, valV kvs (keyP b), rfl, DGet.t ((e1.trans (e2.trans e3)) _ _ hd) (by rw [keyP_V]; exact e3 _ _ hp), _, rfl, ?_⟩
  rw [pd.has]
  exact q H3 (e2.trans e3)
theorem key_new {a b : Int} (h1 : Ev ta σ H (.int a)) (h2 : Ev tb σ H (.int b)) : ∀ H1, Ex H H1 → ∀ Q : VK, (∀ p H2, Ex H1 H2 → H2 p = some (.tup [.int a, .int b]) → Q (.ref p) H2) → tTup (tCons ta (tCons tb tNil)) σ H1 Q := fun H1 e1 Q q =>
  h1 H1 e1 _ fun H2 e2 => h2 H2 (e1.trans e2) _ fun H3 e3 => ⟨by show 2 ≤ sizeLine; decide, fun T hT => q T _ ((e2.trans e3).trans (Ex.new hT)) upd_same⟩
end
def spTurnedT (K : PySem.W.Frag) : Sp := fun vs H Q _ => ∃ (o : Addr) (l : List Nat), vs = [.ref o] ∧ SqT K H o (natsV l) ∧ l.Nodup ∧ (∀ x, x < l.length → x ∈ l) ∧ l.length ≤ 30 ∧
  ∀ (q : Addr) (us : List V) (H' : Hp), H q = none → Ex H H' → H' q = some (.lst us) → BeastsT H' us (tab l l.length l.length) → Q (.ref q) H'
def spPairsT (K : PySem.W.Frag) (M : List Cow → List Cow → Prop) : Sp := fun vs H Q _ => ∃ (v : V) (rs : HH.Row), vs = [v] ∧ RowAt K H v rs ∧ rs.length ≤ 30 ∧ (∀ b ∈ rs, 0 ≤ b.2) ∧
  ∀ (q : Addr) (us : List V) (L : List Cow) (H' : Hp), M (tag 0 rs) L → H q = none → Ex H H' → H' q = some (.lst us) → BeastsT H' us (tab (L.map (·.1)) rs.length rs.length) → Q (.ref q) H'
theorem Has.weak {P : Program} {w : World} {K : PySem.W.Frag} {mg : Str → Option Value} {base : Heap} {k : Nat} {x : Str} {ps : List Str} {sp sp' : Sp} {f : Addr} {fd : FuncData} (h : Has P w K mg base k x ps sp f fd) (i : ∀ vs H Q E, sp' vs H Q E → sp vs H Q E) : Has P w K mg base k x ps sp' f fd := ⟨h.G.imp i, h.g, h.kp, h.b⟩
section
variable {K : PySem.W.Frag} {σ : L2.St} {H : Hp} {ta : TE} {v : V} {E : XK}
theorem ept_pass {rs : HH.Row} {L : List Cow} (h : Ev ta σ H v) (hv : RowAt K H v rs) (hl : rs.length ≤ 30) (ht : ∀ b ∈ rs, 0 ≤ b.2) (st : Steps (tag 0 rs) L) (nf : Nf L) : EvPT (tCall (spPairsT K toLast) [] E (tCons ta tNil)) σ H (tab (L.map (·.1)) rs.length rs.length) := fun H1 e1 Q q =>
  h H1 e1 _ fun H2 e2 => ⟨v, rs, rfl, hv.ex (e1.trans e2), hl, ht, fun a us L2 H3 m ha e3 g bs => by
    have := nf_any (good_tag ht).tl m.1 (nfr_nf m.2) st nf
    subst this
    exact q a us H3 (fresh_back e2 ha) (e2.trans e3) g bs⟩
theorem ept_fall {rs : HH.Row} {L : List Cow} (h : Ev ta σ H v) (hv : RowAt K H v rs) (hl : rs.length ≤ 30) (ht : ∀ b ∈ rs, 0 ≤ b.2) (st : FSteps (tag 0 rs) L) (nf : Ff L) : EvPT (tCall (spPairsT K toFirst) [] E (tCons ta tNil)) σ H (tab (L.map (·.1)) rs.length rs.length) := fun H1 e1 Q q =>
  h H1 e1 _ fun H2 e2 => ⟨v, rs, rfl, hv.ex (e1.trans e2), hl, ht, fun a us L2 H3 m ha e3 g bs => by
    have := ff_any (good_tag ht).tl m.1 (ffr_ff m.2) st nf
    subst this
    exact q a us H3 (fresh_back e2 ha) (e2.trans e3) g bs⟩
end
theorem q_run {te : TE} {i : Nat} {tz : TS} {D : Ends} {σ : L2.St} {H : Hp} (h : te σ H fun x H1 => tz D (σ.set i (some x)) H1) : tSeq (tAsg te (gName i)) tz D σ H := h
theorem tab_small (l : List Nat) {n : Nat} (h : n ≤ 30) : (tab l n n).length ≤ 900 := by
  have h1 := tab_len l n n
  have h3 := Nat.mul_le_mul h h
  omega
end HH
set_option maxHeartbeats 4000000
namespace HH
open PySem PySem.Spec PyProof.Rows L2 Evl RZ
def tabPR (p : Nat → Nat → Bool) (i m : Nat) : HH.Row := ((List.range m).filter (p i)).map fun k => ((i : Int), ((i + 1 + k : Nat) : Int))
def tabP (p : Nat → Nat → Bool) (n m : Nat) : HH.Row := (List.range m).flatMap fun i => tabPR p i (n - (i + 1))
theorem tabPR_succ (p : Nat → Nat → Bool) (i m : Nat) : tabPR p i (m + 1) = tabPR p i m ++ (if p i m = true then [((i : Int), ((i + 1 + m : Nat) : Int))] else []) := by
  unfold tabPR
  rw [List.range_succ, List.filter_append, List.map_append]
  by_cases h : p i m = true
  · rw [if_pos h, List.filter_cons_of_pos h]
    rfl
  · rw [if_neg h, List.filter_cons_of_neg h]
    rfl
theorem tabP_succ (p : Nat → Nat → Bool) (n m : Nat) : tabP p n (m + 1) = tabP p n m ++ tabPR p m (n - (m + 1)) := by
  unfold tabP
  rw [List.range_succ, List.flatMap_append]
  simp
theorem tabPR_len (p : Nat → Nat → Bool) (i m : Nat) : (tabPR p i m).length ≤ m := by
  unfold tabPR
  rw [List.length_map]
  have := List.length_filter_le (p i) (List.range m)
  rw [List.length_range] at this
  exact this
theorem tabP_len (p : Nat → Nat → Bool) (n : Nat) : ∀ m, (tabP p n m).length ≤ m * n
  | 0 => by simp [tabP]
  | m + 1 => by
    rw [tabP_succ, List.length_append, Nat.succ_mul]
    have h1 := tabP_len p n m
    have h2 := tabPR_len p m (n - (m + 1))
    omega
theorem mem_tabP {p : Nat → Nat → Bool} {n : Nat} {x : Int × Int} : x ∈ tabP p n n ↔ ∃ i j : Nat, i < j ∧ j < n ∧ x = ((i : Int), (j : Int)) ∧ p i (j - i - 1) = true := by
  unfold tabP
  rw [List.mem_flatMap]
  constructor
  · rintro ⟨i, hi, h⟩
    obtain ⟨k, hk, rfl⟩ := List.mem_map.mp h
    obtain ⟨h1, h2⟩ := List.mem_filter.mp hk
    have h1 := List.mem_range.mp h1
    refine ⟨i, i + 1 + k, by omega, by omega, rfl, ?_⟩
    rw [show i + 1 + k - i - 1 = k by omega]
    exact h2
  · rintro ⟨i, j, h1, h2, rfl, h3⟩
    refine ⟨i, List.mem_range.mpr (by omega), List.mem_map.mpr ⟨j - i - 1, List.mem_filter.mpr ⟨List.mem_range.mpr (by omega), h3⟩, ?_⟩⟩
    rw [show i + 1 + (j - i - 1) = j by omega]
theorem pw_tabPR (p : Nat → Nat → Bool) (i m : Nat) : (tabPR p i m).Pairwise lexL := by
  unfold tabPR
  refine List.pairwise_map.mpr (List.Pairwise.imp ?_ (List.Pairwise.filter (p i) List.pairwise_lt_range))
  intro a b hab
  exact .inr ⟨rfl, by show ((i + 1 + a : Nat) : Int) < ((i + 1 + b : Nat) : Int); omega⟩
theorem pw_tabP (p : Nat → Nat → Bool) (n : Nat) : ∀ m, (tabP p n m).Pairwise lexL
  | 0 => .nil
  | m + 1 => by
    rw [tabP_succ]
    refine List.pairwise_append.mpr ⟨pw_tabP p n m, pw_tabPR p m _, fun x hx y hy => ?_⟩
    unfold tabP at hx
    obtain ⟨i, hi, h⟩ := List.mem_flatMap.mp hx
    have hi := List.mem_range.mp hi
    obtain ⟨k, _, rfl⟩ := List.mem_map.mp h
    obtain ⟨k2, _, rfl⟩ := List.mem_map.mp hy
    exact .inl (by show (i : Int) < (m : Int); omega)
def keepP (e b : List Nat) (i k : Nat) : Bool := !inP e i k && !inP b i k
theorem keep_iff {e b : List Nat} {i j : Nat} (h : i < j) : keepP e b i (j - i - 1) = true ↔ bef e j i = false ∧ bef b j i = false := by
  unfold keepP inP
  rw [show i + 1 + (j - i - 1) = j by omega]
  simp
theorem mid_keeps {B L E : List Cow} (t : ∀ x ∈ B, 0 ≤ x.2.2) (nd : (B.map (·.1)).Nodup) (s1 : Steps B L) (s2 : Steps L E) {a b : Nat} (hB : bef (B.map (·.1)) a b = true) (hE : bef (E.map (·.1)) a b = true) : bef (L.map (·.1)) a b = true := by
  obtain ⟨L0, t1, e1⟩ := s1.unmap (rl_tag B).symm
  obtain ⟨E0, t2, e2⟩ := s2.unmap e1
  have g0 : Good (tag 0 (rowsOf B)) := good_tag (tolls_rows t)
  have g1 := g0.steps t1
  obtain ⟨p, q, hpq, hp, hq⟩ := bef_get hB
  have ep : ixN (B.map (·.1)) p = a := by
    unfold ixN
    rw [hp]
    rfl
  have eq : ixN (B.map (·.1)) q = b := by
    unfold ixN
    rw [hq]
    rfl
  have hp' := (List.getElem?_eq_some_iff.mp hp).1
  have hq' := (List.getElem?_eq_some_iff.mp hq).1
  have len : (rowsOf B).length = (B.map (·.1)).length := by rw [cow_len, List.length_map]
  have iL := t1.idsT
  have iE := (t1.trans t2).idsT
  have inj : ∀ (l : List Nat), l.Perm (List.range (rowsOf B).length) → ∀ r, r < (B.map (·.1)).length → ∀ x ∈ l, ixN (B.map (·.1)) x = ixN (B.map (·.1)) r → x = r := fun l pm r hr x hx h => by
    have := List.mem_range.mp (pm.mem_iff.mp hx)
    exact ixN_inj nd (by rw [← len]; exact this) hr h
  have nE : (E.map (·.1)).Nodup := (s1.trans s2).ids.nodup_iff.mpr nd
  cases hc : bef (L.map (·.1)) a b with
  | true => rfl
  | false =>
    have ne : a ≠ b := fun z => by
      rw [z] at hp
      have := nd_at nd hp hq
      omega
    have ma := s1.ids.mem_iff.mpr (bef_mem hB).1
    have mb := s1.ids.mem_iff.mpr (bef_mem hB).2
    have h1 := bef_tot ma mb ne hc
    rw [e1, rl_ids, ← ep, ← eq] at h1
    have h2 := (bef_map (inj _ iL q hq') (inj _ iL p hp')).mp h1
    have h3 := bef_stays g1 t2 hpq h2
    have h4 := (bef_map (f := ixN (B.map (·.1))) (inj _ iE q hq') (inj _ iE p hp')).mpr h3
    rw [ep, eq, ← rl_ids, ← e2] at h4
    rw [bef_asym nE hE] at h4
    cases h4
def spKept (K : PySem.W.Frag) : Sp := fun vs H Q _ => ∃ (v : V) (rs : HH.Row), vs = [v] ∧ RowAt K H v rs ∧ rs.length ≤ 30 ∧ (∀ b ∈ rs, 0 ≤ b.2) ∧
  ∀ (q : Addr) (us : List V) (E B : List Cow) (H' : Hp), Steps (tag 0 rs) E → Nf E → FSteps (tag 0 rs) B → Ff B → H q = none → Ex H H' → H' q = some (.lst us) → BeastsT H' us (tabP (keepP (E.map (·.1)) (B.map (·.1))) rs.length rs.length) → Q (.ref q) H'
def spAllPairs (K : PySem.W.Frag) : Sp := fun vs H Q _ => ∃ n : Nat, vs = [.int (n : Int)] ∧ n ≤ 30 ∧ ∀ (q : Addr) (us : List V) (H' : Hp), H q = none → Ex H H' → H' q = some (.lst us) → BeastsT H' us (tabP (fun _ _ => true) n n) → Q (.ref q) H'
end HH
set_option maxHeartbeats 4000000
namespace HH
open PySem PySem.Spec PyProof.Rows L2 Evl RZ
abbrev PrT := Hp → V → Int × Int → Prop
structure Stb (R : PrT) : Prop where
  ex : ∀ {H H' : Hp} {x : V} {b : Int × Int}, Ex H H' → R H x b → R H' x b
  ls : ∀ {H : Hp} {D : Addr} {xs ys : List V} {x : V} {b : Int × Int}, H D = some (.lst xs) → R H x b → R (upd H D (.lst ys)) x b
theorem stb_T : Stb PairT := ⟨fun e h => h.ex e, fun hD h => h.exB (ExB.refl _ _).upd hD⟩
theorem stb_B (K : PySem.W.Frag) : Stb (BeastAt K) := ⟨fun e h => h.ex e, fun hD h => h.exB (ExB.refl _ _).upd hD⟩
theorem Stb.all {R : PrT} (s : Stb R) {H H' : Hp} (e : Ex H H') {us : List V} {ps : HH.Row} (h : All2 (R H) us ps) : All2 (R H') us ps := All2.mono (fun _ _ r => s.ex e r) h
theorem Stb.allL {R : PrT} (s : Stb R) {H : Hp} {D : Addr} {xs ys : List V} (hD : H D = some (.lst xs)) {us : List V} {ps : HH.Row} (h : All2 (R H) us ps) : All2 (R (upd H D (.lst ys))) us ps := All2.mono (fun _ _ r => s.ls hD r) h
theorem beasts_2 {K : PySem.W.Frag} {H : Hp} : ∀ {us : List V} {ps : HH.Row}, Beasts K H us ps → All2 (BeastAt K H) us ps
  | [], [], _ => .nil
  | [], _ :: _, h => by cases h.1
  | _ :: _, [], h => by cases h.1
  | v :: vs, b :: rs, h => .cons h.uncons.1 (beasts_2 h.uncons.2)
theorem all2_b {K : PySem.W.Frag} {H : Hp} : ∀ {us : List V} {ps : HH.Row}, All2 (BeastAt K H) us ps → Beasts K H us ps
  | _, _, .nil => Beasts.nil
  | _, _, .cons a b => Beasts.app (vs := [_]) (rs := [_]) (Beasts.one a) (all2_b b)
section
variable {K : PySem.W.Frag} {σ : L2.St} {H : Hp} {ta tb te : TE} {t : TT} {R : PrT}
def EvPr (R : PrT) (te : TE) (σ : L2.St) (H : Hp) (ps : HH.Row) : Prop := ∀ H1, Ex H H1 → ∀ Q : VK, (∀ (q : Addr) (us : List V) (H2 : Hp), H1 q = none → Ex H1 H2 → H2 q = some (.lst us) → All2 (R H2) us ps → Q (.ref q) H2) → te σ H1 Q
def Src (K : PySem.W.Frag) (R : PrT) (te : TE) (σ : L2.St) (H : Hp) (ps : HH.Row) : Prop := ∀ H1, Ex H H1 → ∀ Q : VK, (∀ (a : Addr) (us : List V) (H2 : Hp), Ex H1 H2 → (∀ H3, Ex H2 H3 → SqL K H3 a us) → All2 (R H2) us ps → Q (.ref a) H2) → te σ H1 Q
theorem src_new {ps : HH.Row} (h : EvPr R te σ H ps) : Src K R te σ H ps := fun H1 e1 Q q => h H1 e1 Q fun a us H2 _ e2 g2 bs => q a us H2 e2 (fun H3 e3 => sq_of (e3 _ _ g2)) bs
theorem src_val {ps : HH.Row} {a : Addr} {us : List V} (s : Stb R) (h : Ev te σ H (.ref a)) (ha : SqL K H a us) (bs : All2 (R H) us ps) : Src K R te σ H ps := fun H1 e1 Q q => h H1 e1 _ fun H2 e2 => q a us H2 e2 (fun H3 e3 => ex_l ((e1.trans e2).trans e3) ha) (s.all (e1.trans e2) bs)
theorem src_T {ps : HH.Row} (h : Src K PairT te σ H ps) : Src K (BeastAt K) te σ H ps := fun H1 e1 Q q => h H1 e1 Q fun a us H2 e2 sq bs => q a us H2 e2 sq (beasts_2 (BeastsT.be bs))
end
theorem ept_row {σ : L2.St} {H : Hp} {ta : TA} {j ko i n : Nat} {vs : List Nat} (h : EvA ta σ H [.int ((i : Int) + 1), .int (n : Int)]) (hn : i < n ∧ n ≤ 1000) (hw : ∀ x, wipe ((wipe σ vs).set j (some x)) vs = wipe σ vs) (hj : ∀ x : V, ((wipe σ vs).set j (some x))[j]? = some (some x)) (hk : ∀ x : V, ((wipe σ vs).set j (some x))[ko]? = some (some (.int (i : Int)))) :
    EvPr PairT (tLc (iRng2 ta) (gName j) tYes (tTup (tCons (tVar ko) (tCons (tVar j) tNil))) vs) σ H (tabPR (fun _ _ => true) i (n - (i + 1))) := fun H0 e0 Q q => by
  refine h H0 e0 _ fun H1 e1 => ⟨(i : Int) + 1, (n : Int), rfl, ⟨by omega, by omega, by omega, by omega⟩, fun D hD => ?_⟩
  rw [show ((n : Int) - ((i : Int) + 1)).toNat = n - (i + 1) by omega]
  refine in_it walk_range (fun m H2 => Ex H1 H2 ∧ ∃ us, H2 D = some (.lst us) ∧ All2 (PairT H2) us (tabPR (fun _ _ => true) i m)) ⟨Ex.new hD, [], upd_same, .nil⟩ (fun _ _ _ _ => True.intro) (fun m x H2 H3 hm p y => ?_) (fun H2 p => ?_)
  · obtain ⟨rfl, hx⟩ := y
    have ej : (i : Int) + 1 + (m : Int) = ((i + 1 + m : Nat) : Int) := by omega
    have hx : x = V.int ((i : Int) + 1 + (m : Int)) := hx
    rw [ej] at hx
    subst hx
    obtain ⟨p1, us, p2, p3⟩ := p
    refine ⟨hw _, t_yes ⟨_, hk _, _, hj _, by show 2 ≤ sizeLine; decide, fun T hT => ?_⟩⟩
    have nT := Ex.new (o := .tup [V.int (i : Int), .int ((i + 1 + m : Nat) : Int)]) hT
    have es := tabPR_succ (fun _ _ => true) i m
    rw [if_pos rfl] at es
    refine ⟨us, nT _ _ p2, sz_lt ?_, Ex.mut (p1.trans nT) hD, us ++ [.ref T], upd_same, ?_⟩
    · have := tabPR_len (fun _ _ => true) i m
      rw [All2.len p3]
      omega
    · rw [es]
      exact stb_T.allL (nT _ _ p2) (All2.app (stb_T.all nT p3) (.cons ⟨T, rfl, upd_same⟩ .nil))
  · obtain ⟨p1, us, p2, p3⟩ := p
    exact q D us H2 (fresh_back e1 hD) (e1.trans p1) p2 p3
theorem ep_sorted {K : PySem.W.Frag} {σ : L2.St} {H : Hp} {te : TE} {ps qs : HH.Row} (h : Src K (BeastAt K) te σ H ps) (pm : ps.Perm qs) (pw : qs.Pairwise lexL) : EvPr (BeastAt K) (tCB (rSortedPT K) (tCons te tNil)) σ H qs := fun H1 e1 Q q =>
  h H1 e1 _ fun a us H2 e2 sq bs => ⟨a, us, ps, rfl, sq H2 (Ex.refl H2), all2_b bs, fun ys rs p bys pm2 srt hp => by
    have := sort_one (pm2.trans pm) srt (pw_no pw)
    subst this
    have nT := Ex.new (o := .lst ys) hp
    exact q p ys _ (fresh_back e2 hp) (e2.trans nT) upd_same (beasts_2 (bys.ex nT))⟩
theorem law_all {K : PySem.W.Frag} {σ : L2.St} {H : Hp} {l : Addr} {ms : List Int} {j il c : Nat} {vs : List Nat} {E1 E2 : XK} {D : Ends} (h1 : H l = some (.lst (ms.map V.int))) (hm : ms.length ≤ 10) (hw : ∀ x, wipe ((wipe σ vs).set j (some x)) vs = wipe σ vs) (cl : ∀ x : V, ((wipe σ vs).set j (some x))[il]? = some (some (.ref l))) (cj : ∀ x : V, ((wipe σ vs).set j (some x))[j]? = some (some x)) (sl : σ[il]? = some (some (.ref l))) (q : ∀ H', D.rt (.bl true) H') :
    tRet (tCB (rAll K) (tCons (tLc (iRng1 (tCons (tOp (rI0 fun i j => .int (i + j)) (tC (.int 1)) (tCB (rLenS K) (tCons (tVar il) tNil))) tNil)) (gName j) tYes (tCall spRight [] E1 (tCons (tCall (spDip K) [] E2 (tCons (tVar il) (tCons (tVar j) tNil))) tNil)) vs) tNil)) D σ H := by
  refine s_ret (D := D) (ev_allT (n := (1 + ((ms.map V.int).length : Int)).toNat) ?_) fun H2 e2 => q H2
  have hn : 0 ≤ 1 + ((ms.map V.int).length : Int) ∧ 1 + ((ms.map V.int).length : Int) ≤ 20 := by
    rw [List.length_map]
    omega
  have key := el_lcR1 (σ := σ) (H := H) (ta := tCons (tOp (rI0 fun i j => .int (i + j)) (tC (.int 1)) (tCB (rLenS K) (tCons (tVar il) tNil))) tNil) (j := j) (vs := vs) (t := tYes) (te := tCall spRight [] E1 (tCons (tCall (spDip K) [] E2 (tCons (tVar il) (tCons (tVar j) tNil))) tNil)) (fun _ => true) (fun _ => .bl true) (ea_cons (ev_op ev_c (ev_len (ev_var sl) (sq_of h1)) rv_I0) ea_nil) ⟨hn.1, by omega⟩ hw (fun i H1 e1 hi => et_yes) (fun i H3 e3 hi _ => ?_)
  · have e0 : given (1 + ((ms.map V.int).length : Int)).toNat (fun _ => true) (fun _ => V.bl true) = (List.replicate (1 + ((ms.map V.int).length : Int)).toNat true).map V.bl := by
      rw [given_all _ (fun _ => true)]
      congr 1
      rw [List.eq_replicate_iff]
      refine ⟨by rw [List.length_map, List.length_range], fun b hb => ?_⟩
      obtain ⟨_, _, rfl⟩ := List.mem_map.mp hb
      rfl
    rw [e0] at key
    exact key
  · intro H4 e4 Q4 q4
    refine ⟨.ref l, cl _, .int (i : Int), cj _, l, i, ms, rfl, sq_of ((e3.trans e4) _ _ h1), by omega, fun b H5 hb e5 hx => ?_⟩
    refine ⟨b, rfl, hx, fun H6 x6 => q4 H6 fun c o hc => x6 c o (ne_of_none hc hb) (e5 c o hc)⟩
end HH
set_option maxHeartbeats 4000000
namespace HH
open PySem PySem.Spec PyProof.Rows L2 Evl
def ZipA (H : Hp) (us : List V) (ps : List (V × V)) : Prop := All2 (fun u p => ∃ T, u = .ref T ∧ H T = some (.tup [p.1, p.2])) us ps
theorem ZipA.ex {H H' : Hp} {us : List V} {ps : List (V × V)} (h : ZipA H us ps) (e : Ex H H') : ZipA H' us ps := All2.mono (fun _ _ ⟨T, a, b⟩ => ⟨T, a, e _ _ b⟩) h
theorem ZipA.put {H : Hp} {q : Addr} {xs ys : List V} {us : List V} {ps : List (V × V)} (h : ZipA H us ps) (hq : H q = some (.lst xs)) : ZipA (upd H q (.lst ys)) us ps := All2.mono (fun _ _ ⟨T, a, b⟩ => ⟨T, a, by
  rw [upd_ne (fun z => by rw [z, hq] at b; cases b)]
  exact b⟩) h
def ZS (h : Heap) (H : Hp) (z TI TO i1 i2 a b : Addr) (i : Nat) : Prop := IsPair h TI (.ref i1) (.ref i2) ∧ h.IsListIter i1 a i ∧ h.IsListIter i2 b i ∧
  ((IsZip h z TI TO .none ∧ ∃ x y, IsPair h TO x y) ∨ ∃ (T : Addr) (f : Bool) (p q : V), IsZipHeld h z TI TO T f ∧ H T = some (.tup [p, q]) ∧ ∃ o, h.get? TO = some o)
section
variable {X : Cx} {pins : List (Addr × Obj)} {σ : L2.St} {H H0 : Hp} {s : Shared} {z TI TO i1 i2 a b q : Addr} {xs ys : List V} {A A1 : Around} {E : Value → Shared → Prop}
abbrev FpL (X : Cx) (pins : List (Addr × Obj)) (H : Hp) (l : List Addr) : Prop := ∀ c ∈ l, FpOk X pins H c
theorem FpL.up {l : List Addr} {T : Addr} {o : HO} (h : FpL X pins H l) (ne : ∀ c ∈ l, c ≠ T) : FpL X pins (upd H T o) l := fun c hc => by
  obtain ⟨f0, f1⟩ := h c hc
  exact ⟨by rw [upd_ne (ne c hc)]; exact f0, f1⟩
theorem ZS.type {i : Nat} (h : ZS s.heap H z TI TO i1 i2 a b i) : s.TypeIs (.ref z) "zip" := by
  obtain ⟨_, _, _, h | h⟩ := h
  · exact ⟨_, h.1, rfl⟩
  · obtain ⟨_, _, _, _, h, _⟩ := h
    exact ⟨_, h, rfl⟩
theorem ZS.keep {h h' : Heap} {H' : Hp} {i : Nat} (st : ZS h H z TI TO i1 i2 a b i) (k : ∀ c ∈ [z, TI, TO, i1, i2], ∀ o, h.get? c = some o → h'.get? c = some o) (kH : ∀ T p q, H T = some (.tup [p, q]) → H' T = some (.tup [p, q])) : ZS h' H' z TI TO i1 i2 a b i := by
  obtain ⟨t, a1, a2, g⟩ := st
  refine ⟨k TI (by simp) _ t, a1.at fun o e => k i1 (by simp) o e, a2.at fun o e => k i2 (by simp) o e, ?_⟩
  rcases g with ⟨g1, x, y, g2⟩ | ⟨T, f, p, q, g1, g2, o, g3⟩
  · exact .inl ⟨k z (by simp) _ g1, x, y, k TO (by simp) _ g2⟩
  · exact .inr ⟨T, f, p, q, k z (by simp) _ g1, kH _ _ _ g2, o, k TO (by simp) _ g3⟩
theorem ZS.put {its its' : List Value} {n i : Nat} {us vs : List V} {f : Array Value → Array Value} (hf : FpL X pins H [z, TI, TO, i1, i2]) (hq : H q = some (.lst us)) (st : ZS s.heap H z TI TO i1 i2 a b i) :
    ZS (s.heap.update q (Obj.mapSeq f)) (upd H q (.lst vs)) z TI TO i1 i2 a b i :=
  st.keep (fun c hc o e => (Heap.get?_update_other s.heap (Obj.mapSeq f) (fun w => by
    have := (hf c hc).1
    rw [← w, hq] at this
    cases this)).trans e) (fun T p r hT => by
      rw [upd_ne (fun w => by rw [w, hq] at hT; cases hT)]
      exact hT)
theorem FpL.put {us vs : List V} (hf : FpL X pins H [z, TI, TO, i1, i2]) (hq : H q = some (.lst us)) : FpL X pins (upd H q (.lst vs)) [z, TI, TO, i1, i2] := hf.up fun c hc w => by
  have := (hf c hc).1
  rw [w, hq] at this
  cases this
end
end HH
set_option maxHeartbeats 4000000
namespace HH
open PySem PySem.Spec PyProof.Rows L2 Evl
structure Went (K : PySem.W.Frag) (H : Hp) (v : V) (o : Addr) (rs : HH.Row) (L : List Cow) : Prop where
  row : RowAt K H v rs
  len : rs.length ≤ 30
  tl : ∀ b ∈ rs, 0 ≤ b.2
  ord : SqT K H o (natsV (L.map (·.1)))
  run : ∃ ds, MRun (tag 0 rs) L ds
theorem Went.ex {K : PySem.W.Frag} {H H' : Hp} {v : V} {o : Addr} {rs : HH.Row} {L : List Cow} (h : Went K H v o rs L) (e : Ex H H') : Went K H' v o rs L := ⟨h.row.ex e, h.len, h.tl, ex_t e h.ord, h.run⟩
theorem run_ids {rs : HH.Row} {L : List Cow} {ds : List Deed} (tl : ∀ b ∈ rs, 0 ≤ b.2) (r : MRun (tag 0 rs) L ds) : (L.map (·.1)).Perm (List.range rs.length) := by
  obtain ⟨E, sE, nE⟩ := nf_is (good_tag tl).tl
  obtain ⟨B, sB, nB⟩ := ff_is (good_tag tl).tl
  exact ((r.both (good_tag tl).tl sE nE sB nB).2.1).ids.symm.trans sE.idsT
theorem Went.ids {K : PySem.W.Frag} {H : Hp} {v : V} {o : Addr} {rs : HH.Row} {L : List Cow} (h : Went K H v o rs L) : (L.map (·.1)).Perm (List.range rs.length) := by
  obtain ⟨ds, r⟩ := h.run
  exact run_ids h.tl r
theorem Went.nd {K : PySem.W.Frag} {H : Hp} {v : V} {o : Addr} {rs : HH.Row} {L : List Cow} (h : Went K H v o rs L) : (L.map (·.1)).Nodup := h.ids.nodup_iff.mpr List.nodup_range
theorem Went.lenL {K : PySem.W.Frag} {H : Hp} {v : V} {o : Addr} {rs : HH.Row} {L : List Cow} (h : Went K H v o rs L) : (L.map (·.1)).length = rs.length := by rw [h.ids.length_eq, List.length_range]
theorem Went.all {K : PySem.W.Frag} {H : Hp} {v : V} {o : Addr} {rs : HH.Row} {L : List Cow} (h : Went K H v o rs L) (x : Nat) (hx : x < (L.map (·.1)).length) : x ∈ L.map (·.1) := h.ids.mem_iff.mpr (List.mem_range.mpr (by rw [← h.lenL]; exact hx))
def spNone (K : PySem.W.Frag) : Sp := fun vs H Q _ => ∃ (v : V) (o : Addr) (rs : HH.Row) (L : List Cow), vs = [v, .ref o] ∧ Went K H v o rs L ∧ ∀ H', Ex H H' → Q .non H'
theorem kept_stays {rs : HH.Row} {L E B : List Cow} {ds : List Deed} (tl : ∀ b ∈ rs, 0 ≤ b.2) (r : MRun (tag 0 rs) L ds) (sE : Steps (tag 0 rs) E) (nE : Nf E) (sB : FSteps (tag 0 rs) B) (nB : Ff B) {i j : Nat} (h1 : i < j) (h2 : j < rs.length) (hE : bef (E.map (·.1)) j i = false) (hB : bef (B.map (·.1)) j i = false) : bef (L.map (·.1)) j i = false := by
  have t0 : ∀ x ∈ tag 0 rs, 0 ≤ x.2.2 := (good_tag tl).tl
  obtain ⟨tL, sLE, sLB⟩ := r.both t0 sE nE sB nB
  have tB := sB.tl t0
  have ndL : (L.map (·.1)).Nodup := (run_ids tl r).nodup_iff.mpr List.nodup_range
  have mem : ∀ {M : List Cow}, (M.map (·.1)).Perm (L.map (·.1)) → ∀ x, x < rs.length → x ∈ M.map (·.1) := fun p x hx => p.mem_iff.mpr ((run_ids tl r).mem_iff.mpr (List.mem_range.mpr hx))
  have pB := sLB.ids
  have pE := sLE.ids
  have b1 := bef_tot (mem pB j h2) (mem pB i (by omega)) (by omega) hB
  have e1 := bef_tot (mem pE j h2) (mem pE i (by omega)) (by omega) hE
  exact bef_asym ndL (mid_keeps tB (pB.nodup_iff.mpr ndL) sLB.back sLE b1 e1)
end HH
set_option maxHeartbeats 4000000
namespace HH
open PySem PySem.Spec PyProof.Rows Srt SrtO
def IsDeed (h : Heap) (v : Value) (b : Bool) (y : Int) : Prop := ∃ a o t u n, v = .ref a ∧ h.get? a = some o ∧ o.cls = .type "tuple" ∧ o.data = .seq #[.str (wordOf b) t, .int y u] n
theorem IsDeed.keeps {h h' : Heap} {v : Value} {b : Bool} {y : Int} (p : IsDeed h v b y) (k : ∀ b o, h.get? b = some o → o.cls = .type "tuple" → h'.get? b = some o) : IsDeed h' v b y := by
  obtain ⟨a, o, t, u, n, e, ho, hc, hd⟩ := p
  exact ⟨a, o, t, u, n, e, k _ _ ho hc, hc, hd⟩
section
variable {prog : Program} {w : World} {A : Around} {E : Value → Shared → Prop} {s : Shared}
end
open L2 Evl
open Classical in
section
variable {X : Cx}
end
end HH
set_option maxHeartbeats 4000000
namespace HH
open PySem PySem.Spec PyProof.Rows L2 Evl
end HH
set_option maxHeartbeats 4000000
namespace HH
open PySem PySem.Spec PyProof.Rows Srt SrtO
def IsInts (h : Heap) (v : Value) (ns : List Int) : Prop := ∃ a o its n, v = .ref a ∧ h.get? a = some o ∧ o.cls = .type "tuple" ∧ o.data = .seq its n ∧ IntsAre its.toList ns ∧ ns ≠ []
theorem IsInts.keeps {h h' : Heap} {v : Value} {ns : List Int} (p : IsInts h v ns) (k : ∀ b o, h.get? b = some o → o.cls = .type "tuple" → h'.get? b = some o) : IsInts h' v ns := by
  obtain ⟨a, o, t, n, e, ho, hc, hd, hi⟩ := p
  exact ⟨a, o, t, n, e, k _ _ ho hc, hc, hd, hi⟩
section
variable {prog : Program} {w : World} {A : Around} {E : Value → Shared → Prop} {s : Shared}
end
end HH
set_option maxHeartbeats 4000000
namespace HH
open PySem PySem.Spec PyProof.Rows Srt SrtO L2
open Classical in
def keyI (ns : List Int) : List Key := ns.map Sum.inl
theorem keyI_V (ns : List Int) : (keyI ns).map kV = ns.map V.int := by
  unfold keyI
  rw [List.map_map]
  rfl
end HH
set_option maxHeartbeats 4000000
namespace HH
open PySem PySem.Spec PyProof.Rows L2 Evl RZ
theorem bit_or (a b : Nat) : Builtin.bitOr (a : Int) (b : Int) = ((a ||| b : Nat) : Int) := by
  rw [bitOr_nn (Int.natCast_nonneg a) (Int.natCast_nonneg b), Int.toNat_natCast, Int.toNat_natCast]
theorem bit_and (a b : Nat) : Builtin.bitAnd (a : Int) (b : Int) = ((a &&& b : Nat) : Int) := by
  rw [bitAnd_pp (Int.natCast_nonneg a) (Int.natCast_nonneg b), Int.toNat_natCast, Int.toNat_natCast]
theorem bit_shl (w : Nat) : (1 : Int) * 2 ^ w = ((2 ^ w : Nat) : Int) := by
  rw [Int.one_mul]
  exact (Int.natCast_pow 2 w).symm
theorem bit_at (s w : Nat) : Builtin.bitAnd ((s : Int) / 2 ^ w) 1 = if s.testBit w then 1 else 0 := by
  have e : (s : Int) / 2 ^ w = ((s / 2 ^ w : Nat) : Int) := by
    rw [Int.natCast_ediv, Int.natCast_pow]
    rfl
  rw [e, show (1 : Int) = ((1 : Nat) : Int) from rfl, bit_and, Nat.and_one_is_mod]
  rw [Nat.testBit_eq_decide_div_mod_eq]
  by_cases h : s / 2 ^ w % 2 = 1
  · rw [h, decide_eq_true rfl]
    rfl
  · have : s / 2 ^ w % 2 = 0 := by omega
    rw [this]
    rfl
def nextB (ah : List Nat) (s : Nat) : List Nat := (List.range ah.length).filter fun w => !s.testBit w && decide (ah.getD w 0 &&& s = ah.getD w 0)
theorem mem_nextB {ah : List Nat} {s w : Nat} : w ∈ nextB ah s ↔ w < ah.length ∧ s.testBit w = false ∧ ah.getD w 0 &&& s = ah.getD w 0 := by
  unfold nextB
  rw [List.mem_filter, List.mem_range, Bool.and_eq_true, decide_eq_true_iff, Bool.not_eq_true']
def putB (s w : Nat) : Nat := s ||| 2 ^ w
theorem put_bit (s w j : Nat) : (putB s w).testBit j = (s.testBit j || decide (j = w)) := by
  unfold putB
  rw [Nat.testBit_or, Nat.testBit_two_pow]
  congr 1
  exact decide_eq_decide.mpr eq_comm
theorem put_lt {s w n : Nat} (hs : s < 2 ^ n) (hw : w < n) : putB s w < 2 ^ n := Nat.or_lt_two_pow hs (Nat.pow_lt_pow_right (by decide) hw)
def leftB (n s : Nat) : Nat := ((List.range n).filter fun w => !s.testBit w).length
theorem left_le (n s : Nat) : leftB n s ≤ n := by
  have := List.length_filter_le (fun w => !s.testBit w) (List.range n)
  rw [List.length_range] at this
  exact this
theorem filter_less {α : Type} [DecidableEq α] {p q : α → Bool} {a : α} : ∀ {l : List α}, l.Nodup → a ∈ l → p a = true → (∀ x, q x = (p x && !decide (x = a))) → (l.filter q).length + 1 = (l.filter p).length
  | [], _, h, _, _ => nomatch h
  | x :: l, nd, h, pa, hq => by
    have nd := List.nodup_cons.mp nd
    by_cases e : x = a
    · subst e
      have ql : l.filter q = l.filter p := List.filter_congr fun y hy => by
        rw [hq, decide_eq_false (fun z : y = x => nd.1 (by rw [← z]; exact hy))]
        simp
      rw [List.filter_cons_of_neg (by rw [hq]; simp), List.filter_cons_of_pos pa, ql, List.length_cons]
    · have ha : a ∈ l := by
        rcases List.mem_cons.mp h with h | h
        · exact absurd h.symm e
        · exact h
      have ih := filter_less nd.2 ha pa hq
      have qx : q x = p x := by rw [hq, decide_eq_false e]; simp
      cases hp : p x with
      | true => rw [List.filter_cons_of_pos (by rw [qx, hp]), List.filter_cons_of_pos hp, List.length_cons, List.length_cons, ih]
      | false => rw [List.filter_cons_of_neg (by rw [qx, hp]; decide), List.filter_cons_of_neg (by rw [hp]; decide), ih]
theorem left_put {n s w : Nat} (hw : w < n) (h : s.testBit w = false) : leftB n (putB s w) + 1 = leftB n s :=
  filter_less List.nodup_range (List.mem_range.mpr hw) (by rw [h]; rfl) fun x => by
    rw [put_bit]
    simp
theorem left_0 {n s : Nat} (hs : s < 2 ^ n) : leftB n s = 0 ↔ s = 2 ^ n - 1 := by
  unfold leftB
  rw [List.length_eq_zero_iff, List.filter_eq_nil_iff]
  constructor
  · intro h
    refine Nat.eq_of_testBit_eq fun j => ?_
    rw [Nat.testBit_two_pow_sub_one]
    by_cases hj : j < n
    · have := h j (List.mem_range.mpr hj)
      rw [decide_eq_true hj]
      simpa using this
    · rw [decide_eq_false hj]
      exact Nat.testBit_lt_two_pow (Nat.lt_of_lt_of_le hs (Nat.pow_le_pow_right (by decide) (by omega)))
  · intro h w hw
    have hw := List.mem_range.mp hw
    rw [h, Nat.testBit_two_pow_sub_one, decide_eq_true hw]
    decide
def cntB (ah : List Nat) : Nat → Nat → Nat
  | 0, s => if s = 2 ^ ah.length - 1 then 1 else 0
  | k + 1, s => (if s = 2 ^ ah.length - 1 then 1 else 0) + ((nextB ah s).map fun w => cntB ah k (putB s w)).sum
def cntF (ah : List Nat) (s : Nat) : Nat := cntB ah (leftB ah.length s) s
theorem next_full {ah : List Nat} {s : Nat} (h : s = 2 ^ ah.length - 1) : nextB ah s = [] := by
  unfold nextB
  rw [List.filter_eq_nil_iff]
  intro w hw z
  rw [Bool.and_eq_true, h, Nat.testBit_two_pow_sub_one, decide_eq_true (List.mem_range.mp hw)] at z
  exact nomatch z.1
theorem cnt_more {ah : List Nat} : ∀ (k : Nat) {s : Nat}, s < 2 ^ ah.length → leftB ah.length s ≤ k → cntB ah k s = cntF ah s
  | 0, s, hs, h => by
    unfold cntF
    rw [show leftB ah.length s = 0 by omega]
  | k + 1, s, hs, h => by
    unfold cntF
    cases e : leftB ah.length s with
    | zero =>
      have hf := (left_0 hs).mp e
      show (_ + _ : Nat) = _
      rw [next_full hf]
      rfl
    | succ m =>
      show (_ + _ : Nat) = (_ + _ : Nat)
      congr 2
      refine List.map_congr_left fun w hw => ?_
      obtain ⟨h1, h2, _⟩ := mem_nextB.mp hw
      have hl := left_put h1 h2
      rw [cnt_more k (put_lt hs h1) (by omega)]
      unfold cntF
      congr 1
      omega
theorem cnt_at {ah : List Nat} {s : Nat} (hs : s < 2 ^ ah.length) : cntF ah s = (if s = 2 ^ ah.length - 1 then 1 else 0) + ((nextB ah s).map fun w => cntF ah (putB s w)).sum := by
  cases e : leftB ah.length s with
  | zero =>
    have hf := (left_0 hs).mp e
    unfold cntF
    rw [e, next_full hf]
    rfl
  | succ m =>
    have : cntF ah s = cntB ah (m + 1) s := by unfold cntF; rw [e]
    rw [this]
    show (_ + _ : Nat) = (_ + _ : Nat)
    congr 2
    refine List.map_congr_left fun w hw => ?_
    obtain ⟨h1, h2, _⟩ := mem_nextB.mp hw
    have hl := left_put h1 h2
    exact cnt_more m (put_lt hs h1) (by omega)
structure KnowsB (ah : List Nat) (kvs : List (Key × V)) : Prop where
  nd : (kvs.map (·.1)).Nodup
  ok : ∀ kv ∈ kvs, ∃ s : Nat, s < 2 ^ ah.length ∧ kv = (.inl (s : Int), .int (cntF ah s : Int))
theorem KnowsB.nil (ah : List Nat) : KnowsB ah [] := ⟨.nil, fun _ h => nomatch h⟩
theorem KnowsB.get {ah : List Nat} {kvs : List (Key × V)} (h : KnowsB ah kvs) {s : Nat} {x : V} (e : valV kvs (.inl (s : Int)) = some x) : x = .int (cntF ah s : Int) := by
  unfold valV at e
  cases f : kvs.find? fun kv => decide (kv.1 = (.inl (s : Int) : Key)) with
  | none => rw [f] at e; cases e
  | some kv =>
    rw [f] at e
    have e := Option.some.inj e
    obtain ⟨t, ht, hk⟩ := h.ok kv (List.mem_of_find?_eq_some f)
    have hs : kv.1 = (.inl (s : Int) : Key) := of_decide_eq_true (List.find?_some (p := fun kv : Key × V => decide (kv.1 = (.inl (s : Int) : Key))) f)
    subst hk
    have : (t : Int) = (s : Int) := by
      have z : (Sum.inl (t : Int) : Key) = Sum.inl (s : Int) := hs
      injection z
    have : t = s := by omega
    rw [← e, this]
theorem put_new {κ : Type} [DecidableEq κ] {kvs : List (κ × V)} {k : κ} {v : V} (h : valV kvs k = none) : putK kvs k v = kvs ++ [(k, v)] := by
  unfold putK
  rw [if_neg]
  rw [valV_any, h]
  decide
theorem KnowsB.put {ah : List Nat} {kvs : List (Key × V)} (h : KnowsB ah kvs) {s : Nat} (hs : s < 2 ^ ah.length) (e : valV kvs (.inl (s : Int)) = none) : KnowsB ah (putK kvs (.inl (s : Int)) (.int (cntF ah s : Int))) := by
  rw [put_new e]
  refine ⟨?_, fun kv hkv => ?_⟩
  · rw [List.map_append]
    refine List.nodup_append.mpr ⟨h.nd, by simp, fun a ha b hb z => ?_⟩
    have hb : b = .inl (s : Int) := by simpa using hb
    rw [z, hb] at ha
    obtain ⟨kv, hkv, hk⟩ := List.mem_map.mp ha
    have := valV_any (.inl (s : Int) : Key) kvs
    rw [e] at this
    have h2 := List.any_eq_false.mp this kv hkv
    exact h2 (decide_eq_true hk)
  · rcases List.mem_append.mp hkv with h1 | h1
    · exact h.ok kv h1
    · exact ⟨s, hs, List.mem_singleton.mp h1⟩
theorem nodup_few {α : Type} [DecidableEq α] : ∀ {l m : List α}, l.Nodup → (∀ x ∈ l, x ∈ m) → l.length ≤ m.length
  | [], _, _, _ => Nat.zero_le _
  | a :: l, m, nd, h => by
    have nd := List.nodup_cons.mp nd
    have ha := h a (List.mem_cons_self ..)
    have ih := nodup_few (l := l) (m := m.erase a) nd.2 fun x hx => (List.mem_erase_of_ne (fun z => nd.1 (by rw [← z]; exact hx))).mpr (h x (List.mem_cons_of_mem _ hx))
    rw [List.length_erase_of_mem ha] at ih
    have := List.length_pos_of_mem ha
    rw [List.length_cons]
    omega
theorem KnowsB.few {ah : List Nat} {kvs : List (Key × V)} (h : KnowsB ah kvs) : kvs.length ≤ 2 ^ ah.length := by
  have sub := nodup_few (m := (List.range (2 ^ ah.length)).map fun (s : Nat) => (.inl (s : Int) : Key)) h.nd fun k hk => by
    obtain ⟨kv, hkv, rfl⟩ := List.mem_map.mp hk
    obtain ⟨s, hs, rfl⟩ := h.ok kv hkv
    exact List.mem_map.mpr ⟨s, List.mem_range.mpr hs, rfl⟩
  rw [List.length_map, List.length_map, List.length_range] at sub
  exact sub
end HH
set_option maxHeartbeats 4000000
namespace HH
open PySem PySem.Spec PyProof.Rows L2 Evl
def vec (n : Nat) (f : Nat → Int) : List V := (List.range n).map fun k => V.int (f k)
theorem vec_len (n : Nat) (f : Nat → Int) : (vec n f).length = n := by unfold vec; rw [List.length_map, List.length_range]
theorem vec_get {n : Nat} {f : Nat → Int} {i : Nat} (h : i < n) : (vec n f)[i]? = some (.int (f i)) := by
  unfold vec
  rw [List.getElem?_map, List.getElem?_range h]
  rfl
theorem vec_zero (n : Nat) : List.replicate n (V.int 0) = vec n (fun _ => 0) := by
  refine List.ext_getElem? fun k => ?_
  by_cases hk : k < n
  · rw [vec_get hk, List.getElem?_replicate, if_pos hk]
  · rw [List.getElem?_eq_none (by rw [List.length_replicate]; omega), List.getElem?_eq_none (by rw [vec_len]; omega)]
theorem el_zeros {σ : L2.St} {H : Hp} {ta : TE} {n : Nat} (h : Ev ta σ H (.int (n : Int))) (hn : n ≤ 1000) : EvL (tOp rRep (tLst (tCons (tC (.int 0)) tNil)) ta) σ H (vec n (fun _ => 0)) := fun H1 e Q q => by
  refine ⟨by show 1 ≤ sizeLine; decide, fun l0 hl0 => ?_⟩
  have n1 := Ex.new (o := .lst [V.int 0]) hl0
  refine h _ (e.trans n1) _ fun H2 e2 => ?_
  refine ⟨l0, (n : Int), [V.int 0], rfl, rfl, e2 _ _ upd_same, by omega, by omega, sz_of (by rw [Int.toNat_natCast]; show 1 * n ≤ _; omega), fun c hc => ?_⟩
  refine q c _ (fresh_back (n1.trans e2) hc) ((n1.trans e2).trans (Ex.new hc)) ?_
  have fl : ∀ m : Nat, (List.replicate m [V.int 0]).flatten = List.replicate m (V.int 0) := fun m => by
    induction m with
    | zero => rfl
    | succ m ih =>
      rw [List.replicate_succ, List.flatten_cons, ih]
      rfl
  rw [upd_same, ← vec_zero, Int.toNat_natCast, fl]
section
variable {e : List Nat} {rs ps : HH.Row} {i j n : Nat}
end
end HH
set_option maxHeartbeats 4000000
namespace HH
open PySem PySem.Spec PyProof.Rows L2 Evl RZ
inductive Bk where
  | val
  | run
  | look
  | over
namespace Bk
def nm : Bk → String
  | val => "ValueError"
  | run => "RuntimeError"
  | look => "LookupError"
  | over => "OverflowError"
def st : Bk → Str
  | val => "ValueError"
  | run => "RuntimeError"
  | look => "LookupError"
  | over => "OverflowError"
def nw : Bk → String
  | val => "ValueError.__new__"
  | run => "RuntimeError.__new__"
  | look => "LookupError.__new__"
  | over => "OverflowError.__new__"
def ini : Bk → String
  | val => "ValueError.__init__"
  | run => "RuntimeError.__init__"
  | look => "LookupError.__init__"
  | over => "OverflowError.__init__"
def mro : Bk → List Value
  | val => [.type "ValueError", .type "Exception", .type "BaseException", .type "object"]
  | run => [.type "RuntimeError", .type "Exception", .type "BaseException", .type "object"]
  | look => [.type "LookupError", .type "Exception", .type "BaseException", .type "object"]
  | over => [.type "OverflowError", .type "ArithmeticError", .type "Exception", .type "BaseException", .type "object"]
theorem base : (b : Bk) → ExcBaseFacts b.nm b.nw b.ini b.mro
  | val => F.excBase_ValueError
  | run => F.excBase_RuntimeError
  | look => F.excBase_LookupError
  | over => F.excBase_OverflowError
theorem store : (b : Bk) → StoreFacts b.nm b.mro "object.__setattr__" "object"
  | val => F.store_ValueError
  | run => F.store_RuntimeError
  | look => F.store_LookupError
  | over => F.store_OverflowError
theorem typ : (b : Bk) → typeOf (.type b.nm) = pure (.type "type")
  | val => by kernel_rfl
  | run => by kernel_rfl
  | look => by kernel_rfl
  | over => by kernel_rfl
theorem stub : (b : Bk) → Manifest.isStub b.nm = false
  | val => by decide +kernel
  | run => by decide +kernel
  | look => by decide +kernel
  | over => by decide +kernel
theorem boot : (b : Bk) → bootBuiltins b.st = some (.type b.nm)
  | val => PyProof.Rows.Boot.«ValueError»
  | run => PyProof.Rows.Boot.«RuntimeError»
  | look => PyProof.Rows.Boot.«LookupError»
  | over => PyProof.Rows.Boot.«OverflowError»
end Bk
structure ExcTy (K : PySem.W.Frag) (b : Bk) (f : Str) (C fI : Addr) : Prop where
  ok : PySem.W.excInitIn K C b.mro b.nw = true
  ov : PySem.W.excOver K C b.mro = true
  tk : PySem.W.takerIn K C f = some none
  hd : PySem.W.hasDictIn K C = true
  sa : PySem.W.findIn K (.ref C) "__setattr__" = some (some (.builtin "object.__setattr__"))
  ga : PySem.W.findIn K (.ref C) "__getattribute__" = some (some (.builtin "BaseException.__getattribute__"))
  gg : PySem.W.findIn K (.ref C) "__getattr__" = some none
  no : PySem.W.findIn K (.ref C) f = some none
  iC : PySem.W.findIn K (.ref C) "__init__" = some (some (.ref fI))
  ca : PySem.W.findIn K (.ref C) "__class__" = some (some (.builtin "object.__class__"))
  gs : PySem.W.specialIn K (.builtin "object.__class__") "__get__" = some (some (.builtin "getset_descriptor.__get__"))
  tI : PySem.W.typeIn K (.ref fI) = some (.type "function")
  kC : PySem.W.keepIn K (.ref C) = true
  ex : PySem.W.subIn K (.ref C) (.type "BaseException") = some true
  ty : PySem.W.typeIn K (.ref C) = some (.type "type")
  ts : PySem.W.takesIn K (.builtin "object.__class__") = some true
  mo : PySem.W.mroIn K C (.type "object") = some true
  bi : PySem.W.findCls K (.type b.nm) (.type "type") "__init__" = some (.val (.builtin b.ini))
def exTyB (K : PySem.W.Frag) (b : Bk) (f : Str) (C fI : Addr) : Bool :=
  PySem.W.excInitIn K C b.mro b.nw && (PySem.W.excOver K C b.mro && (He.eqO (PySem.W.takerIn K C f) (some none) && (PySem.W.hasDictIn K C &&
  (He.eqO (PySem.W.findIn K (.ref C) "__setattr__") (some (some (.builtin "object.__setattr__"))) && (He.eqO (PySem.W.findIn K (.ref C) "__getattribute__") (some (some (.builtin "BaseException.__getattribute__"))) &&
  (He.eqO (PySem.W.findIn K (.ref C) "__getattr__") (some none) && (He.eqO (PySem.W.findIn K (.ref C) f) (some none) && (He.eqO (PySem.W.findIn K (.ref C) "__init__") (some (some (.ref fI))) &&
  (He.eqO (PySem.W.findIn K (.ref C) "__class__") (some (some (.builtin "object.__class__"))) && (He.eqO (PySem.W.specialIn K (.builtin "object.__class__") "__get__") (some (some (.builtin "getset_descriptor.__get__"))) &&
  (decide (PySem.W.typeIn K (.ref fI) = some (.type "function")) && (PySem.W.keepIn K (.ref C) && (decide (PySem.W.subIn K (.ref C) (.type "BaseException") = some true) && (decide (PySem.W.typeIn K (.ref C) = some (.type "type")) &&
  (decide (PySem.W.takesIn K (.builtin "object.__class__") = some true) && decide (PySem.W.mroIn K C (.type "object") = some true))))))))))))))))
theorem band {a b : Bool} (h : (a && b) = true) : a = true ∧ b = true := Bool.and_eq_true_iff.mp h
theorem exTyB_ok {K : PySem.W.Frag} {b : Bk} {f : Str} {C fI : Addr} (h : exTyB K b f C fI = true) (bi : PySem.W.findCls K (.type b.nm) (.type "type") "__init__" = some (.val (.builtin b.ini))) : ExcTy K b f C fI := by
  unfold exTyB at h
  obtain ⟨h1, h⟩ := band h
  obtain ⟨h2, h⟩ := band h
  obtain ⟨h3, h⟩ := band h
  obtain ⟨h4, h⟩ := band h
  obtain ⟨h5, h⟩ := band h
  obtain ⟨h6, h⟩ := band h
  obtain ⟨h7, h⟩ := band h
  obtain ⟨h8, h⟩ := band h
  obtain ⟨h9, h⟩ := band h
  obtain ⟨h10, h⟩ := band h
  obtain ⟨h11, h⟩ := band h
  obtain ⟨h12, h⟩ := band h
  obtain ⟨h13, h⟩ := band h
  obtain ⟨h14, h⟩ := band h
  obtain ⟨h15, h⟩ := band h
  obtain ⟨h16, h17⟩ := band h
  exact ⟨h1, h2, He.eqO_ok h3, h4, He.eqO_ok h5, He.eqO_ok h6, He.eqO_ok h7, He.eqO_ok h8, He.eqO_ok h9, He.eqO_ok h10, He.eqO_ok h11, of_decide_eq_true h12, h13, of_decide_eq_true h14, of_decide_eq_true h15, of_decide_eq_true h16, of_decide_eq_true h17, bi⟩
section
variable {X : Cx} {pins : List (Addr × Obj)} {σ : L2.St} {H : Hp} {s : Shared} {a C fI : Addr} {f : Str} {b : Bk} {y : V} {u : Value} {A : Around} {E : Value → Shared → Prop}
theorem dict_new {hp h' : Heap} {g : Array GenState} {d : Drawn} {t tk' : Nat} {os : OsState} {t1 dx : Addr} (I : Inv X pins σ H ⟨hp, g, d, t, os⟩) (e : H a = some (exo a C none)) (k : ∀ c o, c ≠ a → hp.get? c = some o → h'.get? c = some o) (dn : hp.objs.size ≤ dx) (ne : dx ≠ a)
    (hx : h'.get? a = some { cls := .ref C, dict := some dx, data := .fields #[.ref t1, .none, .none, .none, .bool false, .none] }) {mA : Str → Option Value} (hn : h'.Ns1 dx mA) (rel : ∀ g, RelO ([(f, y)].lookup g) (mA g)) :
    H dx = none ∧ Inv X pins σ (upd (upd H dx (exd dx [(f, y)])) a (exo a C (some dx))) ⟨h', g, d, tk', os⟩ := by
  have nd : H dx = none := I.hok.fresh dn
  have old {c : Addr} {o : Obj} (q : hp.get? c = some o) : c ≠ dx := Nat.ne_of_lt (Nat.lt_of_lt_of_le (Heap.lt_size q) dn)
  have una {c : Addr} (n : H c = none) : c ≠ a := by
    rintro rfl
    rw [e] at n
    cases n
  have skip {c : Addr} (h1 : c ≠ a) (h2 : c ≠ dx) : upd (upd H dx (exd dx [(f, y)])) a (exo a C (some dx)) c = H c := by rw [upd_ne h1, upd_ne h2]
  refine ⟨nd, I.un (t' := tk') ⟨fun c o q n _ _ => k c o (una n) q, fun c o q n _ _ => ⟨o.slots, k c o (una n) q⟩, fun c o q n _ => (skip (una n) (old q)).trans n, fun c o q _ => ?_, fun c xs q => (skip (at_ne e q exo_tup) (ne_of_none q nd)).trans q, fun c o v q => (skip (at_ne e q exo_frz) (ne_of_none q nd)).trans q,
    fun c ps q => ⟨#[], by rw [skip (at_ne e q exo_tbl) (ne_of_none q nd), q, Array.append_empty]⟩⟩ fun c o q => ?_⟩
  · by_cases z : c = a
    · exact ⟨_, by rw [z]; exact hx⟩
    · exact ⟨o, k c o z q⟩
  · by_cases z : c = a
    · subst z
      rw [upd_same] at q
      cases q
      exact exo_ok hx
    by_cases z2 : c = dx
    · subst z2
      rw [upd_ne z, upd_same] at q
      cases q
      exact exd_ok hn rel
    rw [skip z z2] at q
    refine (I.hok c o q).stay (fun c2 v hc r => k c2 v ?_ r) (fun c2 hc => (skip (at_ne e hc exo_own) (ne_of_none hc nd)).trans hc) fun c2 xs hc => (skip (at_ne e hc exo_tup) (ne_of_none hc nd)).trans hc
    rcases hc with rfl | hc
    · exact z
    · exact at_ne e hc exo_own
theorem exc_first {Q : Unit → Shared → Prop} (T : ExcTy X.K b f C fI) (I : Inv X pins σ H s) (e : H a = some (exo a C none)) (ry : RelV y u)
    (k : ∀ dx s', H dx = none → dx ≠ a → Inv X pins σ (upd (upd H dx (exd dx [(f, y)])) a (exo a C (some dx))) s' → Q () s') : wpAny (model X.prog X.w) A (setAttr (.ref a) f u) Q E s := by
  obtain ⟨t1, ho⟩ := exo_at I.hok e
  obtain ⟨hp, g, d, t, os⟩ := s
  obtain ⟨cd, hcd, hdd⟩ := PySem.W.any_some T.hd
  have LC : PySem.W.Looks (model X.prog X.w) hp (classData C) cd := PySem.W.looks_clsIn I.kIn hcd
  have J : PySem.W.InstAt hp a { cls := .ref C, dict := none, data := .fields #[.ref t1, .none, .none, .none, .bool false, .none] } C none := ⟨ho, rfl, rfl, trivial⟩
  have aw : a ≠ hp.objs.size := Nat.ne_of_lt (Heap.lt_size ho)
  refine PySem.W.set_plain I.kIn J T.sa (PySem.W.osa_openX b.store I.kIn J T.ov T.tk fun bb => ?_)
  obtain ⟨nm, bs, mro, ns, qn, hd, sn, sb, ab, col, del⟩ := cd
  dsimp only at hdd
  subst hdd
  dsimp only
  unfold Builtin.ObjectAttr.storeInOwnDict Builtin.ObjectAttr.ownDictForStores
  repeat (first | with_reducible refine HandSPX.store_in_new ?_ ?_ | with_reducible refine wpAny_loadPart_at ho ?_ | with_reducible refine LC.at ?_ | wp_step)
  · exact ⟨_, #[], _, (Heap.get?_update_ne _ _ _ _ aw.symm).trans (Heap.get?_push_at rfl rfl), rfl, fun e he => absurd he (by simp), fun _ => rfl⟩
  · intro h' tk' hn' hs
    have ho1 : (hp.push { cls := .type "dict", data := .dict #[] }).get? a = _ := Heap.get?_push_of_some _ ho
    obtain ⟨n, J⟩ := dict_new (tk' := tk') (y := y) (f := f) (dx := hp.objs.size) I e (fun c o hc q => (hs.2 c (Nat.ne_of_lt (Heap.lt_size q))).trans ((Heap.get?_update_ne _ _ _ _ hc).trans (Heap.get?_push_of_some _ q))) (Nat.le_refl _) aw.symm ((hs.2 a aw).trans (Heap.get?_update_self _ ho1 rfl)) hn' (relO_put (fs := []) ry fun _ => True.intro)
    exact k _ _ n aw.symm J
def tBI (K : PySem.W.Frag) (b : Bk) (ta : TA) : TE := fun σ H Q => ta σ H fun vs H1 => ∃ (a C : Addr) (ws : List V), vs = .ref a :: ws ∧ ws.length ≤ 1000 ∧ PySem.W.excInitIn K C b.mro b.nw = true ∧ H1 a = some (exo a C none) ∧ Q .non H1
theorem pe_bini {e : Expr} {es : List Expr} {ta : TA} {p1 p2 pos : Pos} {pl : Sem Bool} (hg : Gl X b.st) (hm : X.mg b.st = none) (bi : PySem.W.findCls X.K (.type b.nm) (.type "type") "__init__" = some (.val (.builtin b.ini))) (ha : PA X (e :: es) ta)
    (hn : b.st ≠ ("__name__" : Str)) (hdb : (b.st == ("__debug__" : Str)) = false) (hh : PySem.W.handedIn (.builtin b.ini) = true)
    (hc : eval (.Call (.Attribute (.Name b.st p1) "__init__" p2) (e :: es) [] pos) X.env = (do
      let ov ← eval (.Name b.st p1) X.env
      standAt p2.atName
      let (f, first) ← holding [ov] (getMethod ov "__init__" pl)
      callWith pos f first (backTo pos (starEach (e :: es) X.env)) (backToKw pos (keywordEach [] X.env))) := by rfl)
    (he : starEach (e :: es) X.env = (false, eval e X.env) :: starEach es X.env := by rfl) (hpl : (backTo pos (starEach es X.env)).any (·.1) = false := by rfl) :
    PE X (.Call (.Attribute (.Name b.st p1) "__init__" p2) (e :: es) [] pos) (tBI X.K b ta) := by
  refine ⟨fun pins s σ H Q I h => PySem.W.methodCall_KW (ld_blt I hg hm b.boot ?_ hn hdb) hc⟩
  obtain ⟨m, fr⟩ := I.fr
  refine PySem.W.method_type fr I.ok.mod.kin b.typ b.stub bi hh ?_
  show wpAny _ _ (callWith pos (Value.builtin b.ini) [] (backTo pos (starEach (e :: es) X.env)) []) _ _ _
  refine PyProof.Rows.callWith_method1 (thn (ha.run pos pins _ σ H _ (I.tok _) h) fun us s1 ⟨vs, H1, J, r, a, C, ws, ev, hl, hC, ea, q⟩ => ?_) he hpl
  subst ev
  cases r with
  | @cons _ u0 _ ur ra rw' =>
    obtain rfl : u0 = Value.ref a := ra
    have few : ur.length ≤ sizeLine := by
      rw [← Paired.length rw', sizeLine_eq]
      omega
    obtain ⟨t1, ho⟩ := exo_at J.hok ea
    obtain ⟨nm, N, qn, bs, bm, hdct, sn, sub, ab, col, dd, k0, k1, k2, k3, k5, hC', hT⟩ := PySem.W.excInit_of J.kIn hC
    obtain ⟨hp, g, d, t, os⟩ := s1
    refine wpAny_call (PySem.HandSPX.init_base b.base hT hC' ho few fun h' t2 k hx => ⟨.non, H1, ?_, rfl, q⟩)
    have W := J.write (t' := t) (x := a) (e := a) (o := exo a C none) (by rw [ea]; exact True.intro) (.inl rfl) k ⟨_, hx⟩ (exo_ok hx)
    have eu : upd H1 a (exo a C none) = H1 := funext fun c => by
      by_cases z : c = a
      · rw [z, upd_same, ea]
      · exact upd_ne z
    rw [eu] at W
    exact W
def tXs (K : PySem.W.Frag) (f : Str) (to te : TE) : TS := fun D σ H => te σ H fun y H1 => to σ H1 fun x H2 => ∃ (a C fI : Addr) (b : Bk), x = .ref a ∧ ExcTy K b f C fI ∧ H2 a = some (exo a C none) ∧ ∀ dx, H2 dx = none → dx ≠ a → D.nx σ (upd (upd H2 dx (exd dx [(f, y)])) a (exo a C (some dx)))
theorem ps_xs {o e : Expr} {to te : TE} {p' pos : Pos} (ho : PE X o to) (he : PE X e te) (hs : swapsWith e (some (.Attribute o f p')) pos.line X.env = pure false := by rfl) : PS X (.Assign [.Attribute o f p'] e pos) (tXs X.K f to te) := by
  refine ⟨fun pins s σ H D I h => plainObj_wpAny_Assign_Attribute (thn (he.run pins s σ H _ I h) fun v s1 ⟨y, H1, I1, r1, q1⟩ => thn (ho.run pins s1 σ H1 _ I1 q1) fun u s2 ⟨x, H2, I2, r2, a, C, fI, b, ex, T, ea, q⟩ => ?_) hs⟩
  subst ex
  obtain rfl : u = Value.ref a := r2
  exact exc_first T I2 ea r1 fun dx s' n ne J => ⟨σ, _, J, q dx n ne⟩
end
def spIni (C : Addr) (f : Str) : Sp := fun vs H Q _ => ∃ (a : Addr) (v : V), vs = [.ref a, v] ∧ H a = some (exo a C none) ∧ ∀ dx, H dx = none → dx ≠ a → Q .non (upd (upd H dx (exd dx [(f, v)])) a (exo a C (some dx)))
def tMkX (C : Addr) (f : Str) (ta : TA) : L2.St → Hp → XK → Prop := fun σ H Q => ta σ H fun vs H1 => ∃ v, vs = [v] ∧ ∀ d, H1 d = none → Q (.ref C) (some d) (upd H1 d (.xd [(f, v)]))
section
variable {X : Cx} {C fI : Addr} {f : Str} {b : Bk}
theorem pmk_x {x : Str} {e : Expr} {ta : TA} {p pos : Pos} {k : Nat} {fd : FuncData} (T : ExcTy X.K b f C fI) (F1 : FnOk X.prog X.w X.K X.mg X.base CX0 k fI fd ["self", f] (spIni C f)) (hr : Room (k + 1) X.A) (hb : Binds X.K fd ["self", f] []) (hm : X.mg x = some (.ref C)) (hg : Gl X x) (ha : PA X [e] ta)
    (hdb : (x == ("__debug__" : Str)) = false := by decide) (he : starEach (e :: []) X.env = (false, eval e X.env) :: starEach [] X.env := by rfl) (hpl : (backTo pos (starEach [] X.env)).any (·.1) = false := by rfl) :
    PMk X (.Call (.Name x p) [e] [] pos) (tMkX C f ta) := by
  intro pins s σ H Q I h
  refine wpAny_Call_Name_kw (ld_glob I hg hm (PySem.W.callWith_K (h₀ := X.base) I.ok.mod.kin T.kC (thn (ha.run pos pins s σ H _ I h) fun us s1 ⟨vs, H1, J, r1, v, ev, q⟩ => ⟨J.kIn, ?_⟩) he hpl) hdb)
  subst ev
  show wpAny _ _ (call (.ref C) us) _ _ _
  obtain ⟨u, rfl, ru⟩ := vals1 r1
  obtain ⟨nm, N, qn, bs, bm, hdct, sn, sub, ab, col, dd, k0, k1, k2, k3, k5, hC, hT⟩ := PySem.W.excInit_of J.kIn T.ok
  obtain ⟨hp, g, dr, tk, os⟩ := s1
  have big : hp.objs.size ≤ hp.objs.size + 1 := Nat.le_succ _
  have nw : H1 (hp.objs.size + 1) = none := J.hok.fresh big
  have kk : ∀ c o, hp.get? c = some o → ((hp.push (PySem.W.kdv_tup [u])).push (PySem.HandSPX.excO C hp.objs.size)).get? c = some o := fun c o z => Heap.get?_push_of_some _ (Heap.get?_push_of_some _ z)
  have at1 : ((hp.push (PySem.W.kdv_tup [u])).push (PySem.HandSPX.excO C hp.objs.size)).get? (hp.objs.size + 1) = some (PySem.HandSPX.excO C hp.objs.size) := by heap_get
  have J2 : Inv X pins σ (upd H1 (hp.objs.size + 1) (exo (hp.objs.size + 1) C none)) ⟨(hp.push (PySem.W.kdv_tup [u])).push (PySem.HandSPX.excO C hp.objs.size), g, dr, tk, os⟩ := J.laid (t' := tk) (h' := (hp.push (PySem.W.kdv_tup [u])).push (PySem.HandSPX.excO C hp.objs.size)) kk big (exo_ok at1)
  have r2 : Vals [V.ref (hp.objs.size + 1), v] [Value.ref (hp.objs.size + 1), u] := .cons rfl (.cons ru .nil)
  have sp : spIni C f [V.ref (hp.objs.size + 1), v] (upd H1 (hp.objs.size + 1) (exo (hp.objs.size + 1) C none)) (fun v' H2 => v' = .non ∧ ∃ (d : Addr) (fs : List (Str × V)), H2 (hp.objs.size + 1) = some (exo (hp.objs.size + 1) C (some d)) ∧ H2 d = some (exd d fs) ∧ H1 d = none ∧ Q (.ref C) (some d) (upd (del H2 (hp.objs.size + 1)) d (.xd fs))) (fun _ _ _ => False) := by
    refine ⟨_, v, rfl, upd_same, fun dx n ne => ⟨rfl, dx, [(f, v)], upd_same, ?_, ?_, ?_⟩⟩
    · rw [upd_ne ne, upd_same]
    · rw [← n, upd_ne ne]
    · have n1 : H1 dx = none := by rw [← n, upd_ne ne]
      have e2 : upd (del (upd (upd (upd H1 (hp.objs.size + 1) (exo (hp.objs.size + 1) C none)) dx (exd dx [(f, v)])) (hp.objs.size + 1) (exo (hp.objs.size + 1) C (some dx))) (hp.objs.size + 1)) dx (.xd [(f, v)]) = upd H1 dx (.xd [(f, v)]) := funext fun c => by
        by_cases z : c = dx
        · rw [z, upd_same, upd_same]
        rw [upd_ne z, upd_ne z]
        by_cases z2 : c = hp.objs.size + 1
        · rw [z2, del_same, nw]
        · rw [del_ne z2, upd_ne z2, upd_ne z, upd_ne z2]
      rw [e2]
      exact q dx n1
  refine wpAny_call (PySem.HandSPX.call_own b.base hT hC (PySem.W.looks_findIn J.kIn T.iC) (fun self => PySem.W.bind_fn J.kIn self T.tI) (by rw [sizeLine_eq]; show 1 ≤ 16777216; decide)
    (codeAny_mono (F1.run _ X.stack _ _ ⟨[Value.ref (hp.objs.size + 1), u], []⟩ [Value.ref (hp.objs.size + 1), u] _ _ (fun _ _ _ => False) (hr.make C [u] []) (J2.env0.make C [u] []) (hb _ [Value.ref (hp.objs.size + 1), u] J2.kIn rfl) r2 sp) fun rs s' hq => ?_))
  match rs, hq with
  | .error _, hq => exact hq.elim
  | .ok .next, hq => exact hq.elim
  | .ok .brk, hq => exact hq.elim
  | .ok .cont, hq => exact hq.elim
  | .ok (.ret _), ⟨v', H2, os2, bare2, un2, hok2, rv, ev, d, fs, ea, ed, hd1, q2⟩ =>
    subst ev
    obtain ⟨h2, g2, d2, t2, os'⟩ := s'
    exact ⟨rv, mk_end (raises_own T.ex T.ty) J big kk un2 hok2 os2 bare2 ea ed hd1 q2⟩
end
end HH
set_option maxHeartbeats 4000000
namespace HH
open PySem PySem.Spec PyProof.Rows L2 Evl RZ
section
variable {X : Cx} {pins : List (Addr × Obj)} {σ : L2.St} {H : Hp} {s : Shared} {a : Addr} {oe : Obj} {cls : Value} {d : Option Addr} {vs : Array Value}
end
section
variable {X : Cx} {x1 x2 x3 x4 : Str} {c1 c2 c3 c4 : Value} {p1 p2 p3 p4 tp : Pos} {kk : Nat}
end
section
variable {X : Cx} {t : Expr} {n : Str} {i : Nat} {m : Value → Prop} {body suite : List Stmt} {b0 : Stmt} {pos pos' : Pos} {tb : WX → TS} {ts : Addr → Value → Option Addr → TS}
end
section
variable {X : Cx} {C fI : Addr} {f : Str} {b : Bk}
end
end HH
set_option maxHeartbeats 4000000
namespace HH
open PySem PySem.Spec PyProof.Rows L2 Evl RZ
def putR (rs : HH.Row) (w : Nat) (b : Int × Int) : HH.Row := rs.take w ++ [b] ++ rs.drop (w + 1)
def fedR (rs : HH.Row) (w : Nat) (d : Int) : HH.Row := putR rs w (sS rs w + d, tS rs w)
section
variable {K : PySem.W.Frag} {σ : L2.St} {H : Hp} {ta tb te te2 : TE} {t : TT} {R : PrT} {v : V}
end
end HH
set_option maxHeartbeats 4000000
namespace HH
open PySem PySem.Spec PyProof.Rows L2 Evl RZ
section
variable {K : PySem.W.Frag} {σ : L2.St} {H : Hp} {v : V}
theorem rg_nats (n : Nat) : rgV 0 (n : Int) = natsV (List.range n) := by
  have := ord_tag (List.replicate n ((0 : Int), (0 : Int)))
  rw [List.length_replicate] at this
  rw [this, ordL_nats, tag_ids, List.length_replicate]
end
end HH
set_option maxHeartbeats 4000000
namespace HH
open PySem PySem.Spec PyProof.Rows L2 Evl RZ
def aheadP (rs : HH.Row) (w j : Nat) : Bool := if j < w then !decide (barN rs j (w - j - 1) < sS rs w) else if w < j then decide (barN rs w (j - w - 1) < sS rs j) else false
def placeN (rs : HH.Row) (w : Nat) : Nat := (List.range rs.length).countP (aheadP rs w)
structure LeastF (rs : HH.Row) (w k : Nat) (F : Int) : Prop where
  nn : 0 ≤ F
  at' : placeN (fedR rs w F) w ≤ k
  no : ∀ f, 0 ≤ f → f < F → k < placeN (fedR rs w f) w
theorem LeastF.one {rs : HH.Row} {w k : Nat} {F G : Int} (a : LeastF rs w k F) (b : LeastF rs w k G) : F = G := by
  rcases Int.lt_trichotomy F G with h | h | h
  · have := b.no F a.nn h
    have := a.at'
    omega
  · exact h
  · have := a.no G b.nn h
    have := b.at'
    omega
end HH
set_option maxHeartbeats 4000000
namespace HH
open PySem PySem.Spec PyProof.Rows L2 Evl RZ
def CowAt (H : Hp) (v : V) (c : Cow) : Prop := ∃ p, v = .ref p ∧ H p = some (.tup [.int (c.1 : Int), .int c.2.1, .int c.2.2])
theorem CowAt.ex {H H' : Hp} {v : V} {c : Cow} (h : CowAt H v c) (e : Ex H H') : CowAt H' v c := by
  obtain ⟨p, rfl, hp⟩ := h
  exact ⟨p, rfl, e _ _ hp⟩
theorem CowAt.ls {H : Hp} {v : V} {c : Cow} {D : Addr} {xs ys : List V} (h : CowAt H v c) (hD : H D = some (.lst xs)) : CowAt (upd H D (.lst ys)) v c := by
  obtain ⟨p, rfl, hp⟩ := h
  refine ⟨p, rfl, ?_⟩
  rw [upd_ne (ne_of hp hD fun z => nomatch z)]
  exact hp
theorem All2.split {α : Type} {R : V → α → Prop} : ∀ {A B : List α} {us : List V}, All2 R us (A ++ B) → ∃ u1 u2, us = u1 ++ u2 ∧ All2 R u1 A ∧ All2 R u2 B
  | [], B, us, h => ⟨[], us, rfl, .nil, h⟩
  | a :: A, B, _, .cons r h => by
    obtain ⟨u1, u2, rfl, h1, h2⟩ := All2.split (A := A) h
    exact ⟨_ :: u1, u2, rfl, .cons r h1, h2⟩
section
variable {K : PySem.W.Frag} {σ : L2.St} {H : Hp} {tl : TE} {D : Ends} {tz tu : TS} {g : TG}
end
section
variable {K : PySem.W.Frag} {σ : L2.St} {H : Hp} {te te2 : TE} {t : TT} {v : V}
end
end HH
set_option maxHeartbeats 4000000
namespace HH
open PySem PySem.Spec PyProof.Rows L2 Evl RZ
theorem cr_sortedPTK {X : Cx} {K : PySem.W.Frag} (h : X.K = K := by rfl) : CallR X (.builtin "sorted") (rSortedPT K) := by
  subst h
  exact cr_sortedPT
theorem EndAt.ne {K : PySem.W.Frag} {H H' : Hp} {p q ot lp : Addr} {v' : V} {pvs : List V} {L : List Cow} {ps : HH.Row} {n : Nat} (E : EndAt K H H' p q v' ot lp pvs L ps n) : lp ≠ p := fun z => by
  have a := E.lst
  have c := E.prs
  obtain ⟨x, y, z', e, _⟩ := E.bx
  rw [z, e] at a
  cases a
  match ps, c with
  | [], c => exact absurd c.1 (by simp)
  | b0 :: _, c =>
    obtain ⟨u, hu, pp, rfl, _⟩ := c.2 0 b0 rfl
    cases hu
end HH
set_option maxHeartbeats 4000000
namespace HH
open PySem PySem.Spec PyProof.Rows L2 Evl RZ
section
variable {K : PySem.W.Frag} {σ : L2.St} {H : Hp} {ta : TE} {E : XK} {v : V}
end
end HH
set_option maxHeartbeats 4000000
namespace HH
open PySem PySem.Spec PyProof.Rows L2 Evl RZ
theorem mul_once (l : Addr) (its : Array Value) (m : Nat) (dc : Option Addr) (sl : Array (Option Value)) (u : Tok) :
    Meets (Builtin.«tuple.__mul__» ⟨[.ref l, .int 1 u], []⟩) (fun _ R s => s.heap.get? l = some { cls := .type "tuple", dict := dc, data := .seq its m, slots := sl } ∧ R (.ok (.ret (.ref l))) s) :=
  .of_wp fun prog w A R s h => by
    obtain ⟨hp, g, d, tk, os⟩ := s
    obtain ⟨hl, h⟩ := h
    have f1 := AutoSeq1.idx_int
    wp_walk using wpAny_loadPart' hl
    exact ⟨_, rfl, h⟩
def rOnce (K : PySem.W.Frag) : R2 := fun x y H Q => ∃ l xs, x = .ref l ∧ y = .int 1 ∧ SqT K H l xs ∧ Q (.ref l) H
theorem op_once {X : Cx} : OpR X (binaryOp .Mult) (rOnce X.K) := by
  intro held st τ G x y v u Q I rx ry h
  obtain ⟨l, xs, rfl, rfl, hT, q⟩ := h
  cases rx
  obtain ⟨t, rfl⟩ := ry
  obtain ⟨its, r, ⟨ob, ho, hc, m, hd⟩, _⟩ := I.tuple hT
  obtain ⟨cl, dc, da, sl⟩ := ob
  dsimp only at hc hd
  subst hc hd
  have ty : st.TypeIs (.ref l) "tuple" := ⟨_, ho, rfl⟩
  refine wpAny_binaryOp_repeat_ref (T := "tuple") (U := "int") (by decide) ty (fun s' => typeIs_int s' 1 t) noFill_tuple_mul F.fills_int_mul F.slot_int_rmul repeat_tuple F.slot_int_index.lookup ?_
  refine call_meets F.slot_int_rmul (typeIs_int st 1 t) F.entry_int_rmul (F.args_int_rmul_2 _ _) (int_rmul_tuple 1 t l its.toArray m dc sl) ⟨ho, rfl, ty, ?_⟩
  refine call_meets F.slot_tuple_mul ty F.entry_tuple_mul (F.args_tuple_mul_2 _ _) (mul_once l its.toArray m dc sl t) ⟨ho, ?_⟩
  exact ⟨.ref l, G, I, rfl, q⟩
def rRepA (K : PySem.W.Frag) : R2 := fun x y H Q => rOnce K x y H Q ∨ rRepT K x y H Q
theorem op_repA {X : Cx} : OpR X (binaryOp .Mult) (rRepA X.K) := by
  intro held st τ G x y v u Q I rx ry h
  rcases h with h | h
  · exact op_once held st τ G x y v u Q I rx ry h
  · exact op_repT held st τ G x y v u Q I rx ry h
theorem rep_row {K : PySem.W.Frag} {H : Hp} {v : V} {b : Int × Int} {n : Nat} {Q : VK} (hv : RowAt K H v [b]) (h0 : 0 < n) (hn : n ≤ 1000) (q : ∀ z H', Ex H H' → RowAt K H' z (List.replicate n b) → Q z H') : rRepA K v (.int (n : Int)) H Q := by
  obtain ⟨a, us, rfl, ha, bs⟩ := hv
  by_cases h1 : n = 1
  · subst h1
    exact .inl ⟨a, us, rfl, rfl, ha, q _ H (Ex.refl H) ⟨a, us, rfl, ha, bs⟩⟩
  · obtain ⟨u, rfl⟩ : ∃ u, us = [u] := by
      match us, bs.1 with
      | [u], _ => exact ⟨u, rfl⟩
    refine .inr ⟨a, (n : Int), [u], rfl, rfl, ha, (by simp), by omega, by omega, by show 1 ≤ 1000; decide, fun p hp => ?_⟩
    have e : (List.replicate (n : Int).toNat [u]).flatten = List.replicate n u := by
      rw [show (n : Int).toNat = n by omega, List.flatten_replicate_singleton]
    rw [e]
    have np := Ex.new (o := .tup (List.replicate n u)) hp
    refine q _ _ np ⟨p, _, rfl, st_of upd_same, ?_⟩
    obtain ⟨bu, hb1⟩ := bs
    obtain ⟨u', hu', hbe⟩ := hb1 0 b rfl
    cases hu'
    refine ⟨by rw [List.length_replicate, List.length_replicate], fun i c hc => ?_⟩
    rw [List.getElem?_replicate] at hc
    by_cases hi : i < n
    · rw [if_pos hi] at hc
      cases hc
      exact ⟨u, by rw [List.getElem?_replicate, if_pos hi], hbe.ex np⟩
    · rw [if_neg hi] at hc
      cases hc
end HH
set_option maxHeartbeats 4000000
namespace HH
open PySem PySem.Spec PyProof.Rows L2 Evl RZ
def Lk (a e : HH.Row) : Prop := ∃ M, Steps (tag 0 a) M ∧ rowsOf M = e
theorem Lk.rfl' (a : HH.Row) : Lk a a := ⟨tag 0 a, .refl _, tag_snd 0 a⟩
theorem Lk.trans {a b c : HH.Row} (h : Lk a b) (g : Lk b c) : Lk a c := by
  obtain ⟨M, s, rfl⟩ := h
  obtain ⟨N, t, rfl⟩ := g
  have t' := t.map (HH.ixN (M.map (·.1)))
  rw [rl_tag] at t'
  exact ⟨_, s.trans t', rl_rows _ _⟩
theorem rowsOf_app (L M : List Cow) : rowsOf (L ++ M) = rowsOf L ++ rowsOf M := List.map_append
theorem Lk.under {a e : HH.Row} (p q : HH.Row) (h : Lk a e) : Lk (p ++ a ++ q) (p ++ e ++ q) := by
  obtain ⟨M, s, rfl⟩ := h
  have s1 := (s.map (p.length + ·)).under (tag 0 p) (tag (p.length + a.length) q)
  rw [← tag_rl 0 p.length, Nat.add_zero] at s1
  refine ⟨tag 0 p ++ rlL (p.length + ·) M ++ tag (p.length + a.length) q, ?_, ?_⟩
  · rw [tag_app, tag_app, Nat.zero_add, Nat.zero_add, List.length_append]
    exact s1
  · rw [rowsOf_app, rowsOf_app, rl_rows, show rowsOf (tag 0 p) = p from tag_snd 0 p, show rowsOf (tag (p.length + a.length) q) = q from tag_snd _ q]
theorem Lk.app {a e b f : HH.Row} (h : Lk a e) (g : Lk b f) : Lk (a ++ b) (e ++ f) := by
  have h1 := h.under [] b
  have g1 := g.under e []
  rw [List.nil_append, List.nil_append] at h1
  rw [List.append_nil, List.append_nil] at g1
  exact h1.trans g1
theorem Lk.tl {a e : HH.Row} (h : Lk a e) (ht : ∀ b ∈ a, 0 ≤ b.2) : ∀ b ∈ e, 0 ≤ b.2 := by
  obtain ⟨M, s, rfl⟩ := h
  exact tolls_rows (s.tl (good_tag ht).tl)
def EndR (a e : HH.Row) : Prop := ∃ L, Steps (tag 0 a) L ∧ Nf L ∧ rowsOf L = e
theorem EndR.lk {a e : HH.Row} (h : EndR a e) : Lk a e := by
  obtain ⟨L, s, _, r⟩ := h
  exact ⟨L, s, r⟩
theorem EndR.one {a e f : HH.Row} (ht : ∀ b ∈ a, 0 ≤ b.2) (h : EndR a e) (g : EndR a f) : e = f := by
  obtain ⟨L, s, n, rfl⟩ := h
  obtain ⟨M, t, m, rfl⟩ := g
  rw [nf_any (good_tag ht).tl s n t m]
theorem EndR.is {a : HH.Row} (ht : ∀ b ∈ a, 0 ≤ b.2) : ∃ e, EndR a e := by
  obtain ⟨N, s, n⟩ := nf_is (good_tag ht).tl
  exact ⟨_, N, s, n, rfl⟩
theorem EndR.back {a b e : HH.Row} (h : Lk a b) (g : EndR b e) : EndR a e := by
  obtain ⟨M, s, rfl⟩ := h
  obtain ⟨N, t, n, rfl⟩ := g
  have t' := t.map (HH.ixN (M.map (·.1)))
  rw [rl_tag] at t'
  exact ⟨_, s.trans t', nf_map n, rl_rows _ _⟩
def Jn (a b : HH.Row) : Prop := ∃ e, Lk a e ∧ Lk b e
theorem Jn.same (a : HH.Row) : Jn a a := ⟨a, Lk.rfl' a, Lk.rfl' a⟩
theorem Jn.to {a e : HH.Row} (h : Lk a e) : Jn a e := ⟨e, h, Lk.rfl' e⟩
theorem Jn.of {a e : HH.Row} (h : Lk e a) : Jn a e := ⟨a, Lk.rfl' a, h⟩
theorem Jn.app {a b c d : HH.Row} (h : Jn a b) (g : Jn c d) : Jn (a ++ c) (b ++ d) := by
  obtain ⟨e, h1, h2⟩ := h
  obtain ⟨f, g1, g2⟩ := g
  exact ⟨e ++ f, h1.app g1, h2.app g2⟩
inductive Jns : List HH.Row → List HH.Row → Prop
  | nil : Jns [] []
  | cons {a b : HH.Row} {rr ss : List HH.Row} : Jn a b → Jns rr ss → Jns (a :: rr) (b :: ss)
theorem Jns.len {rr ss : List HH.Row} (h : Jns rr ss) : rr.length = ss.length := by
  induction h with
  | nil => rfl
  | cons _ _ ih => rw [List.length_cons, List.length_cons, ih]
theorem Jns.of : ∀ {rr ss : List HH.Row}, rr.length = ss.length → (∀ (i : Nat) (a b : HH.Row), rr[i]? = some a → ss[i]? = some b → Jn a b) → Jns rr ss
  | [], [], _, _ => .nil
  | a :: rr, b :: ss, hl, h => .cons (h 0 a b rfl rfl) (Jns.of (by simpa using hl) fun i x y hx hy => h (i + 1) x y hx hy)
theorem Jn.flat : ∀ {rr ss : List HH.Row}, Jns rr ss → Jn rr.flatten ss.flatten
  | _, _, .nil => Jn.same []
  | _, _, .cons h t => by
    rw [List.flatten_cons, List.flatten_cons]
    exact h.app (Jn.flat t)
theorem Jn.ends {a b x y : HH.Row} (ht : ∀ c ∈ a, 0 ≤ c.2) (hu : ∀ c ∈ b, 0 ≤ c.2) (h : Jn a b) (hx : EndR a x) (hy : EndR b y) : y = x := by
  obtain ⟨e, h1, h2⟩ := h
  obtain ⟨z, hz⟩ := EndR.is (h1.tl ht)
  rw [EndR.one ht hx (hz.back h1), EndR.one hu hy (hz.back h2)]
def JnC (L M : List Cow) : Prop := ∃ N, Steps L N ∧ Steps M N
end HH
set_option maxHeartbeats 4000000
namespace HH
open PySem PySem.Spec PyProof.Rows L2 Evl RZ
structure Moved (K : PySem.W.Frag) (H : Hp) (q : Addr) (rs : HH.Row) (L : List Cow) : Prop where
  at_ : LastAt K H q L
  jn : JnC (tag 0 rs) L
  ids : (L.map (·.1)).Perm (List.range rs.length)
  tl : ∀ x ∈ L, 0 ≤ x.2.2
theorem Moved.ex {K : PySem.W.Frag} {H H' : Hp} {q : Addr} {rs : HH.Row} {L : List Cow} (h : Moved K H q rs L) (e : Ex H H') : Moved K H' q rs L := ⟨h.at_.mono e, h.jn, h.ids, h.tl⟩
end HH
set_option maxHeartbeats 4000000
namespace HH
open PySem PySem.Spec PyProof.Rows L2 Evl RZ
end HH
set_option maxHeartbeats 4000000
namespace HH
open PySem PySem.Spec PyProof.Rows L2 Evl RZ
section
variable {K : PySem.W.Frag} {σ : L2.St} {H H' : Hp} {ta tb te : TE} {v : V}
end
structure TabAt (K : PySem.W.Frag) (H : Hp) (t : Addr) (ll : List (List Nat)) : Prop where
  ex : ∃ (us : List V), SqL K H t us ∧ us.length = ll.length ∧ ∀ (i : Nat) (l : List Nat), ll[i]? = some l → ∃ p, us[i]? = some (.ref p) ∧ SqL K H p (natsV l)
theorem TabAt.mono {K : PySem.W.Frag} {H H' : Hp} {t : Addr} {ll : List (List Nat)} (h : TabAt K H t ll) (e : Ex H H') : TabAt K H' t ll := by
  obtain ⟨us, h1, h2, h3⟩ := h.ex
  exact ⟨us, ex_l e h1, h2, fun i l hl => by
    obtain ⟨p, g1, g2⟩ := h3 i l hl
    exact ⟨p, g1, ex_l e g2⟩⟩
theorem TabAt.of {K : PySem.W.Frag} {H0 H : Hp} {t : Addr} {us : List V} {ll : List (List Nat)} (h : SqL K H t us) (f : ListsF H0 H us ll) : TabAt K H t ll := ⟨us, h, f.len, fun i l hl => by
  obtain ⟨p, g1, _, g3⟩ := f.at' i l hl
  exact ⟨p, g1, sq_of g3⟩⟩
section
variable {K : PySem.W.Frag} {σ : L2.St} {H H' : Hp} {ta tb te : TE} {v : V}
theorem TabAt.row {t : Addr} {ll : List (List Nat)} {i : Nat} {l : List Nat} (h : TabAt K H t ll) (hl : ll[i]? = some l) (h1 : Ev ta σ H (.ref t)) (h2 : Ev tb σ H (.int (i : Int))) : ∃ p, Ev (tOp (rIxL K) ta tb) σ H (.ref p) ∧ SqL K H p (natsV l) := by
  obtain ⟨us, g1, g2, g3⟩ := h.ex
  obtain ⟨p, q1, q2⟩ := g3 i l hl
  exact ⟨p, ev_op h1 h2 (rv_ixL (K := K) g1 (atI_nat q1)), q2⟩
end
end HH
set_option maxHeartbeats 4000000
namespace HH
open PySem PySem.Spec PyProof.Rows L2 Evl RZ
def clsB : Stmt → List Stmt
  | .ClassDef (body := l) .. => l
  | _ => []
structure HasX (P : Program) (w : World) (K : PySem.W.Frag) (mg : Str → Option Value) (base : Heap) (k : Nat) (x : Str) (ps : List Str) (sp : Sp) (f : Addr) (fd : FuncData) : Prop where
  G : FnOk P w K mg base (L2.CX P w) k f fd ps sp
  g : mg x = some (.ref f)
  kp : PySem.W.keepIn K (.ref f) = true
  b : Binds K fd ps []
structure HasE (P : Program) (w : World) (K : PySem.W.Frag) (mg : Str → Option Value) (base : Heap) (bk : Bk) (x f : Str) (C fI : Addr) (fd : FuncData) : Prop where
  T : ExcTy K bk f C fI
  F : FnOk P w K mg base CX0 1 fI fd ["self", f] (spIni C f)
  b : Binds K fd ["self", f] []
  g : mg x = some (.ref C)
theorem Has.imp {P : Program} {w : World} {K : PySem.W.Frag} {mg : Str → Option Value} {base : Heap} {k : Nat} {x : Str} {ps : List Str} {sp sp' : Sp} {f : Addr} {fd : FuncData} (h : Has P w K mg base k x ps sp f fd) (i : ∀ vs H Q E, sp' vs H Q E → sp vs H Q E) : Has P w K mg base k x ps sp' f fd := ⟨h.G.imp i, h.g, h.kp, h.b⟩
section
variable {K : PySem.W.Frag} {σ : L2.St} {H : Hp} {ta : TA} {te : TE} {C a d : Addr} {fs : List (Str × V)}
end
end HH
set_option maxHeartbeats 4000000
namespace HH
open PySem PySem.Spec PyProof.Rows L2 Evl RZ
end HH
set_option maxHeartbeats 4000000
namespace HH
open PySem PySem.Spec PyProof.Rows L2 Evl RZ
end HH
set_option maxHeartbeats 4000000
namespace HH
open PySem PySem.Spec PyProof.Rows L2 Evl RZ
end HH
set_option maxHeartbeats 4000000
namespace HH
open PySem PySem.Spec PyProof.Rows L2 Evl
structure Keeps (rs : HH.Row) (o : List Nat) : Prop where
  ids : o.Perm (List.range rs.length)
  kp : ∀ E B, Steps (tag 0 rs) E → Nf E → FSteps (tag 0 rs) B → Ff B → ∀ i j, i < j → j < rs.length → bef (E.map (·.1)) j i = false → bef (B.map (·.1)) j i = false → bef o j i = false
theorem Keeps.nd {rs : HH.Row} {o : List Nat} (k : Keeps rs o) : o.Nodup := k.ids.nodup_iff.mpr List.nodup_range
theorem Keeps.len {rs : HH.Row} {o : List Nat} (k : Keeps rs o) : o.length = rs.length := by rw [k.ids.length_eq, List.length_range]
theorem run_keeps {rs : HH.Row} {L : List Cow} {ds : List Deed} (tl : ∀ x ∈ rs, 0 ≤ x.2) (r : MRun (tag 0 rs) L ds) : Keeps rs (L.map (·.1)) := ⟨run_ids tl r, fun E B sE nE sB nB i j h1 h2 h3 h4 => kept_stays tl r sE nE sB nB h1 h2 h3 h4⟩
end HH
set_option maxHeartbeats 4000000
namespace HH
open PySem PySem.Spec PyProof.Rows L2 Evl
structure CellP (H0 H : Hp) (as : List Addr) (t p : Nat → Int) : Prop where
  nd : as.Nodup
  old : ∀ a ∈ as, H0 a = none
  at' : ∀ (i : Nat) (a : Addr), as[i]? = some a → H a = some (.lst [.int (t i), .int (p i)])
theorem CellP.ex {H0 H H' : Hp} {as : List Addr} {t p : Nat → Int} (h : CellP H0 H as t p) (e : Ex H H') : CellP H0 H' as t p := ⟨h.nd, h.old, fun i a ha => e _ _ (h.at' i a ha)⟩
theorem CellP.app {H0 H : Hp} {as : List Addr} {T : Addr} (h : CellP H0 H as (fun _ => 0) (fun _ => 0)) (h0 : H0 T = none) (hT : H T = none) : CellP H0 (upd H T (.lst [.int 0, .int 0])) (as ++ [T]) (fun _ => 0) (fun _ => 0) := by
  have nT : T ∉ as := fun m => by
    obtain ⟨i, hi⟩ := List.getElem?_of_mem m
    rw [h.at' i T hi] at hT
    cases hT
  refine ⟨List.nodup_append.mpr ⟨h.nd, by simp, fun x hx y hy e => nT (by rw [List.mem_singleton] at hy; rw [← hy, ← e]; exact hx)⟩, fun a ha => ?_, fun i a ha => ?_⟩
  · rcases List.mem_append.mp ha with m | m
    · exact h.old a m
    · rw [List.mem_singleton.mp m]
      exact h0
  · by_cases c : i < as.length
    · rw [List.getElem?_append_left c] at ha
      rw [upd_ne (fun z => nT (by rw [← z]; exact List.mem_of_getElem? ha))]
      exact h.at' i a ha
    · have hlt : i < (as ++ [T]).length := (List.getElem?_eq_some_iff.mp ha).1
      rw [List.length_append] at hlt
      have hlt : i < as.length + 1 := hlt
      have e : i = as.length := by omega
      rw [e, List.getElem?_append_right (Nat.le_refl _), Nat.sub_self] at ha
      cases ha
      exact upd_same
theorem CellP.ne {H0 H : Hp} {as : List Addr} {t p : Nat → Int} (h : CellP H0 H as t p) {i k : Nat} {a c : Addr} (ha : as[i]? = some a) (hc : as[k]? = some c) (n : k ≠ i) : c ≠ a := fun z => by
  subst z
  have h1 := (List.getElem?_eq_some_iff.mp ha).1
  exact n ((List.getElem?_inj h1 h.nd).mp (ha.trans hc.symm)).symm
section
variable {K : PySem.W.Frag} {σ : L2.St} {H : Hp} {te : TE} {v : V} {Q : VK} {j : Nat} {vs : List Nat}
end
section
variable {K : PySem.W.Frag} {σ : L2.St} {H H0 : Hp} {tf tx tv : TE} {D : Ends} {fa a : Addr} {as : List Addr} {t p : Nat → Int} {i : Nat} {d : Int}
end
end HH
set_option maxHeartbeats 4000000
namespace HH
open PySem PySem.Spec PyProof.Rows L2 Evl
section
variable {e : List Nat} {rs ps : HH.Row} {i j n : Nat}
end
section
variable {K : PySem.W.Frag} {σ : L2.St} {H : Hp} {te t1 t2 : TE} {o : Addr} {l : List Nat} {j : Nat} {vs : List Nat}
end
end HH
set_option maxHeartbeats 4000000
namespace HH
open PySem PySem.Spec PyProof.Rows L2
section
variable {w : World} {P : Program} {s : Shared} {A : Around} {E : Value → Shared → Prop}
end
section
variable {X : Cx}
end
end HH
set_option maxHeartbeats 4000000
namespace HH
open PySem PySem.Spec PyProof.Rows L2 Evl RZ
end HH
set_option maxHeartbeats 4000000
namespace HH
open PySem PySem.Spec PyProof.Rows L2 Evl RZ
structure Cells (H0 H : Hp) (as : List Addr) (ll : Nat → List Nat) : Prop where
  nd : as.Nodup
  old : ∀ a ∈ as, H0 a = none
  at' : ∀ (i : Nat) (a : Addr), as[i]? = some a → H a = some (.lst (natsV (ll i)))
theorem Cells.ex {H0 H H' : Hp} {as : List Addr} {ll : Nat → List Nat} (h : Cells H0 H as ll) (e : Ex H H') : Cells H0 H' as ll := ⟨h.nd, h.old, fun i a ha => e _ _ (h.at' i a ha)⟩
theorem Cells.congr {H0 H : Hp} {as : List Addr} {ll lm : Nat → List Nat} (h : Cells H0 H as ll) (e : ∀ i, i < as.length → lm i = ll i) : Cells H0 H as lm := ⟨h.nd, h.old, fun i a ha => by
  rw [e i (List.getElem?_eq_some_iff.mp ha).1]
  exact h.at' i a ha⟩
theorem Cells.put {H0 H : Hp} {as : List Addr} {ll lm : Nat → List Nat} {i : Nat} {a : Addr} {l : List Nat} (h : Cells H0 H as ll) (ha : as[i]? = some a) (h1 : lm i = l) (h2 : ∀ k, k ≠ i → lm k = ll k) : Cells H0 (upd H a (.lst (natsV l))) as lm := ⟨h.nd, h.old, fun k c hc => by
  by_cases z : k = i
  · subst z
    rw [ha] at hc
    cases hc
    rw [h1]
    exact upd_same
  · have ne : c ≠ a := fun e => by
      subst e
      obtain ⟨g1, g2⟩ := List.getElem?_eq_some_iff.mp hc
      exact z ((List.getElem?_inj g1 h.nd).mp (hc.trans ha.symm))
    rw [upd_ne ne, h2 k z]
    exact h.at' k c hc⟩
theorem Cells.app {H0 H : Hp} {as : List Addr} {p : Addr} (h : Cells H0 H as fun _ => []) (h0 : H0 p = none) (hp : H p = none) : Cells H0 (upd H p (.lst [])) (as ++ [p]) fun _ => [] := by
  have np : p ∉ as := fun z => by
    obtain ⟨i, hi⟩ := List.mem_iff_getElem?.mp z
    have := h.at' i p hi
    rw [hp] at this
    cases this
  refine ⟨?_, fun a ha => ?_, fun i a ha => ?_⟩
  · rw [List.nodup_append]
    exact ⟨h.nd, List.pairwise_singleton _ p, fun a ha b hb e => np (by rw [List.mem_singleton.mp hb] at e; rw [← e]; exact ha)⟩
  · rcases List.mem_append.mp ha with ha | ha
    · exact h.old a ha
    · rw [List.mem_singleton.mp ha]
      exact h0
  · by_cases hi : i < as.length
    · rw [List.getElem?_append_left hi] at ha
      have ne : a ≠ p := fun e => np (by rw [← e]; exact List.mem_of_getElem? ha)
      rw [upd_ne ne]
      exact h.at' i a ha
    · rw [List.getElem?_append_right (by omega)] at ha
      match e : i - as.length, ha with
      | 0, ha =>
        cases ha
        exact upd_same
      | k + 1, ha => cases ha
section
variable {K : PySem.W.Frag} {σ : L2.St} {H : Hp} {D : Ends} {tz tu : TS}
end
end HH
set_option maxHeartbeats 4000000
namespace HH
open PySem PySem.Spec PyProof.Rows L2 Evl RZ
structure WantsD (rs : HH.Row) (who m : Nat) (kvs : List (Key × V)) : Prop where
  val : ∀ j : Nat, who ≤ j + m → j < who → valV kvs (.inl (j : Int)) = some (.int (barN rs j (who - j - 1) + 1))
  key : ∀ kv ∈ kvs, ∃ j : Nat, kv.1 = .inl (j : Int) ∧ j < who ∧ who ≤ j + m
  len : kvs.length ≤ m
theorem WantsD.nil (rs : HH.Row) (who : Nat) : WantsD rs who 0 [] := ⟨fun j h1 h2 => by omega, (fun kv h => nomatch h), Nat.le_refl _⟩
theorem WantsD.put {rs : HH.Row} {who m : Nat} {kvs : List (Key × V)} (w : WantsD rs who m kvs) (hm : m < who) : WantsD rs who (m + 1) (putK kvs (.inl ((who - 1 - m : Nat) : Int)) (.int (barN rs (who - 1 - m) m + 1))) := by
  have no : valV kvs (.inl ((who - 1 - m : Nat) : Int)) = none := by
    cases c : valV kvs (.inl ((who - 1 - m : Nat) : Int)) with
    | none => rfl
    | some x =>
      exfalso
      have z := valV_any (Sum.inl ((who - 1 - m : Nat) : Int)) kvs
      rw [c] at z
      obtain ⟨kv, hkv, e⟩ := List.any_eq_true.mp z
      obtain ⟨j, e2, h1, h2⟩ := w.key kv hkv
      have e3 : kv.1 = .inl ((who - 1 - m : Nat) : Int) := of_decide_eq_true e
      rw [e2] at e3
      injection e3 with e3
      omega
  refine ⟨fun j h1 h2 => ?_, fun kv hkv => ?_, ?_⟩
  · rw [valV_put]
    by_cases c : j = who - 1 - m
    · rw [if_pos (by rw [c]), c, show who - (who - 1 - m) - 1 = m by omega]
    · rw [if_neg (fun z => c (by injection z with z; omega))]
      exact w.val j (by omega) h2
  · rw [putK_new _ no] at hkv
    rcases List.mem_append.mp hkv with h | h
    · obtain ⟨j, a, b, c⟩ := w.key kv h
      exact ⟨j, a, b, by omega⟩
    · rw [List.mem_singleton.mp h]
      exact ⟨who - 1 - m, rfl, by omega, by omega⟩
  · rw [putK_new _ no, List.length_append]
    have := w.len
    show kvs.length + 1 ≤ _
    omega
end HH
set_option maxHeartbeats 4000000
namespace HH
open PySem PySem.Spec PyProof.Rows L2 Evl RZ
section
variable {K : PySem.W.Frag} {σ : L2.St} {H H' : Hp} {ta tb te : TE} {v : V} {Q : VK}
def firsts (ps : HH.Row) (who : Int) : List Int := (ps.filter fun b => decide (b.2 = who)).map (·.1)
theorem el_firsts {ps : HH.Row} {i j iw : Nat} {vs : List Nat} {who : Int} (h : ∀ H1, Ex H H1 → ∀ Q : VK, (∀ (a : Addr) (us : List V) (H2 : Hp), Ex H1 H2 → (∀ H3, Ex H2 H3 → SqL K H3 a us) → Beasts K H2 us ps → Q (.ref a) H2) → te σ H1 Q) (hl : ps.length ≤ 2000) (hw : ∀ x y, wipe (((wipe σ vs).set i (some x)).set j (some y)) vs = wipe σ vs)
    (h1 : ∀ x y : V, (((wipe σ vs).set i (some x)).set j (some y))[i]? = some (some x)) (h2 : ∀ x y : V, (((wipe σ vs).set i (some x)).set j (some y))[j]? = some (some y)) (h3 : ∀ x y : V, (((wipe σ vs).set i (some x)).set j (some y))[iw]? = some (some (.int who))) :
    EvL (tLc (iList K te) (gTup K 2 (gCons (gName i) (gCons (gName j) gNil))) (tTest (tOp rEq (tVar j) (tVar iw))) (tVar i) vs) σ H ((firsts ps who).map V.int) := fun H0 e0 Q q => by
  refine h H0 e0 _ fun a us H1 e1 sq bs => ⟨a, rfl, ⟨us, sq H1 (Ex.refl H1)⟩, fun D hD => ?_⟩
  refine in_it (walk_list (xs := us)) (fun k H2 => Ex H1 H2 ∧ H2 D = some (.lst ((firsts (ps.take k) who).map V.int))) ⟨Ex.new hD, upd_same⟩ (fun k H2 _ z => sq H2 z.1) (fun k x H2 H3 hk z y => ?_) (fun H2 z => ?_)
  · obtain ⟨rfl, hx⟩ := y
    obtain ⟨z1, z2⟩ := z
    have hk' : k < ps.length := by rw [← bs.1]; exact hk
    obtain ⟨u, hu, pp, rfl, hpp⟩ := bs.2 k ps[k] (List.getElem?_eq_getElem hk')
    rw [hx] at hu
    cases hu
    refine ⟨pp, _, rfl, ex_t z1 hpp, rfl, _, _, rfl, _, _, rfl, rfl, hw _ _, ?_⟩
    have et : firsts (ps.take (k + 1)) who = firsts (ps.take k) who ++ (if ps[k].2 = who then [ps[k].1] else []) := by
      unfold firsts
      rw [List.take_add_one, List.getElem?_eq_getElem hk', List.filter_append, List.map_append]
      congr 1
      by_cases c : ps[k].2 = who
      · simp [c]
      · simp [c]
    have ln : (firsts (ps.take k) who).length ≤ k := by
      unfold firsts
      rw [List.length_map]
      exact Nat.le_trans (List.length_filter_le _ _) (by rw [List.length_take]; omega)
    refine ⟨_, h2 _ _, _, h3 _ _, rfl, _, rfl, ite2 (fun c => ?_) (fun c => ?_)⟩
    · have c' : ps[k].2 = who := by
        have := of_decide_eq_true c
        injection this
      refine ⟨_, h1 _ _, _, z2, sz_lt (by rw [List.length_map]; omega), Ex.mut z1 hD, ?_⟩
      rw [upd_same, et, if_pos c', List.map_append]
      rfl
    · have c' : ps[k].2 ≠ who := fun z => c (decide_eq_true (by rw [z]))
      refine ⟨z1, ?_⟩
      rw [et, if_neg c', List.append_nil]
      exact z2
  · obtain ⟨z1, z2⟩ := z
    rw [bs.1, List.take_length] at z2
    exact q D H2 (fresh_back e1 hD) (e1.trans z1) z2
end
end HH
set_option maxHeartbeats 4000000
namespace HH
open PySem PySem.Spec PyProof.Rows L2 Evl RZ
section
variable {K : PySem.W.Frag} {σ : L2.St} {H : Hp} {te ta tb : TE} {t : TT}
end
end HH
namespace HH
open PySem PySem.Spec PyProof.Rows L2 Evl RZ
section
variable {K : PySem.W.Frag} {σ : L2.St} {H : Hp} {te : TE}
theorem eu_tupV {l : Addr} {xs : List V} (h : Ev te σ H (.ref l)) (hl : SqL K H l xs) : EvU (tThen te (kTup K)) σ H xs := fun H1 e Q q => h H1 e _ fun H2 e2 => .inl ⟨l, xs, rfl, ex_l (e.trans e2) hl, fun p hp => q p _ (fresh_back e2 hp) (e2.trans (Ex.new hp)) upd_same⟩
end
end HH
namespace HH
open PySem PySem.Spec PyProof.Rows L2 Evl RZ
end HH
namespace HH
open PySem PySem.Spec PyProof.Rows L2 Evl RZ
end HH
set_option maxHeartbeats 4000000
namespace HH
open PySem PySem.Spec PyProof.Rows L2 Evl
end HH
set_option maxHeartbeats 4000000
namespace HH
open PySem PySem.Spec PyProof.Rows L2 Evl
end HH
set_option maxHeartbeats 4000000
namespace HH
open PySem PySem.Spec PyProof.Rows L2 Evl
def FrzT (H : Hp) (a : Addr) (xs : List V) : Prop := ∃ o, PlainT o ∧ H a = some (.frz o (.tup xs))
theorem FrzT.ex {H H' : Hp} {a : Addr} {xs : List V} (h : FrzT H a xs) (e : Ex H H') : FrzT H' a xs := by
  obtain ⟨o, h1, h2⟩ := h
  exact ⟨o, h1, e _ _ h2⟩
theorem FrzT.exB {H H' : Hp} {p a : Addr} {xs : List V} {n : Nat} (h : FrzT H a xs) (e : ExB p H H') (hb : Bx H p n) : FrzT H' a xs := by
  obtain ⟨o, h1, h2⟩ := h
  obtain ⟨l, hl⟩ := hb.lst
  refine ⟨o, h1, e _ _ (fun z => ?_) h2⟩
  rw [z, hl] at h2
  cases h2
theorem FrzT.sq {K : PySem.W.Frag} {H : Hp} {a : Addr} {xs : List V} (h : FrzT H a xs) : SqT K H a xs := by
  obtain ⟨o, _, h2⟩ := h
  exact .inl (.inr ⟨o, h2⟩)
section
variable {K : PySem.W.Frag} {σ : L2.St} {H : Hp} {te t1 t2 : TE} {tt : TT} {o : Addr} {l : List Nat} {j : Nat} {vs : List Nat}
end
section
variable {K : PySem.W.Frag} {σ : L2.St} {H : Hp} {te t1 : TE} {o : Addr} {l : List Nat} {j : Nat} {vs : List Nat}
end
theorem natsV_int (l : List Nat) : natsV l = (l.map fun (x : Nat) => (x : Int)).map V.int := by
  rw [List.map_map]
  rfl
end HH
set_option maxHeartbeats 4000000
namespace HH
open PySem PySem.Spec PyProof.Rows L2 Evl
def SqA (K : PySem.W.Frag) (H : Hp) (a : Addr) (xs : List V) : Prop := SqL K H a xs ∨ SqT K H a xs
theorem SqA.ex {K : PySem.W.Frag} {H H' : Hp} {a : Addr} {xs : List V} (h : SqA K H a xs) (e : Ex H H') : SqA K H' a xs := h.imp (ex_l e) (ex_t e)
end HH
namespace L2
open PySem PySem.Spec PyProof.Rows
structure HeldX (P : Program) (w : World) (K : PySem.W.Frag) (mg : Str → Option Value) (base : Heap) (k : Nat) (f : Addr) (sp : Sp) : Prop where
  ex : ∃ (fd : FuncData) (ps : List Str), FnOk P w K mg base (L2.CX P w) k f fd ps sp ∧ PySem.W.keepIn K (.ref f) = true ∧ Binds K fd ps []
section
variable {X : Cx} {k i : Nat} {E : L2.St → XK} {x : Str} {p pos : Pos} {e : Expr} {es : List Expr} {t : TA}
end
end L2
namespace HH
open PySem PySem.Spec PyProof.Rows L2 Evl
abbrev ZD := Bool × Int
def DeedZ (K : PySem.W.Frag) (H : Hp) (v : V) (d : ZD) : Prop := ∃ p, v = .ref p ∧ SqT K H p [.str (wordOf d.1), .int d.2]
theorem DeedZ.ex {K : PySem.W.Frag} {H H' : Hp} {v : V} {d : ZD} (h : DeedZ K H v d) (e : Ex H H') : DeedZ K H' v d := by
  obtain ⟨p, h1, h2⟩ := h
  exact ⟨p, h1, ex_t e h2⟩
abbrev DeedsZ (K : PySem.W.Frag) (H : Hp) : List V → List ZD → Prop := All2 (DeedZ K H)
theorem DeedsZ.ex' {K : PySem.W.Frag} {H H' : Hp} {us : List V} {ds : List ZD} (h : DeedsZ K H us ds) (e : Ex H H') : DeedsZ K H' us ds := All2.mono (fun _ _ r => r.ex e) h
theorem DeedsZ.exB' {K : PySem.W.Frag} {H H' : Hp} {us : List V} {ds : List ZD} {q : Addr} {ys : List V} (e : ExB q H H') (hq : H q = some (.lst ys)) (h : DeedsZ K H us ds) : DeedsZ K H' us ds := All2.mono (fun v d g => by
  obtain ⟨p, h1, h2⟩ := g
  exact ⟨p, h1, e.t hq h2⟩) h
abbrev StZ := HH.Row × List Nat
def Picked (K : PySem.W.Frag) (H : Hp) (pick : Bool) (v : V) (s : StZ) : Prop := if pick then RowAt K H v s.1 else ∃ t, v = .ref t ∧ SqT K H t (natsV s.2)
theorem Picked.ex {K : PySem.W.Frag} {H H' : Hp} {pick : Bool} {v : V} {s : StZ} (h : Picked K H pick v s) (e : Ex H H') : Picked K H' pick v s := by
  unfold Picked at h ⊢
  cases pick with
  | true => exact RowAt.ex h e
  | false =>
    obtain ⟨t, h1, h2⟩ := h
    exact ⟨t, h1, ex_t e h2⟩
end HH
namespace HH
open PySem PySem.Spec PyProof.Rows L2 Evl
section
variable {K : PySem.W.Frag} {σ : L2.St} {H : Hp} {te ta tb tc : TE} {D : Ends}
end
end HH
namespace HH
open PySem PySem.Spec PyProof.Rows L2 Evl
end HH
namespace HH
open PySem PySem.Spec PyProof.Rows L2 Evl
section
variable {K : PySem.W.Frag} {σ : L2.St} {H : Hp} {te to ta tb tc : TE} {D : Ends}
end
end HH
set_option maxHeartbeats 4000000
namespace HH
open PySem PySem.Spec PyProof.Rows L2 Evl RZ
section
variable {K : PySem.W.Frag} {σ : L2.St} {H : Hp} {te ta tb tc td : TE} {D : Ends}
end
end HH
set_option maxHeartbeats 4000000
namespace HH
open PySem PySem.Spec PyProof.Rows L2 Evl RZ
def DueV (K : PySem.W.Frag) (H : Hp) (y : V) : Nat ⊕ StZ → Prop
  | .inr s => ∃ (q : Addr) (v' : V) (t : Addr), y = .ref q ∧ H q = some (.tup [v', .ref t]) ∧ RowAt K H v' s.1 ∧ SqT K H t (natsV s.2)
  | .inl k => y = .int (k : Int)
def ToldV (K : PySem.W.Frag) (H : Hp) (pick : Bool) (y : V) : Nat ⊕ StZ → Prop
  | .inr s => Picked K H pick y s
  | .inl k => y = .int (k : Int)
theorem ToldV.ex {K : PySem.W.Frag} {H H' : Hp} {pick : Bool} {y : V} {r : Nat ⊕ StZ} (h : ToldV K H pick y r) (e : Ex H H') : ToldV K H' pick y r := by
  cases r with
  | inl k => exact h
  | inr s => exact Picked.ex h e
theorem DueV.ex {K : PySem.W.Frag} {H H' : Hp} {y : V} {r : Nat ⊕ StZ} (h : DueV K H y r) (e : Ex H H') : DueV K H' y r := by
  cases r with
  | inl k => exact h
  | inr s =>
    obtain ⟨q, v', t, h1, h2, h3, h4⟩ := h
    exact ⟨q, v', t, h1, e _ _ h2, h3.ex e, ex_t e h4⟩
section
variable {K : PySem.W.Frag} {σ : L2.St} {H : Hp} {te ta tb tc td : TE} {D : Ends}
end
end HH
namespace HH
open PySem PySem.Spec PyProof.Rows L2 Evl RZ
section
variable {K : PySem.W.Frag} {σ : L2.St} {H : Hp} {te ta tb tc td : TE} {D : Ends}
end
end HH
namespace HH
open PySem PySem.Spec PyProof.Rows L2 Evl RZ
end HH
namespace HH
open PySem PySem.Spec PyProof.Rows L2 Evl RZ
theorem q_par2 {i j : Nat} {ta tb : TE} {tz : TS} {D : Ends} {σ : L2.St} {H : Hp} (h : ta σ H fun x H1 => tb σ H1 fun y H2 => ∃ v w, [x, y] = [v, w] ∧ tz D ((σ.set i (some v)).set j (some w)) H2) : tSeq (tPar i j (tCons ta (tCons tb tNil))) tz D σ H := h
end HH
set_option maxHeartbeats 4000000
namespace HH
open PySem PySem.Spec PyProof.Rows L2 Evl RZ
def StrFit (s : Str) : Prop := PyData.strOk s = true ∧ (reprText s).length ≤ 40
def atomOk (c : Nat) : V → PyData → Prop
  | .non, .none => True
  | .bl b, .bool b' => b = b'
  | .int i, .int i' => i = i' ∧ i.natAbs ≤ 10 ^ 30 + c
  | .str s, .str s' => s = s' ∧ StrFit s
  | _, _ => False
def DaS (R : V → PyData → Prop) (xs : List V) (ds : List PyData) : Prop := xs.length = ds.length ∧ ∀ (i : Nat) (x : V) (e : PyData), xs[i]? = some x → ds[i]? = some e → R x e
def Da (P : Addr → Prop) (K : PySem.W.Frag) (c : Nat) (H : Hp) : Nat → V → PyData → Prop
  | 0, v, d => atomOk c v d
  | k + 1, v, d => atomOk c v d ∨ ∃ (a : Addr) (xs : List V) (ds : List PyData), v = .ref a ∧ ((¬ P a ∧ H a = some (.lst xs) ∧ d = .list ds) ∨ (SqT K H a xs ∧ d = .tuple ds)) ∧ DaS (Da P K c H k) xs ds
section
variable {P : Addr → Prop} {K : PySem.W.Frag} {c : Nat} {H H' : Hp}
theorem Da.ex (e : Ex H H') : ∀ {k : Nat} {v : V} {d : PyData}, Da P K c H k v d → Da P K c H' k v d
  | 0, _, _, h => h
  | k + 1, _, _, .inl h => .inl h
  | k + 1, _, _, .inr ⟨a, xs, ds, h1, h2, h3, h4⟩ => .inr ⟨a, xs, ds, h1, h2.imp (fun ⟨q1, q2, q3⟩ => ⟨q1, e _ _ q2, q3⟩) (fun ⟨q1, q2⟩ => ⟨ex_t e q1, q2⟩), h3, fun i x y hx hy => Da.ex e (h4 i x y hx hy)⟩
theorem Da.exB {p : Addr} {ys : List V} (hP : P p) (e : ExB p H H') (hp : H p = some (.lst ys)) : ∀ {k : Nat} {v : V} {d : PyData}, Da P K c H k v d → Da P K c H' k v d
  | 0, _, _, h => h
  | k + 1, _, _, .inl h => .inl h
  | k + 1, _, _, .inr ⟨a, xs, ds, h1, h2, h3, h4⟩ => .inr ⟨a, xs, ds, h1, h2.imp (fun ⟨q1, q2, q3⟩ => ⟨q1, e _ _ (fun z => q1 (by rw [z]; exact hP)) q2, q3⟩) (fun ⟨q1, q2⟩ => ⟨e.t hp q1, q2⟩), h3, fun i x y hx hy => Da.exB hP e hp (h4 i x y hx hy)⟩
theorem Da.sub {P' : Addr → Prop} (hs : ∀ a, P' a → P a) : ∀ {k : Nat} {v : V} {d : PyData}, Da P K c H k v d → Da P' K c H k v d
  | 0, _, _, h => h
  | k + 1, _, _, .inl h => .inl h
  | k + 1, _, _, .inr ⟨a, xs, ds, h1, h2, h3, h4⟩ => .inr ⟨a, xs, ds, h1, h2.imp (fun ⟨q1, q2, q3⟩ => ⟨fun z => q1 (hs a z), q2, q3⟩) (fun q => q), h3, fun i x y hx hy => Da.sub hs (h4 i x y hx hy)⟩
theorem Da.up : ∀ {k : Nat} {v : V} {d : PyData}, Da P K c H k v d → Da P K c H (k + 1) v d
  | 0, _, _, h => .inl h
  | k + 1, _, _, .inl h => .inl h
  | k + 1, _, _, .inr ⟨a, xs, ds, h1, h2, h3, h4⟩ => .inr ⟨a, xs, ds, h1, h2, h3, fun i x y hx hy => Da.up (h4 i x y hx hy)⟩
theorem Da.ups {k : Nat} {v : V} {d : PyData} (h : Da P K c H k v d) : ∀ j, Da P K c H (k + j) v d
  | 0 => h
  | j + 1 => (Da.ups h j).up
theorem Da.to {k k' : Nat} {v : V} {d : PyData} (h : Da P K c H k v d) (e : k ≤ k') : Da P K c H k' v d := by
  have := h.ups (k' - k)
  rw [show k + (k' - k) = k' by omega] at this
  exact this
theorem atomOk.cc {c' : Nat} (e : c ≤ c') {v : V} {d : PyData} (h : atomOk c v d) : atomOk c' v d := by
  unfold atomOk at h
  split at h
  · exact True.intro
  · exact h
  · exact ⟨h.1, by have := h.2; omega⟩
  · exact h
  · exact h.elim
theorem Da.cc {c' : Nat} (e : c ≤ c') : ∀ {k : Nat} {v : V} {d : PyData}, Da P K c H k v d → Da P K c' H k v d
  | 0, _, _, h => atomOk.cc e h
  | k + 1, _, _, .inl h => .inl (atomOk.cc e h)
  | k + 1, _, _, .inr ⟨a, xs, ds, h1, h2, h3, h4⟩ => .inr ⟨a, xs, ds, h1, h2, h3, fun i x y hx hy => Da.cc e (h4 i x y hx hy)⟩
end
mutual
def wtD : PyData → Nat
  | .none => 50
  | .bool _ => 50
  | .int _ => 50
  | .str _ => 50
  | .list xs => 10 + wtDs xs
  | .tuple xs => 10 + wtDs xs
  | .dict _ => 50
def wtDs : List PyData → Nat
  | [] => 0
  | x :: xs => wtD x + 2 + wtDs xs
end
def tyD : PyData → String
  | .none => "NoneType"
  | .bool _ => "bool"
  | .int _ => "int"
  | .str _ => "str"
  | .list _ => "list"
  | .tuple _ => "tuple"
  | .dict _ => "dict"
section
variable {P : Addr → Prop} {K : PySem.W.Frag} {c : Nat} {H H' : Hp}
theorem atomOk.ty {v : V} {d : PyData} (h : atomOk c v d) : TyN K H v (tyD d) := by
  unfold atomOk at h
  split at h
  · exact .non
  · exact .bl _
  · exact .int _
  · exact .str _
  · exact h.elim
theorem Da.ty {k : Nat} {v : V} {d : PyData} (h : Da P K c H k v d) : TyN K H v (tyD d) := by
  cases k with
  | zero => exact atomOk.ty h
  | succ k =>
    rcases h with h | ⟨a, xs, ds, rfl, h2, _⟩
    · exact atomOk.ty h
    · rcases h2 with ⟨_, h2, rfl⟩ | ⟨h2, rfl⟩
      · exact .lst (K := K) (sq_of h2)
      · exact .tup h2
theorem daS_all {R : V → PyData → Prop} (hR : ∀ v d, R v d → Dp K H v d) : ∀ {xs : List V} {ds : List PyData}, DaS R xs ds → DpAll K H xs ds
  | [], [], _ => .nil
  | [], _ :: _, h => by cases h.1
  | _ :: _, [], h => by cases h.1
  | x :: xs, d :: ds, h => .cons (hR _ _ (h.2 0 x d rfl rfl)) (daS_all hR ⟨Nat.succ.inj h.1, fun i y e hy he => h.2 (i + 1) y e hy he⟩)
theorem atomOk.dp {v : V} {d : PyData} (h : atomOk c v d) : Dp K H v d ∧ Nice 0 d := by
  unfold atomOk at h
  split at h
  · exact ⟨.non, by simp [PyData.canLay0], by simp [PyData.depth]⟩
  · subst h
    exact ⟨.bl _, by simp [PyData.canLay0], by simp [PyData.depth]⟩
  · obtain ⟨rfl, _⟩ := h
    exact ⟨.int _, by simp [PyData.canLay0], by simp [PyData.depth]⟩
  · obtain ⟨rfl, h⟩ := h
    exact ⟨.str _, by simp only [PyData.canLay0]; exact h.1, by simp [PyData.depth]⟩
  · exact h.elim
theorem Da.dp : ∀ {k : Nat} {v : V} {d : PyData}, Da P K c H k v d → Dp K H v d
  | 0, _, _, h => (atomOk.dp h).1
  | k + 1, _, _, .inl h => (atomOk.dp h).1
  | k + 1, _, _, .inr ⟨a, xs, ds, h1, h2, h3⟩ => by
    subst h1
    have := daS_all (K := K) (H := H) (fun v d h => Da.dp h) h3
    rcases h2 with ⟨_, h2, rfl⟩ | ⟨h2, rfl⟩
    · exact .lst (sq_of h2) this
    · exact .tup h2 this
end
end HH
set_option maxHeartbeats 4000000
namespace HH
open PySem PySem.Spec PyProof.Rows L2 Evl RZ
def isListB : PyData → Bool
  | .list _ => true
  | _ => false
def isTupB : PyData → Bool
  | .tuple _ => true
  | _ => false
section
variable {P : Addr → Prop} {K : PySem.W.Frag} {c k : Nat} {H H' : Hp} {σ : L2.St} {te ta tb : TE} {D : Ends} {v : V} {d : PyData}
theorem Da.cont (hd : Da P K c H (k + 1) v d) (h : (isListB d || isTupB d) = true) : ∃ (a : Addr) (xs : List V) (ds : List PyData), v = .ref a ∧ ((¬ P a ∧ H a = some (.lst xs) ∧ d = .list ds) ∨ (SqT K H a xs ∧ d = .tuple ds)) ∧ DaS (Da P K c H k) xs ds := by
  rcases hd with hd | hd
  · unfold atomOk at hd
    split at hd
    · cases h
    · cases h
    · cases h
    · cases h
    · exact hd.elim
  · exact hd
end
section
variable {P : Addr → Prop} {K : PySem.W.Frag} {c k : Nat} {H H' : Hp} {σ : L2.St} {te ta tb : TE} {D : Ends} {v : V} {d : PyData}
theorem DaS.ex {xs : List V} {ds : List PyData} (h : DaS (Da P K c H k) xs ds) (e : Ex H H') : DaS (Da P K c H' k) xs ds := ⟨h.1, fun i x y hx hy => (h.2 i x y hx hy).ex e⟩
theorem DaS.exB {p : Addr} {xs ys : List V} {ds : List PyData} (h : DaS (Da P K c H k) xs ds) (hP : P p) (e : ExB p H H') (hp : H p = some (.lst ys)) : DaS (Da P K c H' k) xs ds := ⟨h.1, fun i x y hx hy => (h.2 i x y hx hy).exB hP e hp⟩
theorem DaS.sub {P' : Addr → Prop} {xs : List V} {ds : List PyData} (h : DaS (Da P K c H k) xs ds) (hs : ∀ a, P' a → P a) : DaS (Da P' K c H k) xs ds := ⟨h.1, fun i x y hx hy => (h.2 i x y hx hy).sub hs⟩
theorem DaS.to {c' k' : Nat} {xs : List V} {ds : List PyData} (h : DaS (Da P K c H k) xs ds) (e : k ≤ k') (e2 : c ≤ c') : DaS (Da P K c' H k') xs ds := ⟨h.1, fun i x y hx hy => ((h.2 i x y hx hy).to e).cc e2⟩
theorem DaS.nil {R : V → PyData → Prop} : DaS R [] [] := ⟨rfl, fun i x e h => by simp at h⟩
theorem DaS.cons {R : V → PyData → Prop} {x : V} {d : PyData} {xs : List V} {ds : List PyData} (h : R x d) (g : DaS R xs ds) : DaS R (x :: xs) (d :: ds) := ⟨by rw [List.length_cons, List.length_cons, g.1], fun i y e hy he => by
  cases i with
  | zero =>
    cases hy
    cases he
    exact h
  | succ i => exact g.2 i y e hy he⟩
theorem DaS.app {R : V → PyData → Prop} {xs ys : List V} {ds es : List PyData} (h : DaS R xs ds) (g : DaS R ys es) : DaS R (xs ++ ys) (ds ++ es) := ⟨by rw [List.length_append, List.length_append, h.1, g.1], fun i y e hy he => by
  by_cases hi : i < xs.length
  · rw [List.getElem?_append_left hi] at hy
    rw [List.getElem?_append_left (by rw [← h.1]; exact hi)] at he
    exact h.2 i y e hy he
  · rw [List.getElem?_append_right (by omega)] at hy
    rw [List.getElem?_append_right (by rw [← h.1]; omega)] at he
    rw [← h.1] at he
    exact g.2 _ y e hy he⟩
theorem DaS.set {R : V → PyData → Prop} {xs : List V} {ds : List PyData} {i : Nat} {x : V} {d : PyData} (h : DaS R xs ds) (g : R x d) : DaS R (xs.set i x) (ds.set i d) := ⟨by rw [List.length_set, List.length_set, h.1], fun j y e hy he => by
  rw [List.getElem?_set] at hy he
  by_cases c : i = j
  · rw [if_pos c] at hy he
    by_cases c2 : j < xs.length
    · rw [if_pos (by omega)] at hy
      rw [if_pos (by rw [← h.1]; omega)] at he
      cases hy
      cases he
      exact g
    · rw [if_neg (by omega)] at hy
      cases hy
  · rw [if_neg c] at hy he
    exact h.2 j y e hy he⟩
theorem DaS.erase {R : V → PyData → Prop} {xs : List V} {ds : List PyData} (i : Nat) (h : DaS R xs ds) : DaS R (xs.eraseIdx i) (ds.eraseIdx i) := ⟨by rw [List.length_eraseIdx, List.length_eraseIdx, h.1], fun j y e hy he => by
  rw [List.getElem?_eraseIdx] at hy he
  by_cases c : j < i
  · rw [if_pos c] at hy he
    exact h.2 j y e hy he
  · rw [if_neg c] at hy he
    exact h.2 _ y e hy he⟩
theorem DaS.take {R : V → PyData → Prop} {xs : List V} {ds : List PyData} (n : Nat) (h : DaS R xs ds) : DaS R (xs.take n) (ds.take n) := ⟨by rw [List.length_take, List.length_take, h.1], fun j y e hy he => by
  rw [List.getElem?_take] at hy he
  by_cases c : j < n
  · rw [if_pos c] at hy he
    exact h.2 j y e hy he
  · rw [if_neg c] at hy
    cases hy⟩
theorem DaS.drop {R : V → PyData → Prop} {xs : List V} {ds : List PyData} (n : Nat) (h : DaS R xs ds) : DaS R (xs.drop n) (ds.drop n) := ⟨by rw [List.length_drop, List.length_drop, h.1], fun j y e hy he => by
  rw [List.getElem?_drop] at hy he
  exact h.2 _ y e hy he⟩
theorem DaS.at' {R : V → PyData → Prop} {xs : List V} {ds : List PyData} {i : Nat} (h : DaS R xs ds) (hi : i < xs.length) : ∃ x d, xs[i]? = some x ∧ ds[i]? = some d ∧ R x d := by
  have h2 : i < ds.length := by rw [← h.1]; exact hi
  exact ⟨_, _, List.getElem?_eq_getElem hi, List.getElem?_eq_getElem h2, h.2 i _ _ (List.getElem?_eq_getElem hi) (List.getElem?_eq_getElem h2)⟩
end
end HH
namespace HH
open PySem PySem.Spec PyProof.Rows L2 Evl RZ
section
variable {P : Addr → Prop} {K : PySem.W.Frag} {c k : Nat} {H H' : Hp} {σ : L2.St} {te te2 ta tb : TE} {D : Ends} {v : V} {d : PyData}
end
end HH
namespace HH
open PySem PySem.Spec PyProof.Rows L2 Evl RZ
end HH
namespace HH
open PySem PySem.Spec PyProof.Rows L2 Evl RZ
end HH
namespace HH
open PySem PySem.Spec PyProof.Rows L2 Evl RZ
section
variable {K : PySem.W.Frag} {σ : L2.St} {H : Hp} {t u : TT} {tu tw tz : TS} {D : Ends} {QB : Bool → Hp → Prop}
end
end HH
namespace HH
open PySem PySem.Spec PyProof.Rows L2 Evl RZ
end HH
set_option maxHeartbeats 4000000
namespace HH
open PySem PySem.Spec PyProof.Rows L2 Evl RZ
def ItA (P : Addr → Prop) (K : PySem.W.Frag) (H : Hp) (v : V) : Prop := ∃ d, Da P K 2 H 6 v d ∧ wtD d ≤ 20000
section
variable {P : Addr → Prop} {K : PySem.W.Frag} {c k n : Nat} {H H' : Hp} {σ : L2.St} {te ta tb : TE} {D : Ends} {v : V} {d : PyData} {rs : HH.Row}
theorem ItA.ex (e : Ex H H') (h : ItA P K H v) : ItA P K H' v := by
  obtain ⟨d, h, w⟩ := h
  exact ⟨d, h.ex e, w⟩
theorem ItA.exB {p : Addr} {ys : List V} (hP : P p) (e : ExB p H H') (hp : H p = some (.lst ys)) (h : ItA P K H v) : ItA P K H' v := by
  obtain ⟨d, h, w⟩ := h
  exact ⟨d, h.exB hP e hp, w⟩
theorem ItA.sub {P' : Addr → Prop} (hs : ∀ a, P' a → P a) (h : ItA P K H v) : ItA P' K H v := by
  obtain ⟨d, h, w⟩ := h
  exact ⟨d, h.sub hs, w⟩
end
end HH
namespace HH
end HH
set_option maxHeartbeats 4000000
namespace HH
open PySem PySem.Spec PyProof.Rows L2 Evl
end HH
set_option maxHeartbeats 4000000
namespace HH
open PySem PySem.Spec PyProof.Rows L2 Evl
structure OrdAt (K : PySem.W.Frag) (H : Hp) (v : V) (o : Addr) (rs : HH.Row) (l : List Nat) : Prop where
  row : RowAt K H v rs
  len : rs.length ≤ 30
  tl : ∀ b ∈ rs, 0 ≤ b.2
  ord : SqT K H o (natsV l)
  ids : l.Perm (List.range rs.length)
section
variable {K : PySem.W.Frag} {H H' : Hp} {v : V} {o : Addr} {rs : HH.Row} {l : List Nat}
theorem OrdAt.ex (h : OrdAt K H v o rs l) (e : Ex H H') : OrdAt K H' v o rs l := ⟨h.row.ex e, h.len, h.tl, ex_t e h.ord, h.ids⟩
theorem OrdAt.nd (h : OrdAt K H v o rs l) : l.Nodup := h.ids.nodup_iff.mpr List.nodup_range
theorem OrdAt.lenL (h : OrdAt K H v o rs l) : l.length = rs.length := by rw [h.ids.length_eq, List.length_range]
theorem OrdAt.all (h : OrdAt K H v o rs l) (x : Nat) (hx : x < l.length) : x ∈ l := h.ids.mem_iff.mpr (List.mem_range.mpr (by rw [← h.lenL]; exact hx))
end
def barF (e b l : List Nat) (n : Nat) : Option (Int × Int) := (tabP (keepP e b) n n).find? fun pr => bef l pr.2.toNat pr.1.toNat
theorem find_at {α : Type} {p : α → Bool} {l : List α} {k : Nat} {x : α} (hk : l[k]? = some x) (hx : p x = true) (h0 : (l.take k).find? p = none) : l.find? p = some x := by
  obtain ⟨h1, h2⟩ := List.getElem?_eq_some_iff.mp hk
  have e : l = l.take k ++ x :: l.drop (k + 1) := by
    have := List.drop_eq_getElem_cons h1
    rw [h2] at this
    exact (List.take_append_drop k l).symm.trans (by rw [this])
  rw [e, List.find?_append, h0, List.find?_cons_of_pos hx]
  rfl
theorem find_none_step {α : Type} {p : α → Bool} {l : List α} {k : Nat} {x : α} (hk : l[k]? = some x) (hx : p x = false) (h0 : (l.take k).find? p = none) : (l.take (k + 1)).find? p = none := by
  rw [List.take_add_one, hk, List.find?_append, h0]
  show (none : Option α).or ([x].find? p) = none
  rw [List.find?_cons_of_neg (by rw [hx]; decide)]
  rfl
theorem keeps_none {rs : HH.Row} {E B : List Cow} {l : List Nat} (tl : ∀ x ∈ rs, 0 ≤ x.2) (sE : Steps (tag 0 rs) E) (nE : Nf E) (sB : FSteps (tag 0 rs) B) (nB : Ff B) (ids : l.Perm (List.range rs.length)) (h : barF (E.map (·.1)) (B.map (·.1)) l rs.length = none) : Keeps rs l := by
  refine ⟨ids, fun E' B' sE' nE' sB' nB' i j h1 h2 h3 h4 => ?_⟩
  have t0 : ∀ x ∈ tag 0 rs, 0 ≤ x.2.2 := (good_tag tl).tl
  rw [nf_any t0 sE' nE' sE nE] at h3
  rw [ff_any t0 sB' nB' sB nB] at h4
  have := List.find?_eq_none.mp h ((i : Int), (j : Int)) (mem_tabP.mpr ⟨i, j, h1, h2, rfl, (keep_iff h1).mpr ⟨h3, h4⟩⟩)
  simpa using this
def spFirstNK (K : PySem.W.Frag) : Sp := fun vs H Q _ => ∃ (v : V) (o : Addr) (rs : HH.Row) (l : List Nat) (E B : List Cow), vs = [v, .ref o] ∧ OrdAt K H v o rs l ∧ Steps (tag 0 rs) E ∧ Nf E ∧ FSteps (tag 0 rs) B ∧ Ff B ∧
  (barF (E.map (·.1)) (B.map (·.1)) l rs.length = none → ∀ H', Ex H H' → Q .non H') ∧ ∀ pr, barF (E.map (·.1)) (B.map (·.1)) l rs.length = some pr → ∀ (T : Addr) (H' : Hp), Ex H H' → H' T = some (.tup [.int pr.1, .int pr.2]) → Q (.ref T) H'
end HH
set_option maxHeartbeats 4000000
namespace HH
open PySem PySem.Spec PyProof.Rows L2 Evl
section
variable {K : PySem.W.Frag} {σ : L2.St} {H : Hp} {te t1 t2 : TE} {tt : TT} {l : List Nat} {j : Nat} {vs : List Nat}
end
end HH
set_option maxHeartbeats 4000000
namespace HH
open PySem PySem.Spec PyProof.Rows L2 Evl
section
variable {K : PySem.W.Frag} {σ : L2.St} {H H0 : Hp} {tf tx tv : TE} {D : Ends} {fa a : Addr} {as : List Addr} {t p : Nat → Int} {i : Nat} {d : Int}
end
end HH
set_option maxHeartbeats 4000000
namespace HH
open PySem PySem.Spec PyProof.Rows L2 Evl
section
variable {K : PySem.W.Frag} {σ : L2.St} {H : Hp} {te te2 : TE} {i j : Nat} {vs : List Nat} {a : Addr} {us : List V} {ps : HH.Row}
end
end HH
set_option maxHeartbeats 4000000
namespace HH
open PySem PySem.Spec PyProof.Rows L2 Evl
structure WanF (K : PySem.W.Frag) (H H' : Hp) (p : Addr) (q : Addr) (v' : V) (ot lp : Addr) (us : List V) (L : List Cow) (ds : List Deed) (n m : Nat) : Prop where
  ex : ExB p H H'
  bx : Bx H' p (n + m)
  q : H' q = some (.tup [v', .ref ot, .ref lp])
  row : RowAt K H' v' (rowsOf L)
  ord : FrzT H' ot (natsV (L.map (·.1)))
  lst : H' lp = some (.lst us)
  prs : All2 (DeedAt K H') us ds
end HH
set_option maxHeartbeats 4000000
namespace HH
open PySem PySem.Spec PyProof.Rows L2 Evl RZ
def Sm0 : PyData → Prop
  | .none => True
  | .bool _ => True
  | .int i => i.natAbs ≤ 10 ^ 30
  | _ => False
theorem Sm0.at' {d : PyData} (h : Sm0 d) : ∃ v, atomOk 0 v d := by
  unfold Sm0 at h
  split at h
  · exact ⟨.non, True.intro⟩
  · exact ⟨.bl _, rfl⟩
  · exact ⟨.int _, rfl, h⟩
  · exact h.elim
def NLst (K : PySem.W.Frag) (H : Hp) (v : V) : Prop := Flat v ∨ ∃ a xs, v = .ref a ∧ SqT K H a xs
def lenD : PyData → Nat
  | .list ds => ds.length
  | _ => 0
def AskIt (K : PySem.W.Frag) (H1 H2 : Hp) (v : V) (d : PyData) : Prop := Dp K H2 v d ∧ ((∃ a xs, v = .ref a ∧ H1 a = none ∧ H2 a = some (.lst xs) ∧ xs.length = lenD d) ∨ NLst K H2 v)
section
variable {K : PySem.W.Frag} {H H' H0 H1 H2 : Hp} {σ : L2.St} {te ta tb : TE} {D : Ends} {v : V} {d : PyData} {rs : HH.Row}
theorem NLst.ex (e : Ex H H') (h : NLst K H v) : NLst K H' v := h.imp id fun ⟨a, xs, h1, h2⟩ => ⟨a, xs, h1, ex_t e h2⟩
theorem AskIt.ex (e : Ex H2 H') (h : AskIt K H1 H2 v d) : AskIt K H1 H' v d := ⟨dp_ex e h.1, h.2.imp (fun ⟨a, xs, h1, h2, h3, h4⟩ => ⟨a, xs, h1, h2, e _ _ h3, h4⟩) (NLst.ex e)⟩
theorem AskIt.back (e : Ex H0 H1) (h : AskIt K H1 H2 v d) : AskIt K H0 H2 v d := ⟨h.1, h.2.imp (fun ⟨a, xs, h1, h2, h3, h4⟩ => ⟨a, xs, h1, fresh_back e h2, h3, h4⟩) id⟩
def flatD : V → PyData
  | .int i => .int i
  | .bl b => .bool b
  | _ => .none
end
def AskP (K : PySem.W.Frag) (H1 H3 : Hp) (q : Addr) (v : V) (d : PyData) : Prop := Dp K H3 v d ∧ ((∃ a xs, v = .ref a ∧ a ≠ q ∧ H1 a = none ∧ H3 a = some (.lst xs) ∧ xs.length = lenD d) ∨ NLst K H3 v)
def AskQ (K : PySem.W.Frag) (H1 : Hp) (q : Addr) (H2 : Hp) (v : V) (d : PyData) : Prop := ∀ H3, ExB q H2 H3 → AskP K H1 H3 q v d
section
variable {K : PySem.W.Frag} {H H' H0 H1 H2 : Hp} {σ : L2.St} {te ta tb : TE} {D : Ends} {v : V} {d : PyData} {rs : HH.Row} {q : Addr}
theorem AskIt.put {o : HO} (h : AskIt K H1 H2 v d) (hq : H2 q = none) : AskQ K H1 q (upd H2 q o) v d := fun H3 x => by
  have e : Ex H2 H3 := fun a u ha => x a u (ne_of_none ha hq) (by rw [upd_ne (ne_of_none ha hq)]; exact ha)
  refine ⟨dp_ex e h.1, h.2.imp (fun ⟨a, xs, h1, h2, h3, h4⟩ => ⟨a, xs, h1, ne_of_none h3 hq, h2, e _ _ h3, h4⟩) (NLst.ex e)⟩
theorem AskQ.x (h : AskQ K H1 q H2 v d) (x : ExB q H2 H') : AskQ K H1 q H' v d := fun H3 y => h H3 (x.trans y)
theorem AskQ.it (h : AskQ K H1 q H2 v d) : AskIt K H1 H2 v d := by
  obtain ⟨h1, h2⟩ := h H2 (ExB.refl _ _)
  exact ⟨h1, h2.imp (fun ⟨a, xs, g1, _, g2, g3, g4⟩ => ⟨a, xs, g1, g2, g3, g4⟩) id⟩
end
structure Knows (rs : HH.Row) (L F : List Cow) (z : V) (i : Nat) : Prop where
  len : rs.length ≤ 30
  lt : i < rs.length
  tl : ∀ b ∈ rs, 0 ≤ b.2
  low : ∀ b ∈ rs, Low b
  last : ∀ M, Steps (tag 0 rs) M → NfR M → M = L
  first : ∀ M, FSteps (tag 0 rs) M → FfR M → M = F
  stop : ∀ (M : List Cow) (j : Nat), Steps (tag 0 (rs.take (i + 1))) M → Nf M → (M.map (·.1))[j]? = some i → stopAt (M.map (·.1)) j = z
  flat : Flat z
  dp : ∀ (K : PySem.W.Frag) H', Dp K H' z (flatD z)
section
variable {K : PySem.W.Frag} {H : Hp} {σ : L2.St} {te ta tb tc : TE} {v : V} {rs : HH.Row}
end
end HH
set_option maxHeartbeats 4000000
namespace HH
open PySem PySem.Spec PyProof.Rows L2 Evl RZ
section
variable {P : Addr → Prop} {K : PySem.W.Frag} {c k : Nat} {H : Hp}
end
end HH
namespace HH
open PySem PySem.Spec PyProof.Rows L2 Evl RZ
end HH
namespace HH
open PySem PySem.Spec PyProof.Rows L2 Evl RZ
end HH
set_option maxHeartbeats 4000000
namespace HH
open PySem PySem.Spec PyProof.Rows L2 Evl RZ
end HH
namespace HH
open PySem PySem.Spec PyProof.Rows L2 Evl RZ
end HH
set_option maxHeartbeats 4000000
namespace HH
open PySem PySem.Spec PyProof.Rows L2 Evl RZ
section
variable {K : PySem.W.Frag} {H H' H0 H1 H2 : Hp} {σ : L2.St} {te ta tb : TE} {D : Ends} {v : V} {d : PyData} {rs : HH.Row} {tz : TS}
def Spt (K : PySem.W.Frag) (H0 : Hp) (q : Addr) (n : Nat) (H : Hp) (v : V) : Prop := (∃ a xs, v = .ref a ∧ a ≠ q ∧ H0 a = none ∧ H a = some (.lst xs) ∧ xs.length ≤ n) ∨ NLst K H v
theorem NLst.mut {b : Addr} {xs ys : List V} (h : NLst K H v) (hb : H b = some (.lst xs)) : NLst K (upd H b (.lst ys)) v := h.imp id fun ⟨a, zs, h1, h2⟩ => ⟨a, zs, h1, ((ExB.refl b H).upd (o := .lst ys)).t hb h2⟩
theorem Spt.mut {b q : Addr} {n : Nat} {xs ys : List V} (h : Spt K H0 q n H v) (hb : H b = some (.lst xs)) (hy : ys.length ≤ n + 1) : Spt K H0 q (n + 1) (upd H b (.lst ys)) v := by
  rcases h with ⟨a, zs, rfl, h1, h2, h3, h4⟩ | h
  · by_cases e : a = b
    · subst e
      exact .inl ⟨a, ys, rfl, h1, h2, upd_same, hy⟩
    · exact .inl ⟨a, zs, rfl, h1, h2, by rw [upd_ne e]; exact h3, by omega⟩
  · exact .inr (h.mut hb)
theorem Spt.up {q : Addr} {n : Nat} (h : Spt K H0 q n H v) (e : Ex H H') : Spt K H0 q (n + 1) H' v := by
  rcases h with ⟨a, zs, rfl, h1, h2, h3, h4⟩ | h
  · exact .inl ⟨a, zs, rfl, h1, h2, e _ _ h3, by omega⟩
  · exact .inr (h.ex e)
theorem NLst.ty (h : NLst K H v) : ∃ T, TyN K H v T ∧ kitB T "list" = some false := by
  rcases h with h | ⟨a, xs, rfl, h⟩
  · unfold Flat at h
    split at h
    · exact ⟨"int", .int _, rfl⟩
    · exact ⟨"bool", .bl _, rfl⟩
    · exact ⟨"str", .str _, rfl⟩
    · exact ⟨"NoneType", .non, rfl⟩
    · exact h.elim
  · exact ⟨"tuple", .tup h, rfl⟩
end
end HH
set_option maxHeartbeats 4000000
namespace HH
open PySem PySem.Spec PyProof.Rows L2 Evl RZ
end HH
set_option maxHeartbeats 4000000
namespace HH
open PySem PySem.Spec PyProof.Rows L2 Evl RZ
theorem ListsF.exB {H0 H H' : Hp} {us : List V} {ll : List (List Nat)} {p : Addr} {o : HO} (h : ListsF H0 H us ll) (e : ExB p H H') (hp : H0 p = some o) : ListsF H0 H' us ll := ⟨h.len, fun i l hl => by
  obtain ⟨c, h1, h2, h3⟩ := h.at' i l hl
  exact ⟨c, h1, h2, e _ _ (Ne.symm (ne_of_none hp h2)) h3⟩⟩
end HH
set_option maxHeartbeats 4000000
namespace HH
open PySem PySem.Spec PyProof.Rows L2 Evl RZ
section
variable {K : PySem.W.Frag} {σ : L2.St} {H H' : Hp} {ta tb te te2 : TE} {t : TT} {v : V}
end
end HH
set_option maxHeartbeats 4000000
namespace HH
open PySem PySem.Spec PyProof.Rows L2 Evl RZ
section
variable {K : PySem.W.Frag} {H H' H0 H1 H2 : Hp} {σ : L2.St} {te ta tb tc : TE} {D : Ends} {v : V} {d : PyData} {rs : HH.Row} {tz : TS}
end
end HH
set_option maxHeartbeats 4000000
namespace HH
open PySem PySem.Spec PyProof.Rows L2 Evl
end HH
set_option maxHeartbeats 4000000
namespace HH
open PySem PySem.Spec PyProof.Rows L2 Evl
section
variable {K : PySem.W.Frag} {σ : L2.St} {H H' : Hp} {ta tb te to ts : TE} {v : V}
section
variable {rs : HH.Row} {L E Y M : List Cow} {d1 d2 : List Deed} {px : Nat → Nat} {tT tB tO tN t8 t9 : TE} {vT : V} {bk oT : Addr}
end
end
end HH
set_option maxHeartbeats 4000000
namespace HH
open PySem PySem.Spec PyProof.Rows L2 Evl RZ
theorem FrzT.exL {H H' : Hp} {p a : Addr} {xs ys : List V} (h : FrzT H a xs) (e : ExB p H H') (hp : H p = some (.lst ys)) : FrzT H' a xs := by
  obtain ⟨o, po, h⟩ := h
  refine ⟨o, po, e _ _ (fun z => ?_) h⟩
  rw [z, hp] at h
  cases h
def tTupRgF (te : L2.St → Hp → (Int → Int → Hp → Prop) → Prop) : TE := fun σ H Q => te σ H fun a b H1 => RgOk a b ∧ ∀ (q : Addr) (o : Obj), PlainT o → H1 q = none → Q (.ref q) (upd H1 q (.frz o (.tup (rgV a b))))
section
variable {X : Cx} {es : List Expr} {t : TA} {pos : Pos}
theorem pe_tupRgF {e : Expr} {te : L2.St → Hp → (Int → Int → Hp → Prop) → Prop} {p pos : Pos} (hc : X.calm = true) (hg : Gl X "tuple") (hm : X.mg "tuple" = none) (he : PRg X e te) (na : starEach [e] X.env = (false, eval e X.env) :: starEach [] X.env := by rfl) : PE X (.Call (.Name "tuple" p) [e] [] pos) (tTupRgF te) := by
  refine ⟨fun pins s σ H Q I h => ?_⟩
  refine Call_ (ld_blt I hg hm boot_tuple (PyProof.Rows.callWith_type1 (args_cons (thn (he pins s σ H _ I h) fun x s1 ⟨r, a, b, t, u, v, H1, ex, hr, I1, ok, q⟩ => args_nil ?_) na) na))
  subst ex
  obtain ⟨b1, b2, b3, b4, b5⟩ := ok
  refine call_tuple_range (n := (b - a).toNat) (I1.ok.hd hc) hr (small_one b1 b2 b3 b4) (rangeSize_nat a b) b5 fun h' tk acc hk hi => ?_
  have I2 : Inv X pins σ H1 { s1 with heap := h', toks := tk } := I1.kept hk
  have okF : ObjOk X.prog X.w (upd H1 h'.objs.size (.frz { cls := .type "tuple", data := .seq acc } (.tup (rgV a b)))) (h'.push { cls := .type "tuple", data := .seq acc }) h'.objs.size (.frz { cls := .type "tuple", data := .seq acc } (.tup (rgV a b))) :=
    ⟨Heap.get?_push_size _ rfl, by rw [rgV_length, sizeLine_eq]; omega, acc.toList, vals_rg hi, by rw [Array.toArray_toList]; exact IsTup.new _ _⟩
  exact ⟨.ref h'.objs.size, _, I2.laid (t' := tk) (fun c o e => Heap.get?_push_of_some _ e) (Nat.le_refl _) okF, rfl, q _ _ ⟨rfl, rfl⟩ (I2.hok.fresh (Nat.le_refl _))⟩
end
end HH
namespace HH
open PySem PySem.Spec PyProof.Rows L2 Evl RZ
end HH
set_option maxHeartbeats 4000000
namespace HH
open PySem PySem.Spec PyProof.Rows L2 Evl RZ
structure KnownEnd (r e : HH.Row) (o : List Nat) (tb : List (List Nat)) : Prop where
  len : r.length ≤ 10
  tl : ∀ b ∈ r, 0 ≤ b.2
  end_ : ∃ L, Steps (tag 0 r) L ∧ NfR L ∧ rowsOf L = e ∧ L.map (·.1) = o
  nev : nevT r = tb
  prs : tabP (fun i k => !decide ((i + 1 + k) ∈ tb.getD i [])) r.length r.length = tab o r.length r.length
section
variable {K : PySem.W.Frag} {H H' H0 H1 H2 : Hp} {σ : L2.St} {te ta tb tc : TE} {D : Ends} {v : V} {d : PyData} {rs : HH.Row} {tz : TS}
def ListsA (K : PySem.W.Frag) (H : Hp) : List V → List (List Nat) → Prop := fun us ll => us.length = ll.length ∧ ∀ (i : Nat) (l : List Nat), ll[i]? = some l → ∃ p, us[i]? = some (.ref p) ∧ SqL K H p (natsV l)
theorem ListsA.ex {us : List V} {ll : List (List Nat)} (h : ListsA K H us ll) (e : Ex H H') : ListsA K H' us ll := ⟨h.1, fun i l hl => by
  obtain ⟨p, p1, p2⟩ := h.2 i l hl
  exact ⟨p, p1, ex_l e p2⟩⟩
theorem ListsA.cons {us : List V} {ll : List (List Nat)} {a : Addr} {l : List Nat} (h : ListsA K H us ll) (g : SqL K H a (natsV l)) : ListsA K H (.ref a :: us) (l :: ll) := ⟨by rw [List.length_cons, List.length_cons, h.1], fun i m hm => by
  cases i with
  | zero =>
    cases Option.some.inj hm
    exact ⟨a, rfl, g⟩
  | succ i => exact h.2 i m hm⟩
theorem q_forT0 {te : TE} {g : TG} {tu tz : TS} (h : te σ H fun x H1 => tSeq (tFor (iTup K (tC x)) g tu) tz D σ H1) : tSeq (tFor (iTup K te) g tu) tz D σ H := h
end
abbrev Item := Int × HH.Row × List Nat × List (List Nat)
section
variable {K : PySem.W.Frag} {H H' H0 H1 H2 : Hp} {σ : L2.St} {te ta tb tc td : TE} {D : Ends} {v : V} {d : PyData} {rs : HH.Row} {tz : TS}
def ItemAt (K : PySem.W.Frag) (H : Hp) (x : V) (it : Item) : Prop := ∃ a ve oa ta, x = .ref a ∧ SqT K H a [.int it.1, ve, .ref oa, .ref ta] ∧ RowAt K H ve it.2.1 ∧ FrzT H oa (natsV it.2.2.1) ∧ TabAt K H ta it.2.2.2
theorem ItemAt.ex {x : V} {it : Item} (h : ItemAt K H x it) (e : Ex H H') : ItemAt K H' x it := by
  obtain ⟨a, ve, oa, ta, rfl, h1, h2, ⟨o, h3, h4⟩, h5⟩ := h
  exact ⟨a, ve, oa, ta, rfl, ex_t e h1, h2.ex e, ⟨o, h3, e _ _ h4⟩, h5.mono e⟩
end
end HH
set_option maxHeartbeats 4000000
namespace HH
open PySem PySem.Spec PyProof.Rows L2 Evl RZ
abbrev Lot := Int × Int × Int
def LotAt (K : PySem.W.Frag) (H : Hp) (v : V) (l : Lot) : Prop := ∃ p, v = .ref p ∧ SqT K H p [.int l.1, .int l.2.1, .int l.2.2]
abbrev LotsA (K : PySem.W.Frag) (H : Hp) : List V → List Lot → Prop := All2 (LotAt K H)
def HerdAt (K : PySem.W.Frag) (H : Hp) (v : V) (ls : List Lot) : Prop := ∃ a us, v = .ref a ∧ SqT K H a us ∧ LotsA K H us ls
section
variable {K : PySem.W.Frag} {H H' : Hp} {v : V} {l : Lot} {ls : List Lot} {us : List V}
theorem LotAt.ex (h : LotAt K H v l) (e : Ex H H') : LotAt K H' v l := by
  obtain ⟨p, h1, h2⟩ := h
  exact ⟨p, h1, ex_t e h2⟩
theorem LotAt.exB {q : Addr} {ys : List V} (h : LotAt K H v l) (e : ExB q H H') (hq : H q = some (.lst ys)) : LotAt K H' v l := by
  obtain ⟨p, h1, h2⟩ := h
  exact ⟨p, h1, e.t hq h2⟩
theorem LotsA.ex' (h : LotsA K H us ls) (e : Ex H H') : LotsA K H' us ls := All2.mono (fun _ _ r => r.ex e) h
theorem LotsA.exB' {q : Addr} {ys : List V} (h : LotsA K H us ls) (e : ExB q H H') (hq : H q = some (.lst ys)) : LotsA K H' us ls := All2.mono (fun _ _ r => r.exB e hq) h
theorem HerdAt.ex (h : HerdAt K H v ls) (e : Ex H H') : HerdAt K H' v ls := by
  obtain ⟨a, us, h1, h2, h3⟩ := h
  exact ⟨a, us, h1, ex_t e h2, LotsA.ex' h3 e⟩
theorem HerdAt.exB {q : Addr} {n : Nat} (h : HerdAt K H v ls) (e : ExB q H H') (hq : Bx H q n) : HerdAt K H' v ls := by
  obtain ⟨a, us, h1, h2, h3⟩ := h
  obtain ⟨xs, hx⟩ := hq.lst
  exact ⟨a, us, h1, e.t hx h2, LotsA.exB' h3 e hx⟩
end
def alikeB (acc : List Lot) (s t : Int) : Bool := match acc.getLast? with
  | some l => decide (l.1 = s ∧ l.2.1 = t)
  | none => false
def popL (acc : List Lot) (s t : Int) : List Lot := if alikeB acc s t = true then acc.dropLast else acc
def befL (acc : List Lot) (s t : Int) : Int := if alikeB acc s t = true then (acc.getLast?.getD (0, 0, 0)).2.2 else 0
def packStep (acc : List Lot) (l : Lot) : List Lot := popL acc l.1 l.2.1 ++ [(l.1, l.2.1, befL acc l.1 l.2.1 + l.2.2)]
def packL (ls : List Lot) : List Lot := ls.foldl packStep []
def ones (rs : HH.Row) : List Lot := rs.map fun b => (b.1, b.2, 1)
def sprR (ls : List Lot) : HH.Row := ls.flatMap fun l => List.replicate l.2.2.toNat (l.1, l.2.1)
theorem alike_snoc (acc : List Lot) (l : Lot) (s t : Int) : alikeB (acc ++ [l]) s t = decide (l.1 = s ∧ l.2.1 = t) := by
  unfold alikeB
  rw [List.getLast?_concat]
theorem spr_app (a b : List Lot) : sprR (a ++ b) = sprR a ++ sprR b := List.flatMap_append ..
theorem alike_ex {acc : List Lot} {s t : Int} (h : alikeB acc s t = true) : ∃ pre m, acc = pre ++ [(s, t, m)] := by
  unfold alikeB at h
  cases c : acc.getLast? with
  | none => rw [c] at h; cases h
  | some l =>
    rw [c] at h
    have h := of_decide_eq_true h
    have hne : acc ≠ [] := fun z => by rw [z] at c; cases c
    refine ⟨acc.dropLast, l.2.2, ?_⟩
    have e := List.dropLast_concat_getLast hne
    rw [List.getLast?_eq_some_getLast hne] at c
    have c := Option.some.inj c
    rw [c] at e
    rw [← h.1, ← h.2]
    exact e.symm
theorem step_alike (pre : List Lot) (s t m k : Int) : packStep (pre ++ [(s, t, m)]) (s, t, k) = pre ++ [(s, t, m + k)] := by
  unfold packStep popL befL
  have e : alikeB (pre ++ [(s, t, m)]) s t = true := by rw [alike_snoc]; exact decide_eq_true ⟨rfl, rfl⟩
  show (if alikeB (pre ++ [(s, t, m)]) s t = true then _ else _) ++ [(s, t, (if alikeB (pre ++ [(s, t, m)]) s t = true then _ else _) + k)] = _
  rw [if_pos e, if_pos e, List.dropLast_concat, List.getLast?_concat]
  rfl
theorem step_other {acc : List Lot} {s t k : Int} (h : alikeB acc s t = false) : packStep acc (s, t, k) = acc ++ [(s, t, k)] := by
  unfold packStep popL befL
  show (if alikeB acc s t = true then _ else _) ++ [(s, t, (if alikeB acc s t = true then _ else _) + k)] = _
  rw [if_neg (by rw [h]; exact Bool.false_ne_true), if_neg (by rw [h]; exact Bool.false_ne_true), Int.zero_add]
def PosL (ls : List Lot) : Prop := ∀ l ∈ ls, 1 ≤ l.2.2
theorem step_pos {acc : List Lot} {l : Lot} (h : PosL acc) (hl : 1 ≤ l.2.2) : PosL (packStep acc l) := by
  obtain ⟨s, t, k⟩ := l
  cases c : alikeB acc s t with
  | true =>
    obtain ⟨pre, m, rfl⟩ := alike_ex c
    rw [step_alike]
    intro x hx
    rcases List.mem_append.mp hx with g | g
    · exact h x (List.mem_append_left _ g)
    · rw [List.mem_singleton.mp g]
      have := h (s, t, m) (by simp)
      show 1 ≤ m + k
      have hl : 1 ≤ k := hl
      have this : 1 ≤ m := this
      omega
  | false =>
    rw [step_other c]
    intro x hx
    rcases List.mem_append.mp hx with g | g
    · exact h x g
    · rw [List.mem_singleton.mp g]
      exact hl
theorem fold_pos : ∀ (ls acc : List Lot), PosL acc → PosL ls → PosL (ls.foldl packStep acc)
  | [], acc, h, _ => h
  | l :: ls, acc, h, g => fold_pos ls (packStep acc l) (step_pos h (g l (List.mem_cons_self ..))) fun x hx => g x (List.mem_cons_of_mem _ hx)
theorem packL_pos {ls : List Lot} (h : PosL ls) : PosL (packL ls) := fold_pos ls [] (fun x hx => nomatch hx) h
theorem step_spr {acc : List Lot} {l : Lot} (h : PosL acc) (hl : 1 ≤ l.2.2) : sprR (packStep acc l) = sprR acc ++ List.replicate l.2.2.toNat (l.1, l.2.1) := by
  obtain ⟨s, t, k⟩ := l
  have one : ∀ m : Int, sprR [(s, t, m)] = List.replicate m.toNat (s, t) := fun m => by
    unfold sprR
    simp
  cases c : alikeB acc s t with
  | true =>
    obtain ⟨pre, m, rfl⟩ := alike_ex c
    have hm : 1 ≤ m := h (s, t, m) (by simp)
    have hk : 1 ≤ k := hl
    rw [step_alike, spr_app, spr_app, one, one, List.append_assoc, List.replicate_append_replicate, show m.toNat + k.toNat = (m + k).toNat by omega]
  | false =>
    rw [step_other c, spr_app, one]
theorem fold_spr : ∀ (ls acc : List Lot), PosL acc → PosL ls → sprR (ls.foldl packStep acc) = sprR acc ++ sprR ls
  | [], acc, _, _ => by
    show sprR acc = sprR acc ++ []
    rw [List.append_nil]
  | l :: ls, acc, h, g => by
    have hl := g l (List.mem_cons_self ..)
    rw [List.foldl_cons, fold_spr ls _ (step_pos h hl) (fun x hx => g x (List.mem_cons_of_mem _ hx)), step_spr h hl, List.append_assoc]
    congr 1
theorem packL_spr {ls : List Lot} (h : PosL ls) : sprR (packL ls) = sprR ls := by
  have := fold_spr ls [] (fun x hx => nomatch hx) h
  exact this
theorem ones_pos (rs : HH.Row) : PosL (ones rs) := fun l hl => by
  obtain ⟨b, _, rfl⟩ := List.mem_map.mp hl
  exact Int.le_refl 1
theorem ones_spr : ∀ rs : HH.Row, sprR (ones rs) = rs
  | [] => rfl
  | b :: rs => by
    have := ones_spr rs
    unfold ones sprR at this ⊢
    rw [List.map_cons, List.flatMap_cons, this]
    rfl
section
variable {K : PySem.W.Frag} {σ : L2.St} {H H' : Hp} {te : TE} {v : V} {Q : VK}
end
section
variable {X : Cx}
end
end HH
set_option maxHeartbeats 4000000
namespace HH
open PySem PySem.Spec PyProof.Rows L2 Evl RZ
def manyP (spare toll many : Int) : Int := if spare ≤ 0 then 0 else if toll = 0 then many else if (spare - 1) / toll < many then (spare - 1) / toll else many
def lS (ls : List Lot) (i : Nat) : Int := (ls[i]?.getD (0, 0, 0)).1
def lT (ls : List Lot) (i : Nat) : Int := (ls[i]?.getD (0, 0, 0)).2.1
def lM (ls : List Lot) (i : Nat) : Int := (ls[i]?.getD (0, 0, 0)).2.2
def goL (st : List Int) (ls : List Lot) (w : Nat) : HH.Row → HH.Row → Int → Int → HH.Row × Int × Int
  | [], B, s, t => (((w : Int), lM ls w) :: B, s, t)
  | x :: r, B, s, t =>
    if manyP (s - st.getD x.1.toNat 0) (lT ls x.1.toNat) x.2 < x.2 then
      (if manyP (s - st.getD x.1.toNat 0) (lT ls x.1.toNat) x.2 > 0 then r.reverse ++ (x.1, x.2 - manyP (s - st.getD x.1.toNat 0) (lT ls x.1.toNat) x.2) :: ((w : Int), lM ls w) :: (x.1, manyP (s - st.getD x.1.toNat 0) (lT ls x.1.toNat) x.2) :: B else r.reverse ++ x :: ((w : Int), lM ls w) :: B,
        s - manyP (s - st.getD x.1.toNat 0) (lT ls x.1.toNat) x.2 * lT ls x.1.toNat, t + manyP (s - st.getD x.1.toNat 0) (lT ls x.1.toNat) x.2)
    else goL st ls w r (x :: B) (s - manyP (s - st.getD x.1.toNat 0) (lT ls x.1.toNat) x.2 * lT ls x.1.toNat) (t + manyP (s - st.getD x.1.toNat 0) (lT ls x.1.toNat) x.2)
def endG (ls : List Lot) : Nat → HH.Row × List Int × List Int
  | 0 => ([], ls.map (·.1), [])
  | w + 1 => let e := endG ls w; let R := goL e.2.1 ls w e.1.reverse [] (e.2.1.getD w 0) 0; (R.1, e.2.1.set w R.2.1, e.2.2 ++ [R.2.2])
def Fit (ls : List Lot) : Prop := ls.length ≤ 100 ∧ ∀ l ∈ ls, 0 ≤ l.2.1 ∧ l.2.1 < 1152921504606846976 ∧ 0 ≤ l.2.2 ∧ l.2.2 < 1152921504606846976
theorem lot_get {ls : List Lot} {i : Nat} (h : i < ls.length) : ls[i]? = some (lS ls i, lT ls i, lM ls i) := by
  unfold lS lT lM
  rw [List.getElem?_eq_getElem h]
  rfl
theorem Fit.at' {ls : List Lot} (h : Fit ls) {i : Nat} (hi : i < ls.length) : 0 ≤ lT ls i ∧ lT ls i < 1152921504606846976 ∧ 0 ≤ lM ls i ∧ lM ls i < 1152921504606846976 := h.2 _ (List.mem_of_getElem? (lot_get hi))
def Bel (w : Nat) (line : HH.Row) : Prop := ∀ x ∈ line, ∃ j : Nat, x.1 = (j : Int) ∧ j < w
theorem Bel.app {w : Nat} {a b : HH.Row} (h : Bel w a) (g : Bel w b) : Bel w (a ++ b) := fun x hx => (List.mem_append.mp hx).elim (h x) (g x)
theorem Bel.up {w : Nat} {a : HH.Row} (h : Bel w a) : Bel (w + 1) a := fun x hx => by
  obtain ⟨j, e, hj⟩ := h x hx
  exact ⟨j, e, by omega⟩
def goF (st : List Int) (ls : List Lot) (w : Nat) : List Nat → List Nat → Int → List Nat × Int
  | pre, [], s => (pre ++ [w], s)
  | pre, x :: r, s => if s > st.getD x 0 then goF st ls w (pre ++ [x]) r (s + lM ls x * lT ls x) else (pre ++ w :: x :: r, s)
def begG (ls : List Lot) (n : Nat) : Nat → List Nat × List Int
  | 0 => ([], ls.map (·.1))
  | k + 1 => let e := begG ls n k; let R := goF e.2 ls (n - (k + 1)) [] e.1 (e.2.getD (n - (k + 1)) 0); (R.1, e.2.set (n - (k + 1)) R.2)
def lastLots (ls : List Lot) : List Lot := (endG ls ls.length).1.map fun x => ((endG ls ls.length).2.1.getD x.1.toNat 0, lT ls x.1.toNat, x.2)
def firstLots (ls : List Lot) : List Lot := (begG ls ls.length ls.length).1.map fun x => ((begG ls ls.length ls.length).2.getD x 0, lT ls x, lM ls x)
end HH
set_option maxHeartbeats 4000000
namespace HH
open PySem PySem.Spec PyProof.Rows L2 Evl RZ
section
variable {K : PySem.W.Frag} {H H' H0 H1 H2 : Hp} {σ : L2.St} {te ta tb tc ti : TE} {D : Ends} {v : V} {ls : List Lot} {tz : TS}
theorem HerdAt.exL {q : Addr} {ys : List V} (h : HerdAt K H v ls) (e : ExB q H H') (hq : H q = some (.lst ys)) : HerdAt K H' v ls := by
  obtain ⟨a, us, h1, h2, h3⟩ := h
  exact ⟨a, us, h1, e.t hq h2, LotsA.exB' h3 e hq⟩
theorem ExB2.of {a b : Addr} (e : Ex H H') : ExB2 a b H H' := fun c o _ _ h => e c o h
theorem ExB2.trans {a b : Addr} (x : ExB2 a b H H1) (y : ExB2 a b H1 H2) : ExB2 a b H H2 := fun c o n1 n2 h => y c o n1 n2 (x c o n1 n2 h)
theorem ExB2.fst {a b : Addr} {o : HO} (x : ExB2 a b H H') : ExB2 a b H (upd H' a o) := fun c u n1 n2 h => by
  rw [upd_ne n1]
  exact x c u n1 n2 h
theorem ExB2.snd {a b : Addr} {o : HO} (x : ExB2 a b H H') : ExB2 a b H (upd H' b o) := fun c u n1 n2 h => by
  rw [upd_ne n2]
  exact x c u n1 n2 h
theorem q_forL0 {te : TE} {g : TG} {tu tz : TS} (h : te σ H fun x H1 => tSeq (tFor (iList K (tC x)) g tu) tz D σ H1) : tSeq (tFor (iList K te) g tu) tz D σ H := h
theorem et_notinK {d : Addr} {kvs : List (Key × V)} {k : Key} (h1 : Ev ta σ H (kV k)) (h2 : Ev tb σ H (.ref d)) (hd : H d = some (.dK kvs)) : EvT (tB (tDNotIn ta tb)) σ H (!(valV kvs k).isSome) := fun H1 e1 Q q =>
  h1 H1 e1 _ fun H2 e2 => h2 H2 (e1.trans e2) _ fun H3 e3 => ⟨d, _, rfl, DGet.k (((e1.trans e2).trans e3) _ _ hd), _, rfl, q H3 (e2.trans e3)⟩
theorem s_setK {d : Addr} {kvs : List (Key × V)} {k : Key} (h : Ev te σ H v) (ho : Ev ta σ H (.ref d)) (hi : Ev tb σ H (kV k)) (hd : H d = some (.dK kvs)) (hl : kvs.length ≤ 10000) (kk : ∀ H1, Ex H H1 → D.nx σ (upd H1 d (.dK (putK kvs k v)))) : tAsg te (gSub ta tb rSetD) D σ H :=
  h H (Ex.refl H) _ fun H1 e1 => ho H1 e1 _ fun H2 e2 => hi H2 (e1.trans e2) _ fun H3 e3 => ⟨d, _, rfl, DPut.k (((e1.trans e2).trans e3) _ _ hd) (sz_lt (by omega)), kk H3 ((e1.trans e2).trans e3)⟩
end
end HH
set_option maxHeartbeats 4000000
namespace HH
open PySem PySem.Spec PyProof.Rows L2 Evl RZ
theorem ip_or {X : Cx} : PIp X .BitOr (ipI fun i j => Builtin.bitOr i j) := by
  intro pins s σ H x y v u Q I r1 r2 h
  obtain ⟨i, j, e1, e2, q⟩ := h
  subst e1; subst e2
  obtain ⟨t, rfl⟩ := r1
  obtain ⟨t', rfl⟩ := r2
  exact ior_int ⟨.int _, H, I.tok _, ⟨_, rfl⟩, q⟩
def stepA (ah : List Nat) (pr : Int × Int) : List Nat := ah.set pr.2.toNat (putB (ah.getD pr.2.toNat 0) pr.1.toNat)
def aheadF (kp : HH.Row) (n : Nat) : List Nat := kp.foldl stepA (List.replicate n 0)
theorem stepA_len (ah : List Nat) (pr : Int × Int) : (stepA ah pr).length = ah.length := List.length_set ..
theorem foldA_len : ∀ (kp : HH.Row) (ah : List Nat), (kp.foldl stepA ah).length = ah.length
  | [], _ => rfl
  | pr :: kp, ah => by
    rw [List.foldl_cons, foldA_len kp, stepA_len]
theorem ahead_len (kp : HH.Row) (n : Nat) : (aheadF kp n).length = n := by
  unfold aheadF
  rw [foldA_len, List.length_replicate]
theorem ahead_take {kp : HH.Row} {n k : Nat} {pr : Int × Int} (h : kp[k]? = some pr) : aheadF (kp.take (k + 1)) n = stepA (aheadF (kp.take k) n) pr := by
  unfold aheadF
  rw [List.take_add_one, h, List.foldl_append]
  rfl
def keptT (E B : List Cow) (n : Nat) : HH.Row := tabP (keepP (E.map (·.1)) (B.map (·.1))) n n
def spAheadB (K : PySem.W.Frag) : Sp := fun vs H Q _ => ∃ (v : V) (rs : HH.Row), vs = [v] ∧ RowAt K H v rs ∧ rs.length ≤ 30 ∧ (∀ b ∈ rs, 0 ≤ b.2) ∧
  ∀ (a : Addr) (E B : List Cow) (H' : Hp), Steps (tag 0 rs) E → Nf E → FSteps (tag 0 rs) B → Ff B → H a = none → Ex H H' → H' a = some (.lst (natsV (aheadF (keptT E B rs.length) rs.length))) → Q (.ref a) H'
def spNextB (K : PySem.W.Frag) : Sp := fun vs H Q _ => ∃ (a : Addr) (ah : List Nat) (s : Nat), vs = [.ref a, .int (s : Int)] ∧ H a = some (.lst (natsV ah)) ∧ ah.length ≤ 30 ∧ RetL (natsV (nextB ah s)) H Q
def spBehind (K : PySem.W.Frag) (j : Nat) : Sp := fun vs H Q _ => ∃ (a d : Addr) (ah : List Nat) (s : Nat) (kvs : List (Key × V)), vs = [.ref a, .int (s : Int), .ref d] ∧ H a = some (.lst (natsV ah)) ∧ ah.length ≤ 12 ∧ s < 2 ^ ah.length ∧ leftB ah.length s < j ∧ H d = some (.dK kvs) ∧ KnowsB ah kvs ∧
  ∀ (kvs' : List (Key × V)) (H' : Hp), ExB d H H' → H' d = some (.dK kvs') → KnowsB ah kvs' → Q (.int (cntF ah s : Int)) H'
theorem behind_none {P : Program} {w : World} {K : PySem.W.Frag} {mg : Str → Option Value} {base : Heap} {k : Nat} {f : Addr} {fd : FuncData} {ps : List Str} : FnOk P w K mg base CX0 k f fd ps (spBehind K 0) :=
  ⟨fun _ _ _ _ h => by obtain ⟨_, _, _, _, _, _, _, _, _, h, _⟩ := h; exact absurd h (Nat.not_lt_zero _), fun _ _ _ _ _ _ _ _ _ _ _ _ _ h => by obtain ⟨_, _, _, _, _, _, _, _, _, h, _⟩ := h; exact absurd h (Nat.not_lt_zero _)⟩
theorem valV_put {κ : Type} [DecidableEq κ] {kvs : List (κ × V)} {k : κ} {v : V} : valV (putK kvs k v) k = some v := by
  unfold putK
  split
  · rename_i h
    rw [valV_map]
    rw [valV_any] at h
    obtain ⟨x, hx⟩ := Option.isSome_iff_exists.mp h
    rw [hx, Option.map_some, if_pos rfl]
  · rename_i h
    rw [valV_any] at h
    have : valV kvs k = none := by
      cases e : valV kvs k with
      | none => rfl
      | some x => rw [e] at h; exact absurd rfl h
    rw [valV_snoc k k v kvs this, if_pos rfl]
theorem KnowsB.put2 {ah : List Nat} {kvs : List (Key × V)} (h : KnowsB ah kvs) {s : Nat} (hs : s < 2 ^ ah.length) : KnowsB ah (putK kvs (.inl (s : Int)) (.int (cntF ah s : Int))) := by
  cases e : valV kvs (.inl (s : Int)) with
  | none => exact h.put hs e
  | some x =>
    have : putK kvs (.inl (s : Int)) (.int (cntF ah s : Int)) = kvs := by
      unfold putK
      rw [if_pos (by rw [valV_any, e]; rfl)]
      refine (List.map_congr_left fun kv hkv => ?_).trans (List.map_id _)
      obtain ⟨t, ht, rfl⟩ := h.ok kv hkv
      show (if (.inl (t : Int) : Key) = .inl (s : Int) then _ else _) = _
      split
      · rename_i z
        have z : (t : Int) = (s : Int) := by injection z
        have : t = s := by omega
        rw [this]
        rfl
      · rfl
    rw [this]
    exact h
section
variable {K : PySem.W.Frag} {σ : L2.St} {H H' : Hp} {ta tb tc ti te : TE} {D : Ends} {tz : TS}
theorem ev_put {s w : Nat} (h1 : Ev ta σ H (.int (s : Int))) (h2 : Ev tb σ H (.int (w : Int))) (hw : w ≤ 1000) : Ev (tOp (rI0 fun i j => .int (Builtin.bitOr i j)) ta (tOp (rI CPow fun i j => .int (i * 2 ^ j.toNat)) (tC (.int 1)) tb)) σ H (.int (putB s w : Int)) := by
  have e : (1 : Int) * 2 ^ ((w : Int)).toNat = ((2 ^ w : Nat) : Int) := by rw [Int.toNat_natCast]; exact bit_shl w
  refine ev_is (ev_op h1 (ev_op ev_c h2 (rv_I ⟨by omega, by omega, by decide⟩)) rv_I0) ?_
  rw [e, bit_or]
  rfl
theorem et_free {s w : Nat} (h1 : Ev ta σ H (.int (s : Int))) (h2 : Ev tb σ H (.int (w : Int))) : EvT (tTest (tOp rEq (tOp (rI0 fun i j => .int (Builtin.bitAnd i j)) (tOp (rI (fun _ j => 0 ≤ j) fun i j => .int (i / 2 ^ j.toNat)) ta tb) (tC (.int 1))) (tC (.int 0)))) σ H (!s.testBit w) := by
  refine et_is (et_test (ev_op (ev_op (ev_op h1 h2 (rv_I (by omega))) ev_c rv_I0) ev_c (rv_eq rfl))) ?_
  rw [Int.toNat_natCast, bit_at]
  cases s.testBit w <;> rfl
theorem nats_get {ah : List Nat} {w : Nat} (h : w < ah.length) : (natsV ah)[w]? = some (.int (ah.getD w 0 : Int)) := by
  unfold natsV
  rw [List.getElem?_map, List.getD_eq_getElem?_getD, List.getElem?_eq_getElem h]
  rfl
theorem et_all {a : Addr} {ah : List Nat} {s w : Nat} (h : Ev ta σ H (.ref a)) (ga : H a = some (.lst (natsV ah))) (h1 : Ev tb σ H (.int (s : Int))) (h2 : Ev tc σ H (.int (w : Int))) (hw : w < ah.length) : EvT (tTest (tOp rEq (tOp (rI0 fun i j => .int (Builtin.bitAnd i j)) (tOp (rIxL K) ta tc) tb) (tOp (rIxL K) ta tc))) σ H (decide (ah.getD w 0 &&& s = ah.getD w 0)) := by
  have g := nats_get hw
  refine et_is (et_test (ev_op (ev_op (ev_op h h2 (rv_ixL (K := K) (sq_of ga) (atI_nat g))) h1 rv_I0) (ev_op h h2 (rv_ixL (K := K) (sq_of ga) (atI_nat g))) (rv_eq rfl))) ?_
  rw [bit_and]
  exact decide_eq_decide.mpr ⟨fun z => by injection z with z; omega, fun z => by rw [z]⟩
end
end HH
set_option maxHeartbeats 4000000
namespace HH
open PySem PySem.Spec PyProof.Rows L2 Evl RZ
def extB (ah : List Nat) : Nat → Nat → List (List Nat)
  | 0, s => if s = 2 ^ ah.length - 1 then [[]] else []
  | k + 1, s => (nextB ah s).flatMap fun w => (extB ah k (putB s w)).map (w :: ·)
def extF (ah : List Nat) (s : Nat) : List (List Nat) := extB ah (leftB ah.length s) s
theorem ext_lenB {ah : List Nat} : ∀ (k s : Nat), s < 2 ^ ah.length → leftB ah.length s = k → (extB ah k s).length = cntB ah k s
  | 0, s, hs, hk => by
    have := (left_0 hs).mp hk
    show (if s = _ then _ else _ : List (List Nat)).length = if s = _ then 1 else 0
    rw [if_pos this, if_pos this]
    rfl
  | k + 1, s, hs, hk => by
    have nf : ¬ s = 2 ^ ah.length - 1 := fun z => by
      have := (left_0 hs).mpr z
      omega
    show ((nextB ah s).flatMap fun w => (extB ah k (putB s w)).map (w :: ·)).length = (if s = _ then 1 else 0) + _
    rw [if_neg nf, List.length_flatMap, Nat.zero_add]
    congr 1
    refine List.map_congr_left fun w hw => ?_
    obtain ⟨h1, h2, _⟩ := mem_nextB.mp hw
    have hl := left_put h1 h2
    rw [List.length_map, ext_lenB k (putB s w) (put_lt hs h1) (by omega)]
theorem ext_len {ah : List Nat} {s : Nat} (hs : s < 2 ^ ah.length) : (extF ah s).length = cntF ah s := ext_lenB _ _ hs rfl
theorem extF_at {ah : List Nat} {s k : Nat} (hk : leftB ah.length s = k + 1) : extF ah s = (nextB ah s).flatMap fun w => (extF ah (putB s w)).map (w :: ·) := by
  unfold extF
  rw [hk]
  show List.flatMap _ _ = _
  rw [List.flatMap_def, List.flatMap_def]
  congr 1
  refine List.map_congr_left fun w hw => ?_
  obtain ⟨h1, h2, _⟩ := mem_nextB.mp hw
  have hl := left_put h1 h2
  rw [show leftB ah.length (putB s w) = k by omega]
theorem ext_full {ah : List Nat} {s : Nat} (hs : s < 2 ^ ah.length) (hk : leftB ah.length s = 0) : extF ah s = [[]] := by
  unfold extF
  rw [hk]
  exact if_pos ((left_0 hs).mp hk)
theorem flat_inv {α β : Type} (F : α → List β) : ∀ {L : List α} {j : Nat} {y : β}, (L.flatMap F)[j]? = some y → ∃ i x r, L[i]? = some x ∧ (F x)[r]? = some y ∧ j = ((L.take i).map fun y => (F y).length).sum + r
  | [], j, _, h => by cases h
  | z :: L, j, y, h => by
    rw [List.flatMap_cons] at h
    by_cases c : j < (F z).length
    · rw [List.getElem?_append_left c] at h
      exact ⟨0, z, j, rfl, h, by simp⟩
    · rw [List.getElem?_append_right (by omega)] at h
      obtain ⟨i, x, r, h1, h2, h3⟩ := flat_inv F h
      refine ⟨i + 1, x, r, h1, h2, ?_⟩
      rw [List.take_succ_cons, List.map_cons, List.sum_cons]
      omega
theorem ext_split {ah : List Nat} {s k j : Nat} {l : List Nat} (hk : leftB ah.length s = k + 1) (h : (extF ah s)[j]? = some l) : ∃ i w r t, (nextB ah s)[i]? = some w ∧ (extF ah (putB s w))[r]? = some t ∧ l = w :: t ∧ j = (((nextB ah s).take i).map fun y => (extF ah (putB s y)).length).sum + r := by
  rw [extF_at hk] at h
  obtain ⟨i, w, r, h1, h2, h3⟩ := flat_inv _ h
  rw [List.getElem?_map] at h2
  cases e : (extF ah (putB s w))[r]? with
  | none => rw [e] at h2; cases h2
  | some t =>
    rw [e] at h2
    refine ⟨i, w, r, t, h1, e, (Option.some.inj h2).symm, ?_⟩
    simp only [List.length_map] at h3
    exact h3
def numF (ah : List Nat) : Nat → List Nat → Nat
  | _, [] => 0
  | s, w :: t => (((nextB ah s).filter fun y => decide (y < w)).map fun y => cntF ah (putB s y)).sum + numF ah (putB s w) t
theorem next_pw (ah : List Nat) (s : Nat) : (nextB ah s).Pairwise (· < ·) := List.Pairwise.filter _ List.pairwise_lt_range
theorem pw_take : ∀ {L : List Nat} {i w : Nat}, L.Pairwise (· < ·) → L[i]? = some w → L.filter (fun y => decide (y < w)) = L.take i
  | [], i, _, _, h => by cases i <;> cases h
  | y :: L, 0, w, pw, h => by
    cases h
    have pw := List.pairwise_cons.mp pw
    rw [List.filter_cons_of_neg (by simp)]
    refine List.filter_eq_nil_iff.mpr fun z hz => ?_
    have := pw.1 z hz
    simp
    omega
  | y :: L, i + 1, w, pw, h => by
    have pw := List.pairwise_cons.mp pw
    have := pw.1 w (List.mem_of_getElem? h)
    rw [List.filter_cons_of_pos (by simpa using this), List.take_succ_cons, pw_take pw.2 h]
theorem num_at {ah : List Nat} : ∀ (k : Nat) {s : Nat}, s < 2 ^ ah.length → leftB ah.length s = k → ∀ {j : Nat} {l : List Nat}, (extF ah s)[j]? = some l → numF ah s l = j
  | 0, s, hs, hk, j, l, h => by
    rw [ext_full hs hk] at h
    match j, h with
    | 0, h =>
      cases h
      rfl
    | j + 1, h => cases h
  | k + 1, s, hs, hk, j, l, h => by
    obtain ⟨i, w, r, t, h1, h2, rfl, h3⟩ := ext_split hk h
    obtain ⟨m1, m2, _⟩ := mem_nextB.mp (List.mem_of_getElem? h1)
    have hl := left_put m1 m2
    show _ + numF ah (putB s w) t = j
    rw [num_at k (put_lt hs m1) (by omega) h2, pw_take (next_pw ah s) h1, h3]
    congr 2
    refine List.map_congr_left fun y hy => ?_
    obtain ⟨n1, n2, _⟩ := mem_nextB.mp (List.mem_of_mem_take hy)
    exact (ext_len (put_lt hs n1)).symm
def LowB (ah : List Nat) : Prop := ∀ w j, w < ah.length → (ah.getD w 0).testBit j = true → j < w
theorem next_ne {ah : List Nat} {s : Nat} (low : LowB ah) (hk : 0 < leftB ah.length s) : nextB ah s ≠ [] := by
  unfold leftB at hk
  cases e : (List.range ah.length).filter fun w => !s.testBit w with
  | nil => rw [e] at hk; cases hk
  | cons w t =>
    have hw : w ∈ (List.range ah.length).filter fun w => !s.testBit w := by rw [e]; exact List.mem_cons_self ..
    obtain ⟨m1, m2⟩ := List.mem_filter.mp hw
    have m1 := List.mem_range.mp m1
    have least : ∀ j, j < w → s.testBit j = true := fun j hj => by
      cases c : s.testBit j with
      | true => rfl
      | false =>
        have hj' : j ∈ (List.range ah.length).filter fun w => !s.testBit w := List.mem_filter.mpr ⟨List.mem_range.mpr (by omega), by rw [c]; rfl⟩
        rw [e] at hj'
        have pw : (w :: t).Pairwise (· < ·) := by
          rw [← e]
          exact List.Pairwise.filter _ List.pairwise_lt_range
        rcases List.mem_cons.mp hj' with z | z
        · omega
        · have := (List.pairwise_cons.mp pw).1 j z
          omega
    have : w ∈ nextB ah s := mem_nextB.mpr ⟨m1, by simpa using m2, Nat.eq_of_testBit_eq fun j => by
      rw [Nat.testBit_and]
      cases c : (ah.getD w 0).testBit j with
      | false => rfl
      | true => rw [least j (low w j m1 c)]; rfl⟩
    intro z
    rw [z] at this
    cases this
def mostB (ah : List Nat) : Nat → Nat → List Nat
  | 0, _ => []
  | k + 1, s => match (nextB ah s).getLast? with
    | none => []
    | some w => w :: mostB ah k (putB s w)
theorem ext_ne {ah : List Nat} (low : LowB ah) : ∀ (k : Nat) {s : Nat}, s < 2 ^ ah.length → leftB ah.length s = k → extF ah s ≠ []
  | 0, s, hs, hk => by
    rw [ext_full hs hk]
    simp
  | k + 1, s, hs, hk => by
    rw [extF_at hk]
    intro z
    have ne := next_ne low (s := s) (by omega)
    cases e : nextB ah s with
    | nil => exact ne e
    | cons w t =>
      rw [e, List.flatMap_cons] at z
      have hw : w ∈ nextB ah s := by rw [e]; exact List.mem_cons_self ..
      obtain ⟨m1, m2, _⟩ := mem_nextB.mp hw
      have hl := left_put m1 m2
      have := (List.append_eq_nil_iff.mp z).1
      exact ext_ne low k (put_lt hs m1) (by omega) (List.map_eq_nil_iff.mp this)
theorem last_flat {α β : Type} {F : α → List β} {L : List α} {w : α} (h : L.getLast? = some w) (hne : F w ≠ []) : (L.flatMap F).getLast? = (F w).getLast? := by
  obtain ⟨A, rfl⟩ := List.getLast?_eq_some_iff.mp h
  rw [List.flatMap_append, List.flatMap_cons, List.flatMap_nil, List.append_nil, List.getLast?_append]
  cases e : (F w).getLast? with
  | none => exact absurd (List.getLast?_eq_none_iff.mp e) hne
  | some y => rfl
theorem ext_last {ah : List Nat} (low : LowB ah) : ∀ (k : Nat) {s : Nat}, s < 2 ^ ah.length → leftB ah.length s = k → (extF ah s).getLast? = some (mostB ah k s)
  | 0, s, hs, hk => by
    rw [ext_full hs hk]
    rfl
  | k + 1, s, hs, hk => by
    rw [extF_at hk]
    have ne := next_ne low (s := s) (by omega)
    unfold mostB
    cases e : (nextB ah s).getLast? with
    | none => exact absurd (List.getLast?_eq_none_iff.mp e) ne
    | some w =>
      obtain ⟨m1, m2, _⟩ := mem_nextB.mp (List.mem_of_getLast? e)
      have hl := left_put m1 m2
      have ih := ext_last low k (put_lt hs m1) (by omega)
      have ne2 := ext_ne low k (put_lt hs m1) (by omega)
      rw [last_flat e (by intro z; exact ne2 (List.map_eq_nil_iff.mp z)), List.getLast?_map, ih]
      rfl
end HH
set_option maxHeartbeats 4000000
namespace HH
open PySem PySem.Spec PyProof.Rows L2 Evl RZ
def PairsLt (kp : HH.Row) (n : Nat) : Prop := ∀ x ∈ kp, ∃ i j : Nat, i < j ∧ j < n ∧ x = ((i : Int), (j : Int))
theorem keptT_lt (E B : List Cow) (n : Nat) : PairsLt (keptT E B n) n := fun x hx => by
  obtain ⟨i, j, h1, h2, h3, _⟩ := mem_tabP.mp hx
  exact ⟨i, j, h1, h2, h3⟩
theorem getD_setN {l : List Nat} {i w v : Nat} (hi : i < l.length) : (l.set i v).getD w 0 = if w = i then v else l.getD w 0 := by
  rw [List.getD_eq_getElem?_getD, List.getD_eq_getElem?_getD, List.getElem?_set]
  by_cases c : i = w
  · rw [if_pos c, if_pos c.symm, if_pos (by omega)]
    rfl
  · rw [if_neg c, if_neg fun z => c z.symm]
theorem fold_bits {n : Nat} : ∀ {kp : HH.Row} {ah : List Nat}, PairsLt kp n → ah.length = n → ∀ w j : Nat, ((kp.foldl stepA ah).getD w 0).testBit j = ((ah.getD w 0).testBit j || decide ((((j : Int), (w : Int)) : Int × Int) ∈ kp))
  | [], ah, _, _, w, j => by simp
  | x :: kp, ah, h, hl, w, j => by
    obtain ⟨i, k, h1, h2, rfl⟩ := h _ (List.mem_cons_self ..)
    rw [List.foldl_cons, fold_bits (fun y hy => h y (List.mem_cons_of_mem _ hy)) (by rw [stepA_len]; exact hl)]
    unfold stepA
    rw [Int.toNat_natCast, Int.toNat_natCast, getD_setN (by omega)]
    by_cases c : w = k
    · subst c
      rw [if_pos rfl, put_bit, Bool.or_assoc]
      congr 1
      have e : decide ((((j : Int), (w : Int)) : Int × Int) ∈ (((i : Int), (w : Int)) : Int × Int) :: kp) = (decide (j = i) || decide ((((j : Int), (w : Int)) : Int × Int) ∈ kp)) := by
        rw [← Bool.decide_or]
        refine decide_eq_decide.mpr ?_
        rw [List.mem_cons]
        constructor
        · rintro (z | z)
          · exact .inl (by have := congrArg Prod.fst z; dsimp only at this; omega)
          · exact .inr z
        · rintro (z | z)
          · exact .inl (by rw [z])
          · exact .inr z
      rw [e]
    · rw [if_neg c]
      congr 1
      refine decide_eq_decide.mpr ?_
      rw [List.mem_cons]
      constructor
      · exact .inr
      · rintro (z | z)
        · exact absurd (by have := congrArg Prod.snd z; dsimp only at this; omega) c
        · exact z
theorem ahead_bit {n : Nat} {kp : HH.Row} (h : PairsLt kp n) (w j : Nat) : ((aheadF kp n).getD w 0).testBit j = decide ((((j : Int), (w : Int)) : Int × Int) ∈ kp) := by
  unfold aheadF
  rw [fold_bits h (List.length_replicate ..)]
  have : (List.replicate n 0).getD w 0 = 0 := by
    rw [List.getD_eq_getElem?_getD, List.getElem?_replicate]
    split <;> rfl
  rw [this, Nat.zero_testBit, Bool.false_or]
theorem ahead_low {n : Nat} {kp : HH.Row} (h : PairsLt kp n) : LowB (aheadF kp n) := fun w j _ hb => by
  rw [ahead_bit h] at hb
  obtain ⟨i, k, h1, h2, h3⟩ := h _ (of_decide_eq_true hb)
  have a1 : (j : Int) = (i : Int) := congrArg Prod.fst h3
  have a2 : (w : Int) = (k : Int) := congrArg Prod.snd h3
  omega
def maskL (P : List Nat) : Nat := P.foldl putB 0
theorem mask_snoc (P : List Nat) (w : Nat) : maskL (P ++ [w]) = putB (maskL P) w := by
  unfold maskL
  rw [List.foldl_append]
  rfl
theorem fold_put : ∀ (P : List Nat) (s j : Nat), (P.foldl putB s).testBit j = (s.testBit j || decide (j ∈ P))
  | [], s, j => by simp
  | w :: P, s, j => by
    rw [List.foldl_cons, fold_put P, put_bit, Bool.or_assoc]
    congr 1
    rw [← Bool.decide_or]
    exact decide_eq_decide.mpr List.mem_cons.symm
theorem mask_bit (P : List Nat) (j : Nat) : (maskL P).testBit j = decide (j ∈ P) := by
  unfold maskL
  rw [fold_put, Nat.zero_testBit, Bool.false_or]
theorem mask_lt {n : Nat} : ∀ {P : List Nat}, (∀ x ∈ P, x < n) → maskL P < 2 ^ n := fun {P} h => by
  refine Nat.lt_pow_two_of_testBit _ fun i hi => ?_
  rw [mask_bit]
  exact decide_eq_false fun z => by have := h i z; omega
def OkT (ah : List Nat) : Nat → List Nat → Prop
  | s, [] => leftB ah.length s = 0
  | s, w :: t => w ∈ nextB ah s ∧ OkT ah (putB s w) t
theorem okT_mem {ah : List Nat} : ∀ (k : Nat) {s : Nat} {l : List Nat}, s < 2 ^ ah.length → leftB ah.length s = k → (l ∈ extF ah s ↔ OkT ah s l)
  | 0, s, l, hs, hk => by
    rw [ext_full hs hk, List.mem_singleton]
    cases l with
    | nil => exact ⟨fun _ => hk, fun _ => rfl⟩
    | cons w t =>
      refine ⟨fun z => (nomatch z), fun z => ?_⟩
      obtain ⟨m1, m2, _⟩ := mem_nextB.mp z.1
      have := left_put m1 m2
      omega
  | k + 1, s, l, hs, hk => by
    rw [extF_at hk, List.mem_flatMap]
    cases l with
    | nil =>
      refine ⟨fun ⟨w, _, h⟩ => ?_, fun z => ?_⟩
      · obtain ⟨_, _, z⟩ := List.mem_map.mp h
        cases z
      · have z : leftB ah.length s = 0 := z
        omega
    | cons w t =>
      constructor
      · rintro ⟨w', hw, h⟩
        obtain ⟨t', ht, z⟩ := List.mem_map.mp h
        cases z
        obtain ⟨m1, m2, _⟩ := mem_nextB.mp hw
        have := left_put m1 m2
        exact ⟨hw, (okT_mem k (put_lt hs m1) (by omega)).mp ht⟩
      · rintro ⟨hw, ht⟩
        obtain ⟨m1, m2, _⟩ := mem_nextB.mp hw
        have := left_put m1 m2
        exact ⟨w, hw, List.mem_map.mpr ⟨t, (okT_mem k (put_lt hs m1) (by omega)).mpr ht, rfl⟩⟩
theorem okT_of {n : Nat} {kp : HH.Row} (hk : PairsLt kp n) : ∀ {l P : List Nat}, (P ++ l).Perm (List.range n) → (∀ i j : Nat, (((i : Int), (j : Int)) : Int × Int) ∈ kp → j ∈ l → i ∈ P ∨ bef l i j = true) → OkT (aheadF kp n) (maskL P) l
  | [], P, pm, _ => by
    show leftB _ _ = 0
    unfold leftB
    rw [ahead_len, List.length_eq_zero_iff, List.filter_eq_nil_iff]
    intro x hx
    rw [List.append_nil] at pm
    rw [mask_bit, decide_eq_true (pm.mem_iff.mpr hx)]
    decide
  | w :: t, P, pm, h => by
    have nd : (P ++ w :: t).Nodup := pm.nodup_iff.mpr List.nodup_range
    have nd' := List.nodup_append.mp nd
    have wn : w < n := List.mem_range.mp (pm.mem_iff.mp (List.mem_append_right _ (List.mem_cons_self ..)))
    have wP : w ∉ P := fun z => nd'.2.2 w z w (List.mem_cons_self ..) rfl
    refine ⟨mem_nextB.mpr ⟨by rw [ahead_len]; exact wn, by rw [mask_bit]; exact decide_eq_false wP, Nat.eq_of_testBit_eq fun j => ?_⟩, ?_⟩
    · rw [Nat.testBit_and, mask_bit, ahead_bit hk]
      by_cases c : (((j : Int), (w : Int)) : Int × Int) ∈ kp
      · rcases h j w c (List.mem_cons_self ..) with z | z
        · rw [decide_eq_true z, Bool.and_true]
        · rcases bef_cons.mp z with ⟨z1, z2⟩ | z1
          · subst z1
            exact absurd z2 (List.nodup_cons.mp nd'.2.1).1
          · exact absurd (bef_mem z1).2 (List.nodup_cons.mp nd'.2.1).1
      · rw [decide_eq_false c, Bool.false_and]
    · rw [← mask_snoc]
      refine okT_of hk (by rw [List.append_assoc]; exact pm) fun i j hij hj => ?_
      rcases h i j hij (List.mem_cons_of_mem _ hj) with z | z
      · exact .inl (List.mem_append_left _ z)
      · rcases bef_cons.mp z with ⟨z1, _⟩ | z1
        · exact .inl (List.mem_append_right _ (by rw [z1]; exact List.mem_singleton_self _))
        · exact .inr z1
theorem okT_to {n : Nat} {kp : HH.Row} (hk : PairsLt kp n) : ∀ {l P : List Nat}, P.Nodup → (∀ x ∈ P, x < n) → OkT (aheadF kp n) (maskL P) l → (P ++ l).Perm (List.range n) ∧ ∀ i j : Nat, (((i : Int), (j : Int)) : Int × Int) ∈ kp → j ∈ l → i ∈ P ∨ bef l i j = true
  | [], P, nd, lt, h => by
    have h : leftB _ _ = 0 := h
    unfold leftB at h
    rw [ahead_len, List.length_eq_zero_iff, List.filter_eq_nil_iff] at h
    refine ⟨?_, fun i j _ z => nomatch z⟩
    rw [List.append_nil]
    refine (List.perm_ext_iff_of_nodup nd List.nodup_range).mpr fun x => ⟨fun hx => List.mem_range.mpr (lt x hx), fun hx => ?_⟩
    have := h x hx
    rw [mask_bit] at this
    simpa using this
  | w :: t, P, nd, lt, ⟨hw, ht⟩ => by
    obtain ⟨m1, m2, m3⟩ := mem_nextB.mp hw
    rw [ahead_len] at m1
    rw [mask_bit] at m2
    have wP : w ∉ P := of_decide_eq_false m2
    rw [← mask_snoc] at ht
    have ih := okT_to hk (P := P ++ [w]) (List.nodup_append.mpr ⟨nd, List.pairwise_singleton _ _, fun a ha b hb z => wP (by rw [← List.mem_singleton.mp hb, ← z]; exact ha)⟩) (fun x hx => by
      rcases List.mem_append.mp hx with z | z
      · exact lt x z
      · rw [List.mem_singleton.mp z]
        exact m1) ht
    refine ⟨by have := ih.1; rw [List.append_assoc] at this; exact this, fun i j hij hj => ?_⟩
    rcases List.mem_cons.mp hj with z | z
    · subst z
      refine .inl ?_
      have b : ((aheadF kp n).getD j 0).testBit i = true := by rw [ahead_bit hk]; exact decide_eq_true hij
      have : ((aheadF kp n).getD j 0 &&& maskL P).testBit i = ((aheadF kp n).getD j 0).testBit i := by rw [m3]
      rw [Nat.testBit_and, b, mask_bit, Bool.true_and] at this
      exact of_decide_eq_true this
    · rcases ih.2 i j hij z with y | y
      · rcases List.mem_append.mp y with x | x
        · exact .inl x
        · rw [List.mem_singleton.mp x]
          exact .inr (bef_cons.mpr (.inl ⟨rfl, z⟩))
      · exact .inr (bef_cons.mpr (.inr y))
theorem ext_mem {n : Nat} {kp : HH.Row} (hk : PairsLt kp n) {l : List Nat} : l ∈ extF (aheadF kp n) 0 ↔ l.Perm (List.range n) ∧ ∀ i j : Nat, (((i : Int), (j : Int)) : Int × Int) ∈ kp → bef l j i = false := by
  rw [okT_mem _ (Nat.two_pow_pos _) rfl]
  have z : (0 : Nat) = maskL [] := rfl
  rw [z]
  constructor
  · intro h
    obtain ⟨h1, h2⟩ := okT_to hk List.nodup_nil (fun x hx => nomatch hx) h
    rw [List.nil_append] at h1
    have nd : l.Nodup := h1.nodup_iff.mpr List.nodup_range
    refine ⟨h1, fun i j hij => ?_⟩
    obtain ⟨i', j', a1, a2, a3⟩ := hk _ hij
    have e1 : (i : Int) = (i' : Int) := congrArg Prod.fst a3
    have e2 : (j : Int) = (j' : Int) := congrArg Prod.snd a3
    rcases h2 i j hij (h1.mem_iff.mpr (List.mem_range.mpr (by omega))) with y | y
    · cases y
    · exact bef_asym nd y
  · rintro ⟨h1, h2⟩
    have nd : l.Nodup := h1.nodup_iff.mpr List.nodup_range
    refine okT_of hk (by rw [List.nil_append]; exact h1) fun i j hij hj => .inr ?_
    obtain ⟨i', j', a1, a2, a3⟩ := hk _ hij
    have e1 : (i : Int) = (i' : Int) := congrArg Prod.fst a3
    have e2 : (j : Int) = (j' : Int) := congrArg Prod.snd a3
    exact bef_tot hj (h1.mem_iff.mpr (List.mem_range.mpr (by omega))) (by omega) (h2 i j hij)
theorem ext_keeps {rs : HH.Row} {E B : List Cow} (tl : ∀ x ∈ rs, 0 ≤ x.2) (sE : Steps (tag 0 rs) E) (nE : Nf E) (sB : FSteps (tag 0 rs) B) (nB : Ff B) {l : List Nat} : l ∈ extF (aheadF (keptT E B rs.length) rs.length) 0 ↔ Keeps rs l := by
  rw [ext_mem (keptT_lt E B _)]
  constructor
  · rintro ⟨h1, h2⟩
    refine ⟨h1, fun E' B' sE' nE' sB' nB' i j a1 a2 a3 a4 => ?_⟩
    have t0 : ∀ x ∈ tag 0 rs, 0 ≤ x.2.2 := (good_tag tl).tl
    rw [nf_any t0 sE' nE' sE nE] at a3
    rw [ff_any t0 sB' nB' sB nB] at a4
    exact h2 i j (mem_tabP.mpr ⟨i, j, a1, a2, rfl, (keep_iff a1).mpr ⟨a3, a4⟩⟩)
  · intro k
    refine ⟨k.ids, fun i j hij => ?_⟩
    obtain ⟨i', j', a1, a2, a3, a4⟩ := mem_tabP.mp hij
    have e1 : (i : Int) = (i' : Int) := congrArg Prod.fst a3
    have e2 : (j : Int) = (j' : Int) := congrArg Prod.snd a3
    obtain ⟨b1, b2⟩ := (keep_iff a1).mp a4
    rw [show i = i' by omega, show j = j' by omega]
    exact k.kp E B sE nE sB nB i' j' a1 a2 b1 b2
end HH
set_option maxHeartbeats 4000000
namespace HH
open PySem PySem.Spec PyProof.Rows L2 Evl RZ
abbrev ahOf (E B : List Cow) (rs : HH.Row) : List Nat := aheadF (keptT E B rs.length) rs.length
structure EndsOf (rs : HH.Row) (E B : List Cow) : Prop where
  sE : Steps (tag 0 rs) E
  nE : Nf E
  sB : FSteps (tag 0 rs) B
  nB : Ff B
theorem kept_any {rs : HH.Row} {E B E' B' : List Cow} (tl : ∀ x ∈ rs, 0 ≤ x.2) (h : EndsOf rs E B) (h' : EndsOf rs E' B') : E = E' ∧ B = B' := by
  have t0 : ∀ x ∈ tag 0 rs, 0 ≤ x.2.2 := (good_tag tl).tl
  exact ⟨nf_any t0 h.sE h.nE h'.sE h'.nE, ff_any t0 h.sB h.nB h'.sB h'.nB⟩
theorem ext_size {ah : List Nat} : ∀ (k : Nat) {s : Nat} {l : List Nat}, s < 2 ^ ah.length → leftB ah.length s = k → l ∈ extF ah s → l.length = k
  | 0, s, l, hs, hk, h => by
    rw [ext_full hs hk, List.mem_singleton] at h
    rw [h]
    rfl
  | k + 1, s, l, hs, hk, h => by
    rw [extF_at hk] at h
    obtain ⟨w, hw, h⟩ := List.mem_flatMap.mp h
    obtain ⟨t, ht, rfl⟩ := List.mem_map.mp h
    obtain ⟨m1, m2, _⟩ := mem_nextB.mp hw
    have := left_put m1 m2
    rw [List.length_cons, ext_size k (put_lt hs m1) (by omega) ht]
theorem q_callC {sp : Sp} {E : XK} {ta : TE} {tr : TA} {g : TG} {tz : TS} {D : Ends} {σ : L2.St} {H : Hp} (h : ta σ H fun x H1 => tr σ H1 fun xs H2 => sp ((x :: xs) ++ []) H2 (fun y H3 => g y σ H3 (tz D)) E) : tSeq (tAsg (tCall sp [] E (tCons ta tr)) g) tz D σ H := h
theorem sq_exK {K : PySem.W.Frag} {b a : Addr} {H H' : Hp} {kvs : List (Key × V)} {xs : List V} (e : ExB b H H') (hb : H b = some (.dK kvs)) (h : SqT K H a xs) : SqT K H' a xs := by
  rcases h with h | h
  · refine .inl (e.rd (fun z => ?_) h)
    subst z
    rcases h with h | ⟨o, h⟩
    · rw [hb] at h
      cases h
    · rw [hb] at h
      cases h
  · exact .inr h
def spMany (K : PySem.W.Frag) : Sp := fun vs H Q _ => ∃ (v : V) (rs : HH.Row) (E B : List Cow), vs = [v] ∧ RowAt K H v rs ∧ rs.length ≤ 12 ∧ (∀ b ∈ rs, 0 ≤ b.2) ∧ EndsOf rs E B ∧ ∀ H', Ex H H' → Q (.int (cntF (ahOf E B rs) 0 : Int)) H'
def spOrderX (K : PySem.W.Frag) (C : Addr) : Sp := fun vs H Q X => ∃ (v : V) (rs : HH.Row) (E B : List Cow) (num : Int), vs = [v, .int num] ∧ RowAt K H v rs ∧ rs.length ≤ 12 ∧ (∀ b ∈ rs, 0 ≤ b.2) ∧ EndsOf rs E B ∧
  (∀ (k : Nat) (l : List Nat), num = (k : Int) → (extF (ahOf E B rs) 0)[k]? = some l → ∀ (o : Addr) (H' : Hp), H o = none → Ex H H' → H' o = some (.tup (natsV l)) → Q (.ref o) H') ∧
  ((num < 0 ∨ (cntF (ahOf E B rs) 0 : Int) ≤ num) → ∀ (d : Addr) (H' : Hp), Ex H H' → H' d = none → X (.ref C) (some d) (upd H' d (.xd [(("number" : Str), .int num)])))
def spNumOf (K : PySem.W.Frag) : Sp := fun vs H Q _ => ∃ (v : V) (o : Addr) (rs : HH.Row) (L E B : List Cow), vs = [v, .ref o] ∧ Went K H v o rs L ∧ rs.length ≤ 12 ∧ EndsOf rs E B ∧ ∀ H', Ex H H' → Q (.int (numF (ahOf E B rs) 0 (L.map (·.1)) : Int)) H'
def sumCut (ps : HH.Row) (k : Nat) : Int := ((ps.take k).map (·.2)).sum
theorem cut_succ {ps : HH.Row} {k : Nat} {p : Int × Int} (h : ps[k]? = some p) : sumCut ps (k + 1) = sumCut ps k + p.2 := by
  unfold sumCut
  rw [List.take_add_one, h, List.map_append, List.sum_append]
  show _ + (p.2 + 0) = _
  omega
theorem cut_mono {ps : HH.Row} (h : ∀ p ∈ ps, 0 ≤ p.2) {i j : Nat} (hij : i ≤ j) (hj : j ≤ ps.length) : sumCut ps i ≤ sumCut ps j := by
  induction j with
  | zero => rw [show i = 0 by omega]; exact Int.le_refl _
  | succ j ih =>
    rcases Nat.lt_or_ge i (j + 1) with c | c
    · have hp : ps[j]? = some ps[j] := List.getElem?_eq_getElem (by omega)
      rw [cut_succ hp]
      have := h _ (List.mem_of_getElem? hp)
      have := ih (by omega) (by omega)
      omega
    · rw [show i = j + 1 by omega]
      exact Int.le_refl _
def spPicked (K : PySem.W.Frag) : Sp := fun vs H Q _ => ∃ (a : Addr) (us : List V) (ps : HH.Row) (num : Int) (i : Nat) (r w c : Int), vs = [.ref a, .int num] ∧ H a = some (.lst us) ∧ BeastsT H us ps ∧ ps.length ≤ 30 ∧ ps[i]? = some (w, c) ∧ (∀ p ∈ ps, 0 ≤ p.2) ∧ num = sumCut ps i + r ∧ 0 ≤ r ∧ r < c ∧
  ∀ (q : Addr) (H' : Hp), H q = none → Ex H H' → H' q = some (.tup [.int w, .int r]) → Q (.ref q) H'
theorem beastsT_exD {H H' : Hp} {d : Addr} {kvs : List (Key × V)} {us : List V} {ps : HH.Row} (h : BeastsT H us ps) (x : ExB d H H') (hd : H d = some (.dK kvs)) : BeastsT H' us ps := All2.mono (fun v b g => by
  obtain ⟨T, h1, h2⟩ := g
  exact ⟨T, h1, x _ _ (fun z => by rw [z, hd] at h2; cases h2) h2⟩) h
section
variable {K : PySem.W.Frag} {σ : L2.St} {H : Hp} {tl : TE}
theorem el_shares {na d a : Addr} {ws ah vs : List Nat} {st : Nat} {kvs : List (Key × V)} (hn : Ev tl σ H (.ref na)) (gn : H na = some (.lst (natsV ws))) (ga : H a = some (.lst (natsV ah))) (gd : H d = some (.dK kvs)) (kn : KnowsB ah kvs) (hl : ah.length ≤ 12) (hs : st < 2 ^ ah.length) (hw : ∀ w ∈ ws, w < ah.length ∧ st.testBit w = false) (hz : ws.length ≤ 30)
    (wi : ∀ x, wipe ((wipe σ vs).set 9 (some x)) vs = wipe σ vs) (s2 : ∀ x : V, ((wipe σ vs).set 9 (some x))[2]? = some (some (.ref a))) (s3 : ∀ x : V, ((wipe σ vs).set 9 (some x))[3]? = some (some (.ref d))) (s5 : ∀ x : V, ((wipe σ vs).set 9 (some x))[5]? = some (some (.int (st : Int)))) (s9 : ∀ x : V, ((wipe σ vs).set 9 (some x))[9]? = some (some x)) {Q : VK}
    (q : ∀ (D : Addr) (us : List V) (kvs2 : List (Key × V)) (H2 : Hp), H D = none → ExB d H H2 → H2 D = some (.lst us) → BeastsT H2 us (ws.map fun (w : Nat) => ((w : Int), (cntF ah (putB st w) : Int))) → H2 d = some (.dK kvs2) → KnowsB ah kvs2 → Q (.ref D) H2) :
    tLc (iList K tl) (gName 9) tYes (tTup (tCons (tVar 9) (tCons (tCall (spBehind K 13) [] E0 (tCons (tVar 2) (tCons (tOp (rI0 fun i j => .int (Builtin.bitOr i j)) (tVar 5) (tOp (rI CPow fun i j => .int (i * 2 ^ j.toNat)) (tC (.int 1)) (tVar 9))) (tCons (tVar 3) tNil)))) tNil))) vs σ H Q :=
  hn H (Ex.refl H) _ fun H1 e1 => ⟨na, rfl, ⟨natsV ws, sq_of (e1 _ _ gn)⟩, fun Dl hD => by
    have nDd : Dl ≠ d := fun z => by rw [z, e1 _ _ gd] at hD; cases hD
    have nad : a ≠ d := fun z => by rw [z, gd] at ga; cases ga
    have nnd : na ≠ d := fun z => by rw [z, gd] at gn; cases gn
    have nnD : na ≠ Dl := ne_of_none (e1 _ _ gn) hD
    refine lc_list (xs := natsV ws) (fun k H' => ∃ (us : List V) (kvs2 : List (Key × V)), ExB d H1 H' ∧ H' Dl = some (.lst us) ∧ BeastsT H' us ((ws.take k).map fun (w : Nat) => ((w : Int), (cntF ah (putB st w) : Int))) ∧ H' d = some (.dK kvs2) ∧ KnowsB ah kvs2) ⟨[], kvs, .of (Ex.new hD), upd_same, .nil, Ex.new hD _ _ (e1 _ _ gd), kn⟩ (fun k H' _ p => ?_) (fun k x H' hx p => ?_) (fun H' p => ?_)
    · obtain ⟨us, kvs2, x1, _⟩ := p
      exact sq_of (x1 _ _ nnd (e1 _ _ gn))
    · obtain ⟨us, kvs2, x1, gD, bs, gd2, kn2⟩ := p
      have hk : k < ws.length := by
        have := (List.getElem?_eq_some_iff.mp hx).1
        rw [natsV_len] at this
        exact this
      have hyk : ws[k]? = some ws[k] := List.getElem?_eq_getElem hk
      have hx2 := natsV_at hyk
      rw [hx] at hx2
      cases hx2
      have tk : ((ws.take (k + 1)).map fun (w : Nat) => ((w : Int), (cntF ah (putB st w) : Int))) = ((ws.take k).map fun (w : Nat) => ((w : Int), (cntF ah (putB st w) : Int))) ++ [((ws[k] : Int), (cntF ah (putB st ws[k]) : Int))] := by
        rw [List.take_add_one, hyk, List.map_append]
        rfl
      rw [tk]
      obtain ⟨w1, w2⟩ := hw _ (List.getElem_mem hk)
      generalize ws[k] = y at hyk w1 w2 ⊢
      refine ⟨wi _, ?_⟩
      unfold tYes
      dsimp only
      rw [if_pos rfl]
      refine ⟨.int (y : Int), s9 _, .ref a, s2 _, ?_⟩
      refine (ev_put (s := st) (w := y) (ev_var (s5 _)) (ev_var (s9 _)) (by omega)) H' (Ex.refl _) _ fun H5 e5 => ⟨.ref d, s3 _, a, d, ah, putB st y, kvs2, rfl, e5 _ _ (x1 _ _ nad (e1 _ _ ga)), hl, put_lt hs w1, by have := left_le ah.length (putB st y); omega, e5 _ _ gd2, kn2, fun kvs3 H6 x6 g6 k6 => ⟨by show 2 ≤ sizeLine; decide, fun T hT => ?_⟩⟩
      have nT := Ex.new (o := .tup [V.int (y : Int), .int (cntF ah (putB st y) : Int)]) hT
      have x56 := (ExB.of e5).trans x6
      have gD6 := x56 _ _ nDd gD
      have bs6 := BeastsT.ex' (beastsT_exD bs x56 gd2) nT
      have nTD : T ≠ Dl := Ne.symm (ne_of_none gD6 hT)
      refine ⟨us, nT _ _ gD6, sz_lt (by have := All2.len bs; rw [List.length_map, List.length_take] at this; omega), us ++ [.ref T], kvs3, ?_, upd_same, ?_, ?_, k6⟩
      · exact fun c o n hc => by
          have nc : c ≠ Dl := ne_of_none hc hD
          rw [upd_ne nc]
          exact nT _ _ (x56 c o n (x1 c o n hc))
      · have x7 : ExB Dl (upd H6 T (.tup [V.int (y : Int), .int (cntF ah (putB st y) : Int)])) (upd (upd H6 T (.tup [V.int (y : Int), .int (cntF ah (putB st y) : Int)])) Dl (.lst (us ++ [.ref T]))) := (ExB.refl _ _).upd
        refine BeastsT.exB' (All2.app bs6 (.cons ⟨T, rfl, upd_same⟩ .nil)) x7 (nT _ _ gD6)
      · rw [upd_ne (Ne.symm nDd)]
        exact nT _ _ g6
    · obtain ⟨us, kvs2, x1, gD, bs, gd2, kn2⟩ := p
      rw [natsV_len, List.take_length] at bs
      exact q Dl us kvs2 H' (fresh_back e1 hD) ((ExB.of e1).trans x1) gD bs gd2 kn2⟩
end
end HH
set_option maxHeartbeats 4000000
namespace HH
open PySem PySem.Spec PyProof.Rows L2 Evl RZ
theorem left_zero (n : Nat) : leftB n 0 = n := by
  unfold leftB
  rw [List.filter_eq_self.mpr fun x _ => by rw [Nat.zero_testBit]; rfl, List.length_range]
section
variable {K : PySem.W.Frag} {σ : L2.St} {H : Hp}
end
end HH
set_option maxHeartbeats 4000000
namespace HH
open PySem PySem.Spec PyProof.Rows L2 Evl RZ
end HH
set_option maxHeartbeats 4000000
namespace HH
open PySem PySem.Spec PyProof.Rows L2 Evl RZ
def facB : Nat → Nat
  | 0 => 1
  | k + 1 => (k + 1) * facB k
section
variable {K : PySem.W.Frag} {σ : L2.St} {H : Hp} {ta tb : TE}
end
end HH
set_option maxHeartbeats 4000000
namespace HH
open PySem PySem.Spec PyProof.Rows L2 Evl RZ
section
variable {K : PySem.W.Frag} {σ : L2.St} {H : Hp} {ta tb te : TE} {x y : V}
end
def keyN (l : List Nat) : List Key := keyI (l.map fun (k : Nat) => (k : Int))
theorem keyN_V (l : List Nat) : (keyN l).map kV = natsV l := by
  unfold keyN
  rw [keyI_V, ← natsV_int]
theorem keyN_inj {l m : List Nat} (h : keyN l = keyN m) : l = m := by
  have h2 : natsV l = natsV m := by rw [← keyN_V, ← keyN_V, h]
  unfold natsV at h2
  exact List.map_inj_right (fun a b e => by injection e with e; omega) |>.mp h2
structure GoneD (K : PySem.W.Frag) (H : Hp) (rs : HH.Row) (kvs : List (List Key × V)) (G : List (List Nat)) : Prop where
  keys : kvs.map (·.1) = G.map keyN
  nd : G.Nodup
  rows : ∀ l ∈ G, ∃ v L ds, valV kvs (keyN l) = some v ∧ MRun (tag 0 rs) L ds ∧ L.map (·.1) = l ∧ RowAt K H v (rowsOf L)
theorem GoneD.ex {K : PySem.W.Frag} {H H' : Hp} {rs : HH.Row} {kvs : List (List Key × V)} {G : List (List Nat)} (h : GoneD K H rs kvs G) (e : Ex H H') : GoneD K H' rs kvs G := ⟨h.keys, h.nd, fun l hl => by
  obtain ⟨v, L, ds, h1, h2, h3, h4⟩ := h.rows l hl
  exact ⟨v, L, ds, h1, h2, h3, h4.ex e⟩⟩
theorem GoneD.has {K : PySem.W.Frag} {H : Hp} {rs : HH.Row} {kvs : List (List Key × V)} {G : List (List Nat)} (h : GoneD K H rs kvs G) (l : List Nat) : (valV kvs (keyN l)).isSome = decide (l ∈ G) := by
  by_cases c : l ∈ G
  · obtain ⟨v, _, _, h1, _⟩ := h.rows l c
    rw [h1, decide_eq_true c]
    rfl
  · rw [decide_eq_false c, ← valV_any]
    rw [List.any_eq_false]
    intro kv hkv z
    have z := of_decide_eq_true z
    have : kv.1 ∈ G.map keyN := by rw [← h.keys]; exact List.mem_map.mpr ⟨kv, hkv, rfl⟩
    obtain ⟨m, hm, em⟩ := List.mem_map.mp this
    rw [z] at em
    exact c (keyN_inj em ▸ hm)
theorem GoneD.put {K : PySem.W.Frag} {H : Hp} {rs : HH.Row} {kvs : List (List Key × V)} {G : List (List Nat)} (h : GoneD K H rs kvs G) {l : List Nat} (hl : l ∉ G) {v : V} {L : List Cow} {ds : List Deed} (r : MRun (tag 0 rs) L ds) (e : L.map (·.1) = l) (hv : RowAt K H v (rowsOf L)) : GoneD K H rs (putK kvs (keyN l) v) (G ++ [l]) := by
  have h0 : valV kvs (keyN l) = none := by
    have := h.has l
    rw [decide_eq_false hl] at this
    cases c : valV kvs (keyN l) with
    | none => rfl
    | some x => rw [c] at this; cases this
  rw [put_new h0]
  refine ⟨by rw [List.map_append, h.keys, List.map_append]; rfl, List.nodup_append.mpr ⟨h.nd, List.pairwise_singleton _ _, fun a ha b hb z => hl (by rw [← List.mem_singleton.mp hb, ← z]; exact ha)⟩, fun m hm => ?_⟩
  rw [valV_snoc _ _ _ _ h0]
  by_cases c : m = l
  · subst c
    rw [if_pos rfl]
    exact ⟨v, L, ds, rfl, r, e, hv⟩
  · rw [if_neg fun z => c (keyN_inj z)]
    rcases List.mem_append.mp hm with z | z
    · exact h.rows m z
    · exact absurd (List.mem_singleton.mp z) c
theorem GoneD.exL {K : PySem.W.Frag} {d : Addr} {H H' : Hp} {xs : List V} {rs : HH.Row} {kvs : List (List Key × V)} {G : List (List Nat)} (h : GoneD K H rs kvs G) (e : ExB d H H') (hd : H d = some (.lst xs)) : GoneD K H' rs kvs G := ⟨h.keys, h.nd, fun l hl => by
  obtain ⟨v, L, ds, h1, h2, h3, h4⟩ := h.rows l hl
  exact ⟨v, L, ds, h1, h2, h3, RowAt.exL h4 e hd⟩⟩
def TupsN (H : Hp) (us : List V) (ls : List (List Nat)) : Prop := All2 (fun v l => ∃ b, v = .ref b ∧ H b = some (.tup (natsV l))) us ls
theorem TupsN.exB {d : Addr} {H H' : Hp} {us : List V} {ls : List (List Nat)} (h : TupsN H us ls) (e : ExB d H H') (hd : ∀ xs, H d ≠ some (.tup xs)) : TupsN H' us ls := All2.mono (fun v l ⟨b, h1, h2⟩ => ⟨b, h1, e _ _ (fun z => hd _ (by rw [← z]; exact h2)) h2⟩) h
theorem TupsN.dp {K : PySem.W.Frag} {H : Hp} : ∀ {us : List V} {ls : List (List Nat)}, TupsN H us ls → DpAll K H us (ls.map natsD)
  | _, _, .nil => .nil
  | _, _, .cons ⟨b, h1, h2⟩ t => by rw [h1]; exact .cons (dp_nats (st_of h2)) (TupsN.dp t)
theorem TupsN.ex {H H' : Hp} {us : List V} {ls : List (List Nat)} (h : TupsN H us ls) (e : Ex H H') : TupsN H' us ls := All2.mono (fun v l ⟨b, h1, h2⟩ => ⟨b, h1, e _ _ h2⟩) h
theorem TupsN.at {H : Hp} {us : List V} {ls : List (List Nat)} (h : TupsN H us ls) {k : Nat} {l : List Nat} (hk : ls[k]? = some l) : ∃ b, us[k]? = some (.ref b) ∧ H b = some (.tup (natsV l)) := by
  have hl := (List.getElem?_eq_some_iff.mp hk).1
  have hu : us[k]? = some (us[k]'(by rw [All2.len h]; exact hl)) := List.getElem?_eq_getElem _
  obtain ⟨l', h1, b, h2, h3⟩ := All2.get h hu
  rw [hk] at h1
  cases h1
  exact ⟨b, by rw [hu, h2], h3⟩
section
variable {K : PySem.W.Frag} {σ : L2.St} {H : Hp} {ta tb te : TE}
end
end HH
set_option maxHeartbeats 4000000
namespace HH
open PySem PySem.Spec PyProof.Rows L2 Evl RZ
section
variable {K : PySem.W.Frag} {σ : L2.St} {H : Hp} {ta tb te : TE}
end
end HH
set_option maxHeartbeats 4000000
namespace HH
open PySem PySem.Spec PyProof.Rows L2 Evl RZ
section
variable {K : PySem.W.Frag} {σ : L2.St} {H : Hp} {ta tb te : TE} {x y : V}
end
def spComes (K : PySem.W.Frag) : Sp := fun vs H Q _ => ∃ (v : V) (o : Addr) (rs : HH.Row) (l : List Nat) (E B : List Cow), vs = [v, .ref o] ∧ OrdAt K H v o rs l ∧ Steps (tag 0 rs) E ∧ Nf E ∧ FSteps (tag 0 rs) B ∧ Ff B ∧
  ∀ H', Ex H H' → Q (.bl (barF (E.map (·.1)) (B.map (·.1)) l rs.length).isNone) H'
end HH
set_option maxHeartbeats 4000000
namespace HH
open PySem PySem.Spec PyProof.Rows L2 Evl RZ
def ToldR (H : Hp) : Option (Int × Int) → V → Prop
  | none, v => v = .non
  | some pr, v => ∃ q T : Addr, v = .ref q ∧ H q = some (.lst [.ref T]) ∧ H T = some (.tup [.int pr.1, .int pr.2])
theorem ToldR.ex {H H' : Hp} (e : Ex H H') : ∀ {b : Option (Int × Int)} {v : V}, ToldR H b v → ToldR H' b v
  | none, _, h => h
  | some pr, _, ⟨q, T, h1, h2, h3⟩ => ⟨q, T, h1, e _ _ h2, e _ _ h3⟩
theorem ToldR.upd {H : Hp} {D : Addr} {xs : List V} {o : HO} (hD : H D = some (.lst xs)) : ∀ {b : Option (Int × Int)} {v : V}, v ≠ .ref D → ToldR H b v → ToldR (upd H D o) b v
  | none, _, _, h => h
  | some pr, _, n, ⟨q, T, h1, h2, h3⟩ => ⟨q, T, h1, by rw [upd_ne (fun z => n (by rw [h1, z]))]; exact h2, by rw [upd_ne (fun z => by rw [z, hD] at h3; cases h3)]; exact h3⟩
section
variable {K : PySem.W.Frag} {σ : L2.St} {H : Hp} {ta tb te : TE}
end
end HH
set_option maxHeartbeats 4000000
namespace HH
open PySem PySem.Spec PyProof.Rows L2 Evl RZ
theorem bar_none {rs : HH.Row} {E B : List Cow} {l : List Nat} (tl : ∀ x ∈ rs, 0 ≤ x.2) (en : EndsOf rs E B) (ids : l.Perm (List.range rs.length)) : (barF (E.map (·.1)) (B.map (·.1)) l rs.length).isNone = decide (l ∈ extF (ahOf E B rs) 0) := by
  obtain ⟨sE, nE, sB, nB⟩ := en
  have ek := ext_keeps (l := l) tl sE nE sB nB
  by_cases c : Keeps rs l
  · have cc : l ∈ extF (ahOf E B rs) 0 := ek.mpr c
    rw [decide_eq_true cc, Option.isNone_iff_eq_none]
    unfold barF
    rw [List.find?_eq_none]
    intro x hx
    obtain ⟨i, j, h1, h2, rfl, h3⟩ := mem_tabP.mp hx
    rw [Int.toNat_natCast, Int.toNat_natCast]
    obtain ⟨h4, h5⟩ := (keep_iff h1).mp h3
    rw [c.kp E B sE nE sB nB i j h1 h2 h4 h5]
    decide
  · have cc : ¬ l ∈ extF (ahOf E B rs) 0 := fun z => c (ek.mp z)
    rw [decide_eq_false cc, Bool.eq_false_iff]
    intro z
    exact c (keeps_none tl sE nE sB nB ids (Option.isNone_iff_eq_none.mp z))
theorem none_nk {K : PySem.W.Frag} (vs : List V) (H : Hp) (Q : VK) (X : XK) (h : spNone K vs H Q X) : spFirstNK K vs H Q X := by
  obtain ⟨v, o, rs, L, rfl, W, q⟩ := h
  obtain ⟨ds, r⟩ := W.run
  obtain ⟨E, sE, nE⟩ := nf_is (good_tag W.tl).tl
  obtain ⟨B, sB, nB⟩ := ff_is (good_tag W.tl).tl
  have k := run_keeps W.tl r
  have hn : barF (E.map (·.1)) (B.map (·.1)) (L.map (·.1)) rs.length = none := by
    have := bar_none W.tl ⟨sE, nE, sB, nB⟩ k.ids
    have kk : L.map (·.1) ∈ extF (ahOf E B rs) 0 := (ext_keeps W.tl sE nE sB nB).mpr k
    rw [decide_eq_true kk, Option.isNone_iff_eq_none] at this
    exact this
  exact ⟨v, o, rs, L.map (·.1), E, B, rfl, ⟨W.row, W.len, W.tl, W.ord, k.ids⟩, sE, nE, sB, nB, fun _ => q, fun pr h => by rw [hn] at h; cases h⟩
section
variable {K : PySem.W.Frag} {σ : L2.St} {H : Hp} {te : TE} {v : V} {rs R : HH.Row} {L : List Cow} {X : XK}
end
end HH
set_option maxHeartbeats 4000000
namespace HH
open PySem PySem.Spec PyProof.Rows L2 Evl RZ
theorem sub_len : ∀ {A M : List Nat}, A.Nodup → (∀ x ∈ A, x ∈ M) → A.length ≤ M.length
  | [], _, _, _ => Nat.zero_le _
  | a :: A, M, nd, h => by
    obtain ⟨M1, M2, rfl⟩ := List.append_of_mem (h a (List.mem_cons_self ..))
    have nd' := List.nodup_cons.mp nd
    have := sub_len (A := A) (M := M1 ++ M2) nd'.2 fun x hx => by
      have := h x (List.mem_cons_of_mem _ hx)
      rcases List.mem_append.mp this with z | z
      · exact List.mem_append_left _ z
      · rcases List.mem_cons.mp z with z | z
        · subst z
          exact absurd hx nd'.1
        · exact List.mem_append_right _ z
    rw [List.length_append] at *
    rw [List.length_cons, List.length_cons]
    omega
def KeptR (E B : List Cow) (n i j : Nat) : Prop := i < j ∧ j < n ∧ bef (E.map (·.1)) j i = false ∧ bef (B.map (·.1)) j i = false
theorem kept_mem {E B : List Cow} {n i j : Nat} : (((i : Int), (j : Int)) : Int × Int) ∈ keptT E B n ↔ KeptR E B n i j := by
  unfold keptT KeptR
  rw [mem_tabP]
  constructor
  · rintro ⟨i', j', h1, h2, h3, h4⟩
    injection h3 with h3 h5
    have e1 : i = i' := by omega
    have e2 : j = j' := by omega
    subst e1 e2
    exact ⟨h1, h2, (keep_iff h1).mp h4⟩
  · rintro ⟨h1, h2, h3⟩
    exact ⟨i, j, h1, h2, rfl, (keep_iff h1).mpr h3⟩
def aheadL (kd : HH.Row) (w : Nat) : List Nat := (kd.filter fun x => decide (x.2 = (w : Int))).map fun x => x.1.toNat
def behindL (kd : HH.Row) (w : Nat) : List Nat := (kd.filter fun x => decide (x.1 = (w : Int))).map fun x => x.2.toNat
theorem rise_tabP (p : Nat → Nat → Bool) (n : Nat) : (tabP p n n).Pairwise fun x y => x.1 < y.1 ∨ (x.1 = y.1 ∧ x.2 < y.2) := by
  unfold tabP
  rw [List.pairwise_flatMap]
  constructor
  · intro i hi
    unfold tabPR
    rw [List.pairwise_map]
    refine (List.pairwise_lt_range.filter _).imp fun {a b} h => .inr ⟨rfl, ?_⟩
    show ((i + 1 + a : Nat) : Int) < ((i + 1 + b : Nat) : Int)
    omega
  · refine List.pairwise_lt_range.imp fun {a b} h x hx y hy => .inl ?_
    unfold tabPR at hx hy
    obtain ⟨k, _, rfl⟩ := List.mem_map.mp hx
    obtain ⟨k', _, rfl⟩ := List.mem_map.mp hy
    show (a : Int) < (b : Int)
    omega
theorem mem_behindL {E B : List Cow} {n w j : Nat} : j ∈ behindL (keptT E B n) w ↔ KeptR E B n w j := by
  unfold behindL
  rw [List.mem_map]
  constructor
  · rintro ⟨x, hx, rfl⟩
    obtain ⟨h1, h2⟩ := List.mem_filter.mp hx
    obtain ⟨i, j, a, b, rfl, c⟩ := mem_tabP.mp h1
    have h2 : (i : Int) = (w : Int) := of_decide_eq_true h2
    have : i = w := by omega
    subst this
    rw [Int.toNat_natCast]
    exact kept_mem.mp h1
  · intro h
    exact ⟨((w : Int), (j : Int)), List.mem_filter.mpr ⟨kept_mem.mpr h, decide_eq_true rfl⟩, Int.toNat_natCast _⟩
theorem rise_behindL {E B : List Cow} {n w : Nat} : (behindL (keptT E B n) w).Pairwise (· < ·) := by
  unfold behindL keptT
  rw [List.pairwise_map]
  refine ((rise_tabP _ n).filter _).imp_of_mem fun {a b} ha hb h => ?_
  obtain ⟨h1, h2⟩ := List.mem_filter.mp ha
  obtain ⟨h3, h4⟩ := List.mem_filter.mp hb
  have h2 := of_decide_eq_true h2
  have h4 := of_decide_eq_true h4
  obtain ⟨i, j, _, _, rfl, _⟩ := mem_tabP.mp h1
  obtain ⟨i', j', _, _, rfl, _⟩ := mem_tabP.mp h3
  simp only [Int.toNat_natCast] at *
  omega
theorem nd_of_rise {l : List Nat} (h : l.Pairwise (· < ·)) : l.Nodup := h.imp fun {a b} z => Nat.ne_of_lt z
section
variable {rs : HH.Row} {E B : List Cow} {w : Nat}
end
end HH
set_option maxHeartbeats 4000000
namespace HH
open PySem PySem.Spec PyProof.Rows L2 Evl
abbrev KB := List (List Key × Addr × V)
def kvX (kb : KB) : List (List Key × V) := kb.map fun p => (p.1, p.2.2)
abbrev KX : KB → List (List Key × Addr × Value) → Prop := Paired fun p q => p.1 = q.1 ∧ p.2.1 = q.2.1 ∧ RelV p.2.2 q.2.2
theorem KX.val {kb : KB} {xs : List (List Key × Addr × Value)} (r : KX kb xs) (k : List Key) : RelO (valV (kvX kb) k) ((atKey xs k).map (·.2)) := by
  induction r with
  | nil => exact True.intro
  | @cons p q ps qs h t ih =>
    obtain ⟨h1, _, h2⟩ := h
    by_cases e : p.1 = k
    · have e' : q.1 = k := h1.symm.trans e
      have b : atKey (q :: qs) k = some q.2 := by simp [atKey, List.find?_cons, e']
      rw [b, show kvX (p :: ps) = (p.1, p.2.2) :: kvX ps from rfl, valV_pos (p := (p.1, p.2.2)) (r := kvX ps) e]
      exact h2
    · have e' : ¬ q.1 = k := fun z => e (h1.trans z)
      have b : atKey (q :: qs) k = atKey qs k := by simp [atKey, List.find?_cons, e']
      rw [b, show kvX (p :: ps) = (p.1, p.2.2) :: kvX ps from rfl, valV_neg (p := (p.1, p.2.2)) (r := kvX ps) e]
      exact ih
theorem KX.put {kb : KB} {xs : List (List Key × Addr × Value)} (r : KX kb xs) {k : List Key} {b : Addr} {y : V} {u : Value} (hn : valV (kvX kb) k = none) (ry : RelV y u) : KX (kb ++ [(k, b, y)]) (storedH xs k b u) := by
  have h0 := r.val k
  rw [hn] at h0
  have h1 : atKey xs k = none := by
    have := RelO.none_of h0
    cases c : atKey xs k with
    | none => rfl
    | some p => rw [c] at this; cases this
  rw [storedH_new h1]
  exact Paired.snoc r ⟨rfl, rfl, ry⟩
def dxP (P : Program) (w : World) (d : Addr) (kb : KB) (h : Heap) : Prop := kb.length ≤ sizeLine ∧ (d == sysModules) = false ∧ ∃ xs, KX kb xs ∧ ∃ o es ep, h.get? d = some o ∧ o.ExactDict ∧ o.data = .dict es ep ∧ es.toList = xs.map (entryOfKey (tupleKind (mixKind P w))) ∧ (xs.map (·.1)).Nodup
structure DX (P : Program) (w : World) (H : Hp) (d : Addr) (kb : KB) : Prop where
  ob : H d = some (.ext (dxP P w d kb))
  ks : ∀ p ∈ kb, FrzT H p.2.1 (p.1.map kV)
section
variable {P : Program} {w : World} {H : Hp} {h : Heap} {d b : Addr} {kb : KB}
theorem DX.ex {H' : Hp} (g : DX P w H d kb) (e : Ex H H') : DX P w H' d kb := ⟨e _ _ g.ob, fun p hp => (g.ks p hp).ex e⟩
theorem DX.exB {H' : Hp} {a : Addr} (g : DX P w H d kb) (e : ExB a H H') (hd : d ≠ a) (ha : ∀ o u, H a ≠ some (.frz o u)) : DX P w H' d kb := ⟨e _ _ hd g.ob, fun p hp => by
  obtain ⟨o, h1, h2⟩ := g.ks p hp
  exact ⟨o, h1, e _ _ (fun z => ha _ _ (by rw [← z]; exact h2)) h2⟩⟩
theorem keyF_of {ks : List Key} (ok : HOk P w H h) (e : FrzT H b (ks.map kV)) : (tupleKind (mixKind P w)).is h ks b := by
  obtain ⟨o0, _, e⟩ := e
  obtain ⟨_, _, its, r, o, h1, h2, n, h3⟩ := (show ObjOk P w H h b (.frz o0 (.tup (ks.map kV))) from ok b _ e)
  exact ⟨o, its.toArray, n, h1, h2, h3, by simpa using items_are r⟩
theorem DX.rd (ok : HOk P w H h) (e : DX P w H d kb) : kb.length ≤ sizeLine ∧ (d == sysModules) = false ∧ ∃ xs, KX kb xs ∧ h.DictOfH (tupleKind (mixKind P w)) d xs := by
  obtain ⟨⟨z, y, xs, r, o, es, ep, h1, h2, h3, h4, h5⟩, _⟩ := (show ObjOk P w H h d (.ext (dxP P w d kb)) from ok d _ e.ob)
  refine ⟨z, y, xs, r, o, es, ep, h1, h2, h3, h4, fun x hx => ?_, h5⟩
  have all : ∀ {l : KB} {m : List (List Key × Addr × Value)}, KX l m → (∀ p ∈ l, FrzT H p.2.1 (p.1.map kV)) → ∀ x ∈ m, (tupleKind (mixKind P w)).is h x.1 x.2.1 := by
    intro l m q
    induction q with
    | nil => intro _ x hx; exact nomatch hx
    | @cons p q ps qs hq t ih =>
      intro hk x hx
      rcases List.mem_cons.mp hx with e | hx
      · subst e
        have := keyF_of ok (hk p (List.mem_cons_self ..))
        rw [hq.1, hq.2.1] at this
        exact this
      · exact ih (fun p hp => hk p (List.mem_cons_of_mem _ hp)) x hx
  exact all r e.ks x hx
end
section
variable {X : Cx} {pins : List (Addr × Obj)} {σ : L2.St} {H : Hp} {s : Shared} {a : Addr} {y v : V} {u r : Value} {o : Option V} {A : Around} {E : Value → Shared → Prop}
end
section
variable {X : Cx} {o i e value : Expr} {pos pos' tpos : Pos} {td ty tv : TE}
end
end HH
set_option maxHeartbeats 4000000
namespace HH
open PySem PySem.Spec PyProof.Rows L2 Evl RZ
theorem Steps.cons2 {L M : List Cow} (x : Cow) (h : Steps L M) : Steps (x :: L) (x :: M) := by
  have := h.under [x] []
  simpa using this
theorem free_bar {rs : HH.Row} (f : ∀ b ∈ rs, b.2 = 0) (i : Nat) : ∀ m, barN rs i m = sS rs i := by
  have t0 : ∀ k, tS rs k = 0 := fun k => by
    unfold tS
    cases e : rs[k]? with
    | none => rfl
    | some b => exact f b (List.mem_of_getElem? e)
  intro m
  induction m with
  | zero => show sS rs i + tS rs i = _; rw [t0, Int.add_zero]
  | succ m ih =>
    show (if _ then _ else _) = _
    split
    · rw [t0, ih, Int.add_zero]
    · exact ih
theorem nfr_tag : ∀ (k : Nat) (rs : HH.Row), (∀ i, i + 1 < rs.length → sS rs (i + 1) - tS rs i ≤ sS rs i) → NfR (tag k rs)
  | _, [], _ => True.intro
  | _, [_], _ => True.intro
  | k, a :: b :: r, h => by
    refine ⟨fun z => ?_, nfr_tag (k + 1) (b :: r) fun i hi => ?_⟩
    · have h0 : b.1 - a.2 ≤ a.1 := h 0 (by simp)
      have z : b.1 - a.2 > a.1 := z
      omega
    · exact h (i + 1) (by simp only [List.length_cons] at hi ⊢; omega)
theorem ffr_tag : ∀ (k : Nat) (rs : HH.Row), (∀ i, i + 1 < rs.length → sS rs i ≤ sS rs (i + 1)) → FfR (tag k rs)
  | _, [], _ => True.intro
  | _, [_], _ => True.intro
  | k, a :: b :: r, h => by
    refine ⟨fun z => ?_, ffr_tag (k + 1) (b :: r) fun i hi => ?_⟩
    · have h0 : a.1 ≤ b.1 := h 0 (by simp)
      have z : a.1 > b.1 := z
      omega
    · exact h (i + 1) (by simp only [List.length_cons] at hi ⊢; omega)
def rowN (n : Nat) (f g : Nat → Int) : HH.Row := (List.range n).map fun i => (f i, g i)
theorem rowN_len (n : Nat) (f g : Nat → Int) : (rowN n f g).length = n := by unfold rowN; rw [List.length_map, List.length_range]
theorem rowN_at {n i : Nat} {f g : Nat → Int} (h : i < n) : sS (rowN n f g) i = f i ∧ tS (rowN n f g) i = g i := by
  unfold sS tS rowN
  rw [List.getElem?_map, List.getElem?_range h]
  exact ⟨rfl, rfl⟩
theorem rowN_succ (n : Nat) (f g : Nat → Int) : rowN (n + 1) f g = rowN n f g ++ [(f n, g n)] := by
  unfold rowN
  rw [List.range_succ, List.map_append]
  rfl
end HH
set_option maxHeartbeats 4000000
namespace HH
open PySem PySem.Spec PyProof.Rows L2 Evl RZ
theorem nfr_fall : ∀ {A : List Cow}, (∀ x ∈ A, 0 ≤ x.2.2) → (A.Pairwise fun a b => b.2.1 ≤ a.2.1) → NfR A
  | [], _, _ => True.intro
  | [_], _, _ => True.intro
  | a :: b :: r, h, p => by
    have p := List.pairwise_cons.mp p
    refine ⟨fun z => ?_, nfr_fall (fun x hx => h x (List.mem_cons_of_mem _ hx)) p.2⟩
    have := p.1 b (by simp)
    have := h a (by simp)
    omega
structure Strong (E : List Cow) (st : Int) (k : Nat) (left : Int) : Prop where
  s : Steps (E ++ [(E.length, (st, 2))]) (E.take (E.length - k) ++ (E.length, (left, 2)) :: E.drop (E.length - k))
  b : ∀ b r, E.drop (E.length - k) = b :: r → b.2.1 < left
end HH
set_option maxHeartbeats 4000000
namespace HH
open PySem PySem.Spec PyProof.Rows L2 Evl RZ
def rgC (i c : Int) (n : Nat) : List V := (List.range n).map fun k => V.int (i + (k : Nat) * c)
section
variable {X : Cx} {σ : L2.St} {H : Hp}
def tTupRg3 (ta : TA) : TE := fun σ H Q => ta σ H fun vs H1 => ∃ (i j c : Int) (n : Nat), vs = [.int i, .int j, .int c] ∧ RgC i j c n ∧ n ≤ 2 ^ 24 ∧ ∀ q, H1 q = none → Q (.ref q) (upd H1 q (.tup (rgC i c n)))
theorem pe_tupRg3 {a b c : Expr} {ta : TA} {p p2 pos pos2 : Pos} (hc : X.calm = true) (hg : Gl X "tuple") (hm : X.mg "tuple" = none) (hg2 : Gl X "range") (hm2 : X.mg "range" = none) (ha : PA X [a, b, c] ta)
    (hs : starEach [a, b, c] X.env = (false, eval a X.env) :: starEach [b, c] X.env := by rfl) (hpl : (backTo pos (starEach [b, c] X.env)).any (·.1) = false := by rfl)
    (na : starEach [.Call (.Name "range" p) [a, b, c] [] pos] X.env = (false, eval (.Call (.Name "range" p) [a, b, c] [] pos) X.env) :: starEach [] X.env := by rfl) : PE X (.Call (.Name "tuple" p2) [.Call (.Name "range" p) [a, b, c] [] pos] [] pos2) (tTupRg3 ta) := by
  refine ⟨fun pins s σ H Q I h => ?_⟩
  refine Call_ (ld_blt I hg hm boot_tuple (PyProof.Rows.callWith_type1 (args_cons (Call_ (ld_blt I hg2 hm2 boot_range (PyProof.Rows.callWith_type1 (thn (ha.run pos pins s σ H _ I h) fun us s1 ⟨vs, H1, I1, r1, q1⟩ => ?_) hs hpl))) na) na))
  obtain ⟨i, j, k, n, e, ⟨c0, c1, c2, c3⟩, nl, q⟩ := q1
  subst e
  cases r1 with
  | cons r rr =>
    cases rr with
    | cons r' rr =>
      cases rr with
      | cons r'' rr =>
        cases rr
        obtain ⟨t, rfl⟩ := r
        obtain ⟨t', rfl⟩ := r'
        obtain ⟨t'', rfl⟩ := r''
        refine call_range_3 c0 ?_ (.inl (PyProof.noPylong_small c1))
        have I2 : L2.Inv X pins σ H1 { s1 with heap := s1.heap.push { cls := .type "range", data := .fields #[.int i t, .int j t', .int k t''] } } := I1.kept (t' := s1.toks) fun b o e => Heap.get?_push_of_some _ e
        refine args_nil ?_
        refine call_tuple_range (n := n) (I2.ok.hd hc) (IsRange.new ..) c2 (by rw [c3]) nl fun h' tk acc hk hi => ?_
        have I3 : L2.Inv X pins σ H1 { s1 with heap := h', toks := tk } := I2.kept hk
        refine ⟨.ref h'.objs.size, upd H1 h'.objs.size (.tup (rgC i k n)), I3.laid (t' := tk) (fun c o e => Heap.get?_push_of_some _ e) (Nat.le_refl _) (show ObjOk X.prog X.w _ _ _ (.tup (rgC i k n)) from ⟨?_, acc.toList, ?_, ?_⟩), rfl, q _ (I3.hok.fresh (Nat.le_refl _))⟩
        · unfold rgC
          rw [List.length_map, List.length_range, sizeLine_eq]; omega
        · have e : acc.toList.length = n := by rw [Array.length_toList]; exact hi.1
          unfold rgC
          rw [← e]
          refine vals_of_get acc.toList _ fun j u hj => ?_
          obtain ⟨t, rfl⟩ := hi.2 j u (by rw [← hj, Array.getElem?_toList])
          exact ⟨t, rfl⟩
        · rw [Array.toArray_toList]; exact IsTup.new _ _
end
end HH
set_option maxHeartbeats 4000000
namespace HH
open PySem PySem.Spec PyProof.Rows L2 Evl RZ
section
variable {K : PySem.W.Frag} {σ : L2.St} {H : Hp} {te ta tb t2 : TE} {D : Ends} {tz : TS}
end
section
variable {K : PySem.W.Frag} {σ : L2.St} {H : Hp} {te ta tb t2 : TE} {D : Ends} {tz : TS}
end
end HH
set_option maxHeartbeats 4000000
namespace HH
open PySem PySem.Spec PyProof.Rows L2 Evl RZ
end HH
set_option maxHeartbeats 4000000
namespace HH
open PySem PySem.Spec PyProof.Rows L2 Evl RZ
def expL (ls : List Lot) (st : List Int) (line : HH.Row) : List Cow := line.flatMap fun x => List.replicate x.2.toNat (x.1.toNat, (st.getD x.1.toNat 0, lT ls x.1.toNat))
def blkL (ls : List Lot) (w : Nat) (s : Int) : List Cow := List.replicate (lM ls w).toNat (w, (s, lT ls w))
def PosR (line : HH.Row) : Prop := ∀ x ∈ line, 1 ≤ x.2
def cntR (line : HH.Row) : Int := (line.map (·.2)).sum
structure GoOk (ls : List Lot) (st : List Int) (w : Nat) (r B : HH.Row) (s t : Int) (R : HH.Row × Int × Int) : Prop where
  s1 : Steps (expL ls st r.reverse ++ blkL ls w s ++ expL ls st B) (expL ls (st.set w R.2.1) R.1)
  cut : ∃ F B', R.1 = F ++ ((w : Int), lM ls w) :: B' ∧ Bel w F ∧ Bel w B' ∧ PosR F ∧ PosR B' ∧ expL ls st F ++ expL ls st B' = expL ls st r.reverse ++ expL ls st B ∧ cntR B' = cntR B + (R.2.2 - t)
end HH
set_option maxHeartbeats 4000000
namespace HH
open PySem PySem.Spec PyProof.Rows L2 Evl RZ
def sprC (ls : List Lot) (w : Nat) : List Cow := (List.range w).flatMap fun u => List.replicate (lM ls u).toNat (u, (lS ls u, lT ls u))
def lowB (X : List Cow) (p u : Nat) : Nat := ((X.drop (p + 1)).filter fun c => decide (c.1 < u)).length
structure EndOk (ls : List Lot) (w : Nat) : Prop where
  s1 : Steps (sprC ls w) (expL ls (endG ls w).2.1 (endG ls w).1)
  nf : NfR (expL ls (endG ls w).2.1 (endG ls w).1)
  pos : PosR (endG ls w).1
  low : ∀ (p u : Nat) (c : Cow), (expL ls (endG ls w).2.1 (endG ls w).1)[p]? = some c → c.1 = u → (lowB (expL ls (endG ls w).2.1 (endG ls w).1) p u : Int) = (endG ls w).2.2.getD u 0
  st : ∀ u, w ≤ u → u < ls.length → (endG ls w).2.1.getD u 0 = lS ls u
end HH
set_option maxHeartbeats 4000000
namespace HH
open PySem PySem.Spec PyProof.Rows L2 Evl RZ
end HH
set_option maxHeartbeats 4000000
namespace HH
open PySem PySem.Spec PyProof.Rows L2 Evl RZ
end HH
set_option maxHeartbeats 4000000
namespace HH
open PySem PySem.Spec PyProof.Rows L2 Evl RZ
theorem sum_append (xs ys : List Int) : (xs ++ ys).sum = xs.sum + ys.sum := by
  induction xs with
  | nil => show ys.sum = 0 + ys.sum; omega
  | cons x r ih => show x + (r ++ ys).sum = x + r.sum + ys.sum; omega
end HH
set_option maxHeartbeats 4000000
namespace HH
open PySem PySem.Spec PyProof.Rows L2 Evl RZ
end HH
set_option maxHeartbeats 4000000
namespace HH
open PySem PySem.Spec PyProof.Rows L2 Evl RZ
section
variable {P : Addr → Prop} {K : PySem.W.Frag} {c k : Nat} {H H' : Hp} {σ : L2.St} {te ta tb : TE} {D : Ends} {v : V} {d : PyData}
end
end HH
namespace HH
open PySem PySem.Spec PyProof.Rows L2 Evl RZ
end HH
namespace HH
open PySem PySem.Spec PyProof.Rows L2 Evl RZ
section
variable {P : Addr → Prop} {K : PySem.W.Frag} {n : Nat} {H : Hp} {σ : L2.St} {D : Ends}
end
end HH
set_option maxHeartbeats 4000000
namespace HH
open PySem PySem.Spec PyProof.Rows L2 Evl RZ
section
variable {K : PySem.W.Frag} {H0 H H' : Hp} {σ : L2.St} {te ta tb : TE} {D : Ends} {tz tu : TS} {g : TG}
end
end HH
set_option maxHeartbeats 4000000
namespace HH
open PySem PySem.Spec PyProof.Rows L2 Evl RZ
section
variable {K : PySem.W.Frag} {H : Hp} {σ : L2.St} {te ta tb : TE}
end
end HH
set_option maxHeartbeats 4000000
namespace HH
open PySem PySem.Spec PyProof.Rows L2 Evl RZ
def Ex3 (a b c : Addr) (H H' : Hp) : Prop := ∀ x o, x ≠ a → x ≠ b → x ≠ c → H x = some o → H' x = some o
section
variable {a b c : Addr} {H0 H H1 H' : Hp}
theorem Ex3.trans (x : Ex3 a b c H H1) (y : Ex3 a b c H1 H') : Ex3 a b c H H' := fun d o n1 n2 n3 h => y d o n1 n2 n3 (x d o n1 n2 n3 h)
theorem Ex3.of (e : Ex H H') : Ex3 a b c H H' := fun d o _ _ _ h => e d o h
theorem Ex3.u1 {o : HO} (x : Ex3 a b c H H') : Ex3 a b c H (upd H' a o) := fun d u n1 n2 n3 h => by
  rw [upd_ne n1]
  exact x d u n1 n2 n3 h
theorem Ex3.u2 {o : HO} (x : Ex3 a b c H H') : Ex3 a b c H (upd H' b o) := fun d u n1 n2 n3 h => by
  rw [upd_ne n2]
  exact x d u n1 n2 n3 h
end
section
variable {K : PySem.W.Frag} {H H' : Hp} {σ : L2.St} {ta tb tc ti : TE} {D : Ends} {tz : TS}
end
end HH
set_option maxHeartbeats 4000000
namespace HH
open PySem PySem.Spec PyProof.Rows L2 Evl RZ
def ListOf (H : Hp) (u : V) (xs : List V) : Prop := ∃ p, u = .ref p ∧ H p = some (.lst xs)
theorem ListOf.ex {H H' : Hp} {u : V} {xs : List V} (h : ListOf H u xs) (e : Ex H H') : ListOf H' u xs := let ⟨p, h1, h2⟩ := h; ⟨p, h1, e _ _ h2⟩
section
variable {K : PySem.W.Frag} {H H' : Hp} {σ : L2.St} {te ta tb : TE} {tr : TA}
end
section
variable {H : Hp} {σ : L2.St} {te : TE} {ta : TA} {D : Ends} {tz : TS} {g : TG}
end
end HH
set_option maxHeartbeats 4000000
namespace HH
open PySem PySem.Spec PyProof.Rows L2 Evl RZ
theorem tag0_fst (rs : HH.Row) : (tag 0 rs).map (·.1) = List.range rs.length := by
  rw [tag_fst]
  have e : (fun x => 0 + x) = (id : Nat → Nat) := by
    funext x
    exact Nat.zero_add x
  rw [e, List.map_id]
theorem ids_low {rs : HH.Row} {E : List Cow} (s : Steps (tag 0 rs) E) : (∀ x ∈ E.map (·.1), x < rs.length) ∧ E.length = rs.length := by
  have h := s.ids
  rw [tag0_fst] at h
  refine ⟨fun x hx => List.mem_range.mp (h.mem_iff.mp hx), ?_⟩
  have := h.length_eq
  rw [List.length_map, List.length_range] at this
  exact this
section
variable {ls : List Lot} {E : List Cow} {ps : HH.Row}
end
end HH
set_option maxHeartbeats 4000000
namespace HH
open PySem PySem.Spec PyProof.Rows L2 Evl RZ
def Mild (ls : List Lot) : Prop := ls.length ≤ 100 ∧ PosL ls ∧ (∀ b ∈ sprR ls, 0 ≤ b.2 ∧ b.2 < 1152921504606846976) ∧ (sprR ls).length < 1152921504606846976
structure HerdE (ls A Z : List Lot) (E B : List Cow) : Prop where
  sE : Steps (tag 0 (sprR ls)) E
  nE : Nf E
  sB : FSteps (tag 0 (sprR ls)) B
  nB : Ff B
  eA : A = packL (ones (rowsOf E))
  eZ : Z = packL (ones (rowsOf B))
  lA : A = packL (lastLots ls)
  lZ : Z = packL (firstLots ls)
section
variable {ls A Z : List Lot} {E B : List Cow}
theorem HerdE.sprA (e : HerdE ls A Z E B) : sprR A = rowsOf E := by rw [e.eA, packL_spr (ones_pos _), ones_spr]
theorem HerdE.sprZ (e : HerdE ls A Z E B) : sprR Z = rowsOf B := by rw [e.eZ, packL_spr (ones_pos _), ones_spr]
theorem HerdE.posA (e : HerdE ls A Z E B) : PosL A := by rw [e.eA]; exact packL_pos (ones_pos _)
theorem HerdE.posZ (e : HerdE ls A Z E B) : PosL Z := by rw [e.eZ]; exact packL_pos (ones_pos _)
theorem HerdE.lenE (e : HerdE ls A Z E B) : (rowsOf E).length = (sprR ls).length := by
  unfold rowsOf
  rw [List.length_map]
  exact (ids_low e.sE).2
theorem HerdE.lenB (e : HerdE ls A Z E B) : (rowsOf B).length = (sprR ls).length := by
  unfold rowsOf
  rw [List.length_map, e.sB.len]
  have h2 := congrArg List.length (tag0_fst (sprR ls))
  rw [List.length_map, List.length_range] at h2
  exact h2
end
section
variable {ls A Z : List Lot} {E B : List Cow}
end
end HH
set_option maxHeartbeats 4000000
namespace HH
open PySem PySem.Spec PyProof.Rows L2 Evl RZ
structure LikeL (c d : Int) (m : Nat) (ls ls' : List Lot) : Prop where
  l1 : m ≤ ls.length
  l2 : m ≤ ls'.length
  s : ∀ j, j < m → lS ls' j = c * lS ls j + d
  t : ∀ j, j < m → lT ls' j = c * lT ls j ∧ 0 ≤ lT ls j
def cntL (ls : List Lot) : Int := (ls.map (·.2.2)).sum
theorem cnt_spr : ∀ {ls : List Lot}, PosL ls → cntL ls = ((sprR ls).length : Int)
  | [], _ => rfl
  | l :: ls, h => by
    have ih := cnt_spr (ls := ls) fun x hx => h x (List.mem_cons_of_mem _ hx)
    have hl := h l (List.mem_cons_self ..)
    have e : sprR (l :: ls) = List.replicate l.2.2.toNat (l.1, l.2.1) ++ sprR ls := by
      unfold sprR
      rw [List.flatMap_cons]
    rw [e, List.length_append, List.length_replicate]
    unfold cntL at ih ⊢
    rw [List.map_cons, List.sum_cons, ih]
    omega
section
variable {ls A Z : List Lot} {E B : List Cow}
theorem HerdE.many (h : Mild ls) (e : HerdE ls A Z E B) : cntL A = cntL ls ∧ cntL Z = cntL ls := by
  rw [cnt_spr h.2.1, cnt_spr e.posA, cnt_spr e.posZ, e.sprA, e.sprZ, e.lenE, e.lenB]
  exact ⟨rfl, rfl⟩
end
end HH
set_option maxHeartbeats 4000000
namespace HH
open PySem PySem.Spec PyProof.Rows L2 Evl RZ
def MixSw (z TI TO i1 i2 a b : Addr) (i : Nat) (h : Heap) : Prop := IsZip h z TI TO .none ∧ IsTupOf2 h TI (.ref i1) (.ref i2) ∧ (∃ x y, IsTupOf2 h TO x y) ∧ h.IsTupleIter i1 a i ∧ h.IsListIter i2 b i
theorem MixSw.objs {z TI TO i1 i2 a b : Addr} {i : Nat} {h : Heap} (m : MixSw z TI TO i1 i2 a b i h) : ∀ c ∈ [z, TI, TO, i1, i2], ∃ ob, h.get? c = some ob ∧ ∀ v, ob.data ≠ .cell v := fun c hc => by
  obtain ⟨m1, m2, ⟨_, _, m3⟩, ⟨p1, g1, _, d1⟩, ⟨p2, g2, _, d2⟩⟩ := m
  rcases five hc with rfl | rfl | rfl | rfl | rfl
  · exact ⟨_, m1, fun v q => by cases q⟩
  · exact ⟨_, m2, fun v q => by cases q⟩
  · exact ⟨_, m3, fun v q => by cases q⟩
  · exact ⟨p1, g1, fun v q => by rw [d1] at q; cases q⟩
  · exact ⟨p2, g2, fun v q => by rw [d2] at q; cases q⟩
end HH
set_option maxHeartbeats 4000000
namespace HH
open PySem PySem.Spec PyProof.Rows L2 Evl RZ
section
variable {K : PySem.W.Frag} {H H' H0 H1 H2 : Hp} {σ : L2.St} {te ta tb tc ti : TE} {tr : TA} {D : Ends} {v : V} {ls ms : List Lot} {tz : TS}
end
end HH
set_option maxHeartbeats 4000000
namespace HH
open PySem PySem.Spec PyProof.Rows L2 Evl RZ
section
variable {K : PySem.W.Frag} {σ : L2.St} {p : Addr} {ta tb te ti : TE} {tr : TA} {D : Ends} {tz tu : TS} {g : TG} {H H' : Hp} {v : V} {ls ms : List Lot}
end
end HH
set_option maxHeartbeats 4000000
namespace HH
open PySem PySem.Spec PyProof.Rows L2 Evl RZ
section
variable {K : PySem.W.Frag} {σ : L2.St} {p : Addr} {ta tb tc te ti : TE} {tr : TA} {D : Ends} {tz tu : TS} {g : TG} {H H' : Hp} {v : V} {rs : HH.Row}
end
end HH
set_option maxHeartbeats 4000000
namespace HH
open PySem PySem.Spec PyProof.Rows L2 Evl RZ
theorem epr_cat {R : PrT} {σ : L2.St} {H : Hp} {ta tb : TE} {ps qs : HH.Row} (s : Stb R) (h : EvPr R ta σ H ps) (g : ∀ H1, Ex H H1 → EvPr R tb σ H1 qs) (hz : ps.length + qs.length ≤ 10000) : EvPr R (tOp rCat ta tb) σ H (ps ++ qs) := fun H1 e1 Q q =>
  h H1 e1 _ fun a us H2 ha e2 ga ba => g H2 (e1.trans e2) H2 (Ex.refl _) _ fun b ws H3 hb e3 gb bb => ⟨a, b, us, ws, rfl, rfl, e3 _ _ ga, gb, by rw [ba.len, bb.len]; exact Nat.le_trans hz (by decide), fun p hp => by
    have np := Ex.new (o := .lst (us ++ ws)) hp
    exact q p (us ++ ws) _ (fresh_back (e2.trans e3) hp) ((e2.trans e3).trans np) upd_same (All2.app (s.all (e3.trans np) ba) (s.all np bb))⟩
end HH
set_option maxHeartbeats 4000000
namespace HH
open PySem PySem.Spec PyProof.Rows L2 Evl RZ
section
variable {K : PySem.W.Frag} {σ : L2.St} {te ta : TE} {tr : TA} {H H' : Hp} {v : V} {rs : HH.Row}
theorem LastAt.up {q D : Addr} {L : List Cow} {xs ys : List V} (h : LastAt K H q L) (hD : H D = some (.lst xs)) : LastAt K (upd H D (.lst ys)) q L := by
  obtain ⟨v, ot, h1, h2, h3⟩ := h.ex
  have x : ExB D H (upd H D (.lst ys)) := (ExB.refl _ _).upd
  exact ⟨v, ot, x _ _ (fun z => by rw [z, hD] at h1; cases h1) h1, h2.exL x hD, x _ _ (fun z => by rw [z, hD] at h3; cases h3) h3⟩
end
end HH
set_option maxHeartbeats 4000000
namespace HH
open PySem PySem.Spec PyProof.Rows L2 Evl RZ
section
variable {K : PySem.W.Frag} {σ : L2.St} {te ta tb : TE} {tr : TA} {H H' : Hp} {v : V} {rs : HH.Row} {n : Nat}
end
end HH
set_option maxHeartbeats 4000000
namespace HT
open PySem PySem.Spec PyProof.Rows
section
variable {prog : Program} {w : World} {A : Around} {E : Value → Shared → Prop} {s : Shared}
end
end HT
namespace HH
open PySem PySem.Spec PyProof.Rows L2 Evl RZ
section
variable {K : PySem.W.Frag} {σ : L2.St} {H : Hp} {te : TE}
end
end HH
set_option maxHeartbeats 4000000
namespace HH
open PySem PySem.Spec PyProof.Rows L2 Evl RZ
section
variable {K : PySem.W.Frag} {σ : L2.St} {te ta tb ti tj tl : TE} {tr : TA} {tt : TT} {D : Ends} {tz tu : TS} {g : TG} {H H' : Hp} {v : V} {rs : HH.Row}
theorem ev_lenNL {xs : List V} (h : EvL te σ H xs) : Ev (tCB (rLenS K) (tCons te tNil)) σ H (.int (xs.length : Int)) := fun H1 e Q q => h H1 e _ fun p H2 hp e2 g2 => ⟨p, xs, rfl, .inl (sq_of g2), q H2 e2⟩
end
end HH
set_option maxHeartbeats 4000000
namespace HH
open PySem PySem.Spec PyProof.Rows L2 Evl RZ
def TupsF (H : Hp) (us : List V) (ls : List (List Nat)) : Prop := All2 (fun v l => ∃ b, v = .ref b ∧ FrzT H b (natsV l)) us ls
theorem FrzT.exA {d a : Addr} {H H' : Hp} {xs : List V} (h : FrzT H a xs) (e : ExB d H H') (hd : ∀ o u, H d ≠ some (.frz o u)) : FrzT H' a xs := by
  obtain ⟨o, h1, h2⟩ := h
  exact ⟨o, h1, e _ _ (fun z => hd _ _ (by rw [← z]; exact h2)) h2⟩
theorem TupsF.exB {d : Addr} {H H' : Hp} {us : List V} {ls : List (List Nat)} (h : TupsF H us ls) (e : ExB d H H') (hd : ∀ o u, H d ≠ some (.frz o u)) : TupsF H' us ls := All2.mono (fun v l ⟨b, h1, h2⟩ => ⟨b, h1, h2.exA e hd⟩) h
theorem TupsF.ex {H H' : Hp} {us : List V} {ls : List (List Nat)} (h : TupsF H us ls) (e : Ex H H') : TupsF H' us ls := All2.mono (fun v l ⟨b, h1, h2⟩ => ⟨b, h1, h2.ex e⟩) h
theorem TupsF.dp {K : PySem.W.Frag} {H : Hp} : ∀ {us : List V} {ls : List (List Nat)}, TupsF H us ls → DpAll K H us (ls.map natsD)
  | _, _, .nil => .nil
  | _, _, .cons ⟨b, h1, h2⟩ t => by rw [h1]; exact .cons (dp_nats h2.sq) (TupsF.dp t)
theorem TupsF.at {H : Hp} {us : List V} {ls : List (List Nat)} (h : TupsF H us ls) {k : Nat} {l : List Nat} (hk : ls[k]? = some l) : ∃ b, us[k]? = some (.ref b) ∧ FrzT H b (natsV l) := by
  induction h generalizing k with
  | nil => cases hk
  | @cons v m us ls h t ih =>
    cases k with
    | zero =>
      obtain ⟨b, rfl, h2⟩ := h
      cases hk
      exact ⟨b, rfl, h2⟩
    | succ k => exact ih hk
theorem GoneD.none {K : PySem.W.Frag} {H : Hp} {rs : HH.Row} {kvs : List (List Key × V)} {G : List (List Nat)} (h : GoneD K H rs kvs G) {l : List Nat} (hl : l ∉ G) : valV kvs (keyN l) = none := by
  have := h.has l
  rw [decide_eq_false hl] at this
  cases c : valV kvs (keyN l) with
  | none => rfl
  | some x => rw [c] at this; cases this
theorem DX.put {P : Program} {w : World} {H : Hp} {d b : Addr} {kb : KB} {k : List Key} {v : V} (g : DX P w H d kb) (f : FrzT H b (k.map kV)) : DX P w (upd H d (.ext (dxP P w d (kb ++ [(k, b, v)])))) d (kb ++ [(k, b, v)]) := by
  have hd : ∀ o u, H d ≠ some (.frz o u) := fun o u z => by rw [g.ob] at z; cases z
  have e : ExB d H (upd H d (.ext (dxP P w d (kb ++ [(k, b, v)])))) := (ExB.refl _ _).upd
  refine ⟨upd_same, fun p hp => ?_⟩
  rcases List.mem_append.mp hp with z | z
  · exact (g.ks p z).exA e hd
  · rw [List.mem_singleton.mp z]
    exact f.exA e hd
def seconds (ps : HH.Row) (who : Int) : List Int := (ps.filter fun b => decide (b.1 = who)).map (·.2)
section
variable {K : PySem.W.Frag} {σ : L2.St} {te : TE} {H : Hp}
theorem el_seconds {ps : HH.Row} {i j iw : Nat} {vs : List Nat} {who : Int} (h : ∀ H1, Ex H H1 → ∀ Q : VK, (∀ (a : Addr) (us : List V) (H2 : Hp), Ex H1 H2 → (∀ H3, Ex H2 H3 → SqL K H3 a us) → Beasts K H2 us ps → Q (.ref a) H2) → te σ H1 Q) (hl : ps.length ≤ 2000) (hw : ∀ x y, wipe (((wipe σ vs).set i (some x)).set j (some y)) vs = wipe σ vs)
    (h1 : ∀ x y : V, (((wipe σ vs).set i (some x)).set j (some y))[i]? = some (some x)) (h2 : ∀ x y : V, (((wipe σ vs).set i (some x)).set j (some y))[j]? = some (some y)) (h3 : ∀ x y : V, (((wipe σ vs).set i (some x)).set j (some y))[iw]? = some (some (.int who))) :
    EvL (tLc (iList K te) (gTup K 2 (gCons (gName i) (gCons (gName j) gNil))) (tTest (tOp rEq (tVar i) (tVar iw))) (tVar j) vs) σ H ((seconds ps who).map V.int) := fun H0 e0 Q q => by
  refine h H0 e0 _ fun a us H1 e1 sq bs => ⟨a, rfl, ⟨us, sq H1 (Ex.refl H1)⟩, fun D hD => ?_⟩
  refine in_it (walk_list (xs := us)) (fun k H2 => Ex H1 H2 ∧ H2 D = some (.lst ((seconds (ps.take k) who).map V.int))) ⟨Ex.new hD, upd_same⟩ (fun k H2 _ z => sq H2 z.1) (fun k x H2 H3 hk z y => ?_) (fun H2 z => ?_)
  · obtain ⟨rfl, hx⟩ := y
    obtain ⟨z1, z2⟩ := z
    have hk' : k < ps.length := by rw [← bs.1]; exact hk
    obtain ⟨u, hu, pp, rfl, hpp⟩ := bs.2 k ps[k] (List.getElem?_eq_getElem hk')
    rw [hx] at hu
    cases hu
    refine ⟨pp, _, rfl, ex_t z1 hpp, rfl, _, _, rfl, _, _, rfl, rfl, hw _ _, ?_⟩
    have et : seconds (ps.take (k + 1)) who = seconds (ps.take k) who ++ (if ps[k].1 = who then [ps[k].2] else []) := by
      unfold seconds
      rw [List.take_add_one, List.getElem?_eq_getElem hk', List.filter_append, List.map_append]
      congr 1
      by_cases c : ps[k].1 = who
      · simp [c]
      · simp [c]
    have ln : (seconds (ps.take k) who).length ≤ k := by
      unfold seconds
      rw [List.length_map]
      exact Nat.le_trans (List.length_filter_le _ _) (by rw [List.length_take]; omega)
    refine ⟨_, h1 _ _, _, h3 _ _, rfl, _, rfl, ite2 (fun c => ?_) (fun c => ?_)⟩
    · have c' : ps[k].1 = who := by
        have := of_decide_eq_true c
        injection this
      refine ⟨_, h2 _ _, _, z2, sz_lt (by rw [List.length_map]; omega), Ex.mut z1 hD, ?_⟩
      rw [upd_same, et, if_pos c', List.map_append]
      rfl
    · have c' : ps[k].1 ≠ who := fun z => c (decide_eq_true (by rw [z]))
      refine ⟨z1, ?_⟩
      rw [et, if_neg c', List.append_nil]
      exact z2
  · obtain ⟨z1, z2⟩ := z
    rw [bs.1, List.take_length] at z2
    exact q D H2 (fresh_back e1 hD) (e1.trans z1) z2
end
theorem firsts_nats {E B : List Cow} {n w : Nat} : (firsts (keptT E B n) (w : Int)).map V.int = natsV (aheadL (keptT E B n) w) := by
  unfold firsts aheadL natsV
  rw [List.map_map, List.map_map]
  refine List.map_congr_left fun x hx => ?_
  obtain ⟨i, j, _, _, rfl, _⟩ := mem_tabP.mp (List.mem_filter.mp hx).1
  show V.int (i : Int) = V.int ((((i : Int).toNat : Nat)) : Int)
  rw [Int.toNat_natCast]
theorem seconds_nats {E B : List Cow} {n w : Nat} : (seconds (keptT E B n) (w : Int)).map V.int = natsV (behindL (keptT E B n) w) := by
  unfold seconds behindL natsV
  rw [List.map_map, List.map_map]
  refine List.map_congr_left fun x hx => ?_
  obtain ⟨i, j, _, _, rfl, _⟩ := mem_tabP.mp (List.mem_filter.mp hx).1
  show V.int (j : Int) = V.int ((((j : Int).toNat : Nat)) : Int)
  rw [Int.toNat_natCast]
theorem kept_len (E B : List Cow) {n : Nat} (hn : n ≤ 30) : (keptT E B n).length ≤ 900 := by
  unfold keptT tabP
  rw [List.length_flatMap]
  have : ∀ m, m ≤ 30 → ((List.range m).map fun i => (tabPR (keepP (E.map (·.1)) (B.map (·.1))) i (n - (i + 1))).length).sum ≤ 30 * m := by
    intro m
    induction m with
    | zero => intro _; exact Nat.le_refl _
    | succ m ih =>
      intro h
      rw [List.range_succ, List.map_append, List.sum_append]
      have h1 := ih (by omega)
      have h2 : (tabPR (keepP (E.map (·.1)) (B.map (·.1))) m (n - (m + 1))).length ≤ 30 := by
        unfold tabPR
        rw [List.length_map]
        exact Nat.le_trans (List.length_filter_le _ _) (by rw [List.length_range]; omega)
      simp only [List.map_cons, List.map_nil, List.sum_cons, List.sum_nil]
      omega
  have := this n hn
  have : 30 * n ≤ 900 := by omega
  omega
theorem behindL_lt {E B : List Cow} {n w : Nat} (hw : w < n) : (behindL (keptT E B n) w).length < n := by
  have := sub_len (A := w :: behindL (keptT E B n) w) (M := List.range n) (List.nodup_cons.mpr ⟨fun z => by have := (mem_behindL.mp z).1; omega, nd_of_rise rise_behindL⟩) fun x hx => by
    rcases List.mem_cons.mp hx with z | z
    · rw [z]
      exact List.mem_range.mpr hw
    · exact List.mem_range.mpr (mem_behindL.mp z).2.1
  rw [List.length_range, List.length_cons] at this
  omega
def lowP (E B : List Cow) (n w : Nat) : Nat := (aheadL (keptT E B n) w).length
def highP (E B : List Cow) (n w : Nat) : Nat := n - 1 - (behindL (keptT E B n) w).length
def spSpan (K : PySem.W.Frag) : Sp := fun vs H Q _ => ∃ (v : V) (rs : HH.Row) (E B : List Cow) (i : Nat), vs = [v, .int (i : Int)] ∧ RowAt K H v rs ∧ rs.length ≤ 30 ∧ (∀ b ∈ rs, 0 ≤ b.2) ∧ EndsOf rs E B ∧ i < rs.length ∧
  ∀ (q : Addr) (H' : Hp), H q = none → Ex H H' → H' q = some (.tup [.int (lowP E B rs.length i : Int), .int (highP E B rs.length i : Int)]) → Q (.ref q) H'
end HH
set_option maxHeartbeats 4000000
namespace K26
open PySem PySem.Spec PyProof.Rows L2 Evl HH RZ
def topS (i : Nat) : Stmt := PySem.Challenge.pw_hayherd_k26_known_kept_ones.main.body.getD i (.Pass ⟨0, 0, 0, 0⟩)
abbrev s_pass_all : Stmt := topS 4
theorem sc_pass_all : FnScope ["line", "strengths", "tolls", "who", "place"] ["line", "strengths", "tolls", "who"] (defScope s_pass_all) := ⟨rfl, rfl, rfl, by decide +kernel, rfl, by decide +kernel, by decide +kernel⟩
abbrev s_fall_all : Stmt := topS 5
theorem sc_fall_all : FnScope ["line", "strengths", "tolls", "who", "place"] ["line", "strengths", "tolls", "who"] (defScope s_fall_all) := ⟨rfl, rfl, rfl, by decide +kernel, rfl, by decide +kernel, by decide +kernel⟩
abbrev s_row_and_order : Stmt := topS 6
theorem sc_row_and_order : FnScope ["line", "strengths", "tolls", "who"] ["line", "strengths", "tolls"] (defScope s_row_and_order) := ⟨rfl, rfl, rfl, by decide +kernel, rfl, by decide +kernel, by decide +kernel⟩
abbrev s_last : Stmt := topS 7
theorem sc_last : FnScope ["row", "strengths", "tolls", "line", "who", "strength", "toll"] ["row"] (defScope s_last) := ⟨rfl, rfl, rfl, by decide +kernel, rfl, by decide +kernel, by decide +kernel⟩
abbrev s_first : Stmt := topS 8
theorem sc_first : FnScope ["row", "strengths", "tolls", "line", "who", "strength", "toll"] ["row"] (defScope s_first) := ⟨rfl, rfl, rfl, by decide +kernel, rfl, by decide +kernel, by decide +kernel⟩
abbrev s_places_of : Stmt := topS 9
theorem sc_places_of : FnScope ["order", "place", "who"] ["order"] (defScope s_places_of) := ⟨rfl, rfl, rfl, by decide +kernel, rfl, by decide +kernel, by decide +kernel⟩
abbrev s_turned_about : Stmt := topS 10
theorem sc_turned_about : FnScope ["order", "place_of", "many", "one", "other"] ["order"] (defScope s_turned_about) := ⟨rfl, rfl, rfl, by decide +kernel, rfl, by decide +kernel, by decide +kernel⟩
abbrev s_passings : Stmt := topS 11
theorem sc_passings : FnScope ["row"] ["row"] (defScope s_passings) := ⟨rfl, rfl, rfl, by decide +kernel, rfl, by decide +kernel, by decide +kernel⟩
abbrev s_fallings : Stmt := topS 12
theorem sc_fallings : FnScope ["row"] ["row"] (defScope s_fallings) := ⟨rfl, rfl, rfl, by decide +kernel, rfl, by decide +kernel, by decide +kernel⟩
abbrev s_kept_pairs : Stmt := topS 14
theorem sc_kept_pairs : FnScope ["row", "loose", "many", "pair", "one", "other"] ["row"] (defScope s_kept_pairs) := ⟨rfl, rfl, rfl, by decide +kernel, rfl, by decide +kernel, by decide +kernel⟩
abbrev s_first_not_kept : Stmt := topS 15
theorem sc_first_not_kept : FnScope ["row", "order", "place_of", "one", "other"] ["row", "order"] (defScope s_first_not_kept) := ⟨rfl, rfl, rfl, by decide +kernel, rfl, by decide +kernel, by decide +kernel⟩
abbrev s_comes_to : Stmt := topS 16
theorem sc_comes_to : FnScope ["row", "order"] ["row", "order"] (defScope s_comes_to) := ⟨rfl, rfl, rfl, by decide +kernel, rfl, by decide +kernel, by decide +kernel⟩
abbrev s_refuse_not_kept : Stmt := topS 17
theorem sc_refuse_not_kept : FnScope ["row", "order", "pair"] ["row", "order"] (defScope s_refuse_not_kept) := ⟨rfl, rfl, rfl, by decide +kernel, rfl, by decide +kernel, by decide +kernel⟩
abbrev s_kept_ahead : Stmt := topS 18
theorem sc_kept_ahead : FnScope ["row", "ahead", "one", "other"] ["row"] (defScope s_kept_ahead) := ⟨rfl, rfl, rfl, by decide +kernel, rfl, by decide +kernel, by decide +kernel⟩
abbrev s_next_ones : Stmt := topS 19
theorem sc_next_ones : FnScope ["ahead", "stood", "who"] ["ahead", "stood"] (defScope s_next_ones) := ⟨rfl, rfl, rfl, by decide +kernel, rfl, by decide +kernel, by decide +kernel⟩
abbrev s_orders_behind : Stmt := topS 20
theorem sc_orders_behind : FnScope ["ahead", "stood", "known", "many", "who"] ["ahead", "stood", "known"] (defScope s_orders_behind) := ⟨rfl, rfl, rfl, by decide +kernel, rfl, by decide +kernel, by decide +kernel⟩
abbrev s_picked : Stmt := topS 21
theorem sc_picked : FnScope ["shares", "number", "at"] ["shares", "number"] (defScope s_picked) := ⟨rfl, rfl, rfl, by decide +kernel, rfl, by decide +kernel, by decide +kernel⟩
abbrev s_orders_many : Stmt := topS 22
theorem sc_orders_many : FnScope ["row"] ["row"] (defScope s_orders_many) := ⟨rfl, rfl, rfl, by decide +kernel, rfl, by decide +kernel, by decide +kernel⟩
abbrev s_order_at : Stmt := topS 23
theorem sc_order_at : FnScope ["row", "number", "ahead", "known", "order", "stood", "left", "ones", "who", "one"] ["row", "number"] (defScope s_order_at) := ⟨rfl, rfl, rfl, by decide +kernel, rfl, by decide +kernel, by decide +kernel⟩
abbrev s_number_of : Stmt := topS 24
theorem sc_number_of : FnScope ["row", "order", "ahead", "known", "number", "stood", "who", "other"] ["row", "order"] (defScope s_number_of) := ⟨rfl, rfl, rfl, by decide +kernel, rfl, by decide +kernel, by decide +kernel⟩
abbrev s_span : Stmt := topS 25
theorem sc_span : FnScope ["row", "who", "pairs", "ahead", "behind", "one", "other"] ["row", "who"] (defScope s_span) := ⟨rfl, rfl, rfl, by decide +kernel, rfl, by decide +kernel, by decide +kernel⟩
abbrev s_law_dip : Stmt := topS 27
theorem sc_law_dip : FnScope ["_law_script", "_law_k", "_law_cell"] ["_law_script", "_law_k"] (defScope s_law_dip) := ⟨rfl, rfl, rfl, by decide +kernel, rfl, by decide +kernel, by decide +kernel⟩
abbrev s_law_take : Stmt := topS 28
theorem sc_law_take : FnScope ["_law_box", "_law_many", "_law_found", "_law_once", "_law_pair"] ["_law_box", "_law_many"] (defScope s_law_take) := ⟨rfl, rfl, rfl, by decide +kernel, rfl, by decide +kernel, by decide +kernel⟩
abbrev s_law_folded : Stmt := topS 29
theorem sc_law_folded : FnScope ["_law_script", "_law_many", "_law_cells", "_law_k", "_law_cell"] ["_law_script", "_law_many"] (defScope s_law_folded) := ⟨rfl, rfl, rfl, by decide +kernel, rfl, by decide +kernel, by decide +kernel⟩
abbrev s_law_same : Stmt := topS 30
theorem sc_law_same : FnScope ["_law_found", "_law_due", "_law_one", "_law_two"] ["_law_found", "_law_due"] (defScope s_law_same) := ⟨rfl, rfl, rfl, by decide +kernel, rfl, by decide +kernel, by decide +kernel⟩
abbrev s_law_of : Stmt := topS 31
theorem sc_law_of : FnScope ["_law_box", "_law_pool"] ["_law_box", "_law_pool"] (defScope s_law_of) := ⟨rfl, rfl, rfl, by decide +kernel, rfl, by decide +kernel, by decide +kernel⟩
abbrev s_law_pairs : Stmt := topS 32
theorem sc_law_pairs : FnScope ["_law_many", "_law_found", "_law_one", "_law_other"] ["_law_many"] (defScope s_law_pairs) := ⟨rfl, rfl, rfl, by decide +kernel, rfl, by decide +kernel, by decide +kernel⟩
abbrev s_law_known : Stmt := topS 33
theorem sc_law_known : FnScope ["_law_pen", "_law_fixed", "_law_due", "_law_spans", "_law_told", "_law_whole", "_law_ends"] ["_law_pen", "_law_fixed", "_law_due", "_law_spans"] (defScope s_law_known) := ⟨rfl, rfl, rfl, by decide +kernel, rfl, by decide +kernel, by decide +kernel⟩
abbrev s_law_right : Stmt := topS 34
theorem sc_law_right : FnScope ["_law_box", "_law_many", "_law_low", "_law_by", "_law_last_at", "_law_count", "_law_k", "_law_stair", "_law_asks", "_law_step", "_law_pen", "_law_fixed"] ["_law_box"] (defScope s_law_right) := ⟨rfl, rfl, rfl, by decide +kernel, rfl, by decide +kernel, by decide +kernel⟩
abbrev s_law : Stmt := topS 35
theorem sc_law : FnScope ["_law_script", "_law_cells", "_law_stair", "_law_at", "_law_k"] ["_law_script"] (defScope s_law) := ⟨rfl, rfl, rfl, by decide +kernel, rfl, by decide +kernel, by decide +kernel⟩
abbrev s_ini_NoOrder : Stmt := (HH.clsB (topS 2)).getD 0 (.Pass ⟨0, 0, 0, 0⟩)
theorem sc_ini_NoOrder : FnScope ["self", "number"] ["self", "number"] (defScope s_ini_NoOrder) := ⟨rfl, rfl, rfl, by decide +kernel, rfl, by decide +kernel, by decide +kernel⟩
end K26
set_option maxHeartbeats 4000000
namespace K26
open PySem PySem.Spec PyProof.Rows L2 Evl HH RZ
section
variable {P : Program} {w : World} {K : PySem.W.Frag} {mg : Str → Option Value} {base : Heap}
theorem ok_pass_all {f : Addr} {fd : FuncData} (F : FnP K "pass_all" s_pass_all f fd) (g : mg "pass_all" = some (.ref f)) (b : Binds K fd ["line", "strengths", "tolls", "who"] []) (m_len : mg "len" = none) : Has P w K mg base 1 "pass_all" ["line", "strengths", "tolls", "who"] spPassAll f fd := by
  refine ⟨F.ok sc_pass_all (fun vs H Q E h => ?_) (fun cdv A outer s H vs Q E hr h => ?_), g, F.kp, b⟩
  · obtain ⟨l, sa, ta, N, S, T, who, s0, t0, rfl, _⟩ := h
    rfl
  · obtain ⟨l, sa, ta, N, S, T, who, s0, t0, rfl, hl, hs, ht, ne1, ne2, ne3, kp, hs0, ht0, hne, hN, t0nn, nfN, q⟩ := h
    refine ⟨_, PSs.nox (pss_cons (ps_set (i := 4) sc_pass_all.nd rfl (.inl rfl) (pe_callB call_len_seq (by rfl) m_len PySem.boot_len (pa_cons (pv 0) pa_nil)))
      (pss_cons (ps_while PassesOwn.never (PW.pt (pw_and (pt_cmpR op_gt (pv 4) pe_int (nomark _)) (pw_and1 (pt_cmpR op_gt (pe_op op_sub (pe_ix ix_list (pv 1) (pv 3) (fun _ _ => rfl)) (pe_ix ix_list (pv 2) (pe_ix ix_list (pv 0) (pe_op op_sub (pv 4) pe_int) (fun _ _ => rfl)) (fun _ _ => rfl))) (pe_ix ix_list (pv 1) (pe_ix ix_list (pv 0) (pe_op op_sub (pv 4) pe_int) (fun _ _ => rfl)) (fun _ _ => rfl)) (nomark _))))) (pss_cons (ps_aug (i := 4) sc_pass_all.nd rfl (.inl rfl) pe_int ip_sub)
      (pss_one (ps_augS (pv 1) (pv 3) get_listN (pe_ix ix_list (pv 2) (pe_ix ix_list (pv 0) (pv 4) (fun _ _ => rfl)) (fun _ _ => rfl)) ip_sub set_list))))
      (pss_one (ps_expr (pe_bm PySem.F.plainAttrs_list PySem.F.slot_list_insert PySem.F.type_list_insert mt_insert (pv 0) (pa_cons (pv 4) (pa_cons (pv 3) pa_nil))))))), ?_⟩
    refine q_asg (ev_len (K := K) (ev_var rfl) (sq_of hl)) fun H1 e1 => ?_
    refine q_while (fun m σ' H' => ∃ (A B : List Cow) (s : Int), m = A.length ∧ σ' = [some (.ref l), some (.ref sa), some (.ref ta), some (.int (who : Int)), some (.int (A.length : Int))] ∧ N = A ++ B ∧ Steps (N ++ [(who, (s0, t0))]) (A ++ (who, (s, t0)) :: B) ∧ (∀ b r, B = b :: r → b.2.1 < s) ∧ H' sa = some (.lst ((S.set who s).map V.int)) ∧ ExB sa H H') N.length ?_ (fun m σ' H' hW => ?_)
    · have e0 : S.set who s0 = S := by
        exact set_self hs0
      refine ⟨N, [], s0, rfl, ?_, by rw [List.append_nil], .refl _, (fun b r z => by cases z), ?_, .of e1⟩
      · show [some (V.ref l), some (.ref sa), some (.ref ta), some (.int (who : Int)), some (.int ((idsV N).length : Int))] = _
        rw [show (idsV N).length = N.length from List.length_map ..]
      · rw [e0]
        exact e1 _ _ hs
    · obtain ⟨A, B, s, rfl, rfl, hAB, st, hB, hsa, x1⟩ := hW
      have hl' := x1 _ _ ne1 hl
      have ht' := x1 _ _ (Ne.symm ne3) ht
      have hwho : (S.set who s)[who]? = some s := set_at hs0
      have fin : (∀ x, A.getLast? = some x → ¬ (s - x.2.2 > x.2.1)) → ∀ H1, Ex H' H1 → tDrop (tBM K "list" (fun x vs H Q => ∃ (l : Addr) (xs : List V) (i : Int) (y : V), x = .ref l ∧ vs = [.int i, y] ∧ H l = some (.lst xs) ∧ xs.length < sizeLine ∧ 0 ≤ i ∧ i < 2 ^ 63 ∧ Q .non (upd H l (.lst (xs.take i.toNat ++ [y] ++ xs.drop i.toNat)))) (tVar 0) (tCons (tVar 4) (tCons (tVar 3) tNil))) { nx := fun _ H' => Q .non H', rt := Q } [some (.ref l), some (.ref sa), some (.ref ta), some (.int (who : Int)), some (.int (A.length : Int))] H1 := fun hlast H1 e1 => by
        have hAl : A.length ≤ N.length := by rw [hAB, List.length_append]; omega
        refine ⟨.ref l, rfl, .inl ⟨rfl, _, sq_of (e1 _ _ hl')⟩, .int (A.length : Int), rfl, .int (who : Int), rfl, l, _, (A.length : Int), .int (who : Int), rfl, rfl, e1 _ _ hl', sz_lt (by rw [idsV_len]; omega), by omega, by omega, ?_⟩
        refine q A B s _ hAB st (nfr_in (by rw [← hAB]; exact nfN) hlast fun b r z => ?_) ?_ ?_ ?_
        · have := hB b r z
          dsimp only
          omega
        · rw [upd_same, hAB, show ((A.length : Nat) : Int).toNat = A.length from rfl, ← idsV_ins A B (who, (s, t0))]
        · rw [upd_ne (Ne.symm ne1)]
          exact e1 _ _ hsa
        · intro c o hc1 hc2 hc
          rw [upd_ne hc1]
          exact e1 _ _ (x1 _ _ hc2 hc)
      rcases List.eq_nil_or_concat A with rfl | ⟨A', x, rfl⟩
      · refine ⟨false, (et_and (a := false) (b := false) (et_is (et_test (ev_op (ev_var rfl) ev_c rv_I0)) rfl) (fun z => by cases z)), (fun z => by cases z), fun _ H1 e1 => fin (fun x z => by cases z) H1 e1⟩
      · have hxN : x ∈ N := by
          rw [hAB]
          simp
        have hlen : (A'.concat x).length = A'.length + 1 := List.length_concat ..
        have hpl : ((A'.concat x).length : Int) - 1 = (A'.length : Int) := by
          rw [hlen]
          omega
        have hNe : N = A' ++ x :: B := by
          rw [hAB]
          simp
        have gl : atI (idsV N) (A'.length : Int) = some (.int (x.1 : Int)) := atI_nat (by rw [hNe]; exact idsV_at A' B x)
        have gT : atI (T.map V.int) (x.1 : Int) = some (.int x.2.2) := atI_nat (getI (kp.t x hxN))
        have gS : atI ((S.set who s).map V.int) (x.1 : Int) = some (.int x.2.1) := atI_nat (getI (by rw [set_off (Ne.symm (hne x hxN))]; exact kp.s x hxN))
        have gW : atI ((S.set who s).map V.int) (who : Int) = some (.int s) := atI_nat (getI hwho)
        refine ⟨decide (s - x.2.2 > x.2.1), et_is (et_and (a := true) (b := decide (s - x.2.2 > x.2.1)) (et_is (et_test (ev_op (ev_var rfl) ev_c rv_I0)) (by rw [hlen]; exact decide_eq_true (by omega))) fun _ => et_test (ev_op (ev_op (ev_op (ev_var rfl) (ev_var rfl) (rv_ixL (sq_of hsa) gW)) (ev_op (ev_var rfl) (ev_op (ev_var rfl) (ev_op (ev_var rfl) ev_c rv_I0) (rv_ixL (K := K) (sq_of hl') (by rw [hpl]; exact gl))) (rv_ixL (sq_of ht') gT)) rv_I0) (ev_op (ev_var rfl) (ev_op (ev_var rfl) (ev_op (ev_var rfl) ev_c rv_I0) (rv_ixL (K := K) (sq_of hl') (by rw [hpl]; exact gl))) (rv_ixL (sq_of hsa) gS)) rv_I0)) (Bool.true_and _), fun hd H1 e1 => ?_, fun hd H1 e1 => fin (fun y z => ?_) H1 e1⟩
        · have hd := of_decide_eq_true hd
          refine ⟨fun σ2 H2 => ∃ m', m' < (A'.concat x).length ∧ ∃ (A B : List Cow) (s : Int), m' = A.length ∧ σ2 = [some (.ref l), some (.ref sa), some (.ref ta), some (.int (who : Int)), some (.int (A.length : Int))] ∧ N = A ++ B ∧ Steps (N ++ [(who, (s0, t0))]) (A ++ (who, (s, t0)) :: B) ∧ (∀ b r, B = b :: r → b.2.1 < s) ∧ H2 sa = some (.lst ((S.set who s).map V.int)) ∧ ExB sa H H2, fun σ2 H2 h => h, ?_⟩
          refine q_aug (f := fun i j => i - j) (b := 1) rfl ev_c fun H2 e2 => ?_
          rw [hpl]
          have e12 := e1.trans e2
          refine ⟨.ref sa, rfl, .int (who : Int), rfl, sa, _, who, .int s, rfl, rfl, e12 _ _ hsa, getI hwho, ?_⟩
          have ev : Ev (tOp (rIxL K) (tVar 2) (tOp (rIxL K) (tVar 0) (tVar 4))) [some (.ref l), some (.ref sa), some (.ref ta), some (.int (who : Int)), some (.int (A'.length : Int))] H2 (.int x.2.2) := ev_op (ev_var rfl) (ev_op (ev_var rfl) (ev_var rfl) (rv_ixL (sq_of (e12 _ _ hl')) gl)) (rv_ixL (sq_of (e12 _ _ ht')) gT)
          refine ev H2 (Ex.refl H2) _ fun H3 e3 => ⟨s, x.2.2, rfl, rfl, sa, _, (who : Int), who, rfl, rfl, e3 _ _ (e12 _ _ hsa), ixN_nat (by rw [List.length_map, List.length_set]; exact (List.getElem?_eq_some_iff.mp hs0).1), ?_⟩
          refine ⟨A'.length, by rw [hlen]; omega, A', x :: B, s - x.2.2, rfl, rfl, hNe, st.snoc ⟨A', B, x, (who, (s, t0)), by simp, hd, rfl⟩, fun b r z => ?_, ?_, ?_⟩
          · cases z
            omega
          · rw [upd_same, ← List.map_set, List.set_set]
          · exact (x1.trans (.of (e12.trans e3))).upd
        · have z' : x = y := by
            rw [List.concat_eq_append, List.getLast?_concat] at z
            exact Option.some.inj z
          subst z'
          exact of_decide_eq_false hd
theorem ok_fall_all {f : Addr} {fd : FuncData} (F : FnP K "fall_all" s_fall_all f fd) (g : mg "fall_all" = some (.ref f)) (b : Binds K fd ["line", "strengths", "tolls", "who"] []) (m_len : mg "len" = none) : Has P w K mg base 1 "fall_all" ["line", "strengths", "tolls", "who"] spFallAll f fd := by
  refine ⟨F.ok sc_fall_all (fun vs H Q E h => ?_) (fun cdv A outer s H vs Q E hr h => ?_), g, F.kp, b⟩
  · obtain ⟨l, sa, ta, N, S, T, who, s0, t0, rfl, _⟩ := h
    rfl
  · obtain ⟨l, sa, ta, N, S, T, who, s0, t0, rfl, hl, hs, ht, ne1, ne2, ne3, kp, hs0, ht0, hne, hN, nfN, q⟩ := h
    refine ⟨_, PSs.nox (pss_cons (ps_set (i := 4) sc_fall_all.nd rfl (.inl rfl) pe_int)
      (pss_cons (ps_while PassesOwn.never (PW.pt (pw_and (pt_cmpR op_lt (pv 4) (pe_callB call_len_seq (by rfl) m_len PySem.boot_len (pa_cons (pv 0) pa_nil)) (nomark _)) (pw_and1 (pt_cmpR op_gt (pe_ix ix_list (pv 1) (pv 3) (fun _ _ => rfl)) (pe_ix ix_list (pv 1) (pe_ix ix_list (pv 0) (pv 4) (fun _ _ => rfl)) (fun _ _ => rfl)) (nomark _))))) (pss_cons (ps_augS (pv 1) (pv 3) get_listN (pe_ix ix_list (pv 2) (pe_ix ix_list (pv 0) (pv 4) (fun _ _ => rfl)) (fun _ _ => rfl)) ip_add set_list)
      (pss_one (ps_aug (i := 4) sc_fall_all.nd rfl (.inl rfl) pe_int ip_add))))
      (pss_one (ps_expr (pe_bm PySem.F.plainAttrs_list PySem.F.slot_list_insert PySem.F.type_list_insert mt_insert (pv 0) (pa_cons (pv 4) (pa_cons (pv 3) pa_nil))))))), ?_⟩
    refine q_asg ev_c fun H1 e1 => ?_
    refine q_while (fun m σ' H' => ∃ (A B : List Cow) (s : Int), m = B.length ∧ σ' = [some (.ref l), some (.ref sa), some (.ref ta), some (.int (who : Int)), some (.int (A.length : Int))] ∧ N = A ++ B ∧ FSteps ((who, (s0, t0)) :: N) (A ++ (who, (s, t0)) :: B) ∧ (∀ x, A.getLast? = some x → x.2.1 < s) ∧ H' sa = some (.lst ((S.set who s).map V.int)) ∧ ExB sa H H') N.length ?_ (fun m σ' H' hW => ?_)
    · have e0 : S.set who s0 = S := by
        exact set_self hs0
      refine ⟨[], N, s0, rfl, rfl, rfl, .refl _, (fun x z => by cases z), ?_, .of e1⟩
      rw [e0]
      exact e1 _ _ hs
    · obtain ⟨A, B, s, rfl, rfl, hAB, st, hA, hsa, x1⟩ := hW
      have hl' := x1 _ _ ne1 hl
      have ht' := x1 _ _ (Ne.symm ne3) ht
      have hwho : (S.set who s)[who]? = some s := set_at hs0
      have hNl : N.length = A.length + B.length := by rw [hAB, List.length_append]
      have fin : (∀ b r, B = b :: r → ¬ (s > b.2.1)) → ∀ H1, Ex H' H1 → tDrop (tBM K "list" (fun x vs H Q => ∃ (l : Addr) (xs : List V) (i : Int) (y : V), x = .ref l ∧ vs = [.int i, y] ∧ H l = some (.lst xs) ∧ xs.length < sizeLine ∧ 0 ≤ i ∧ i < 2 ^ 63 ∧ Q .non (upd H l (.lst (xs.take i.toNat ++ [y] ++ xs.drop i.toNat)))) (tVar 0) (tCons (tVar 4) (tCons (tVar 3) tNil))) { nx := fun _ H' => Q .non H', rt := Q } [some (.ref l), some (.ref sa), some (.ref ta), some (.int (who : Int)), some (.int (A.length : Int))] H1 := fun hB H1 e1 => by
        refine ⟨.ref l, rfl, .inl ⟨rfl, _, sq_of (e1 _ _ hl')⟩, .int (A.length : Int), rfl, .int (who : Int), rfl, l, _, (A.length : Int), .int (who : Int), rfl, rfl, e1 _ _ hl', sz_lt (by rw [idsV_len]; omega), by omega, by omega, ?_⟩
        refine q A B s _ hAB st (ffr_in (by rw [← hAB]; exact nfN) (fun x z => ?_) hB) ?_ ?_ ?_
        · have := hA x z
          dsimp only
          omega
        · rw [upd_same, hAB, show ((A.length : Nat) : Int).toNat = A.length from rfl, ← idsV_ins A B (who, (s, t0))]
        · rw [upd_ne (Ne.symm ne1)]
          exact e1 _ _ hsa
        · intro c o hc1 hc2 hc
          rw [upd_ne hc1]
          exact e1 _ _ (x1 _ _ hc2 hc)
      have gWI : atI ((S.set who s).map V.int) (who : Int) = some (.int s) := atI_nat (getI hwho)
      cases B with
      | nil =>
        have hlen0 : (idsV N).length = A.length := by
          rw [idsV_len, hNl]
          rfl
        refine ⟨false, (et_and (a := false) (b := false) (et_is (et_test (ev_op (ev_var rfl) (ev_len (K := K) (ev_var rfl) (sq_of hl')) rv_I0)) (by rw [hlen0]; exact decide_eq_false (by omega))) (fun z => by cases z)), (fun z => by cases z), fun _ H1 e1 => fin (fun b r z => by cases z) H1 e1⟩
      | cons x B =>
        have hxN : x ∈ N := by
          rw [hAB]
          simp
        have hlen1 : (idsV N).length = A.length + (B.length + 1) := by
          rw [idsV_len, hNl]
          rfl
        have gl : atI (idsV N) (A.length : Int) = some (.int (x.1 : Int)) := atI_nat (by rw [hAB]; exact idsV_at A B x)
        have gT : atI (T.map V.int) (x.1 : Int) = some (.int x.2.2) := atI_nat (getI (kp.t x hxN))
        have gS : atI ((S.set who s).map V.int) (x.1 : Int) = some (.int x.2.1) := atI_nat (getI (by rw [set_off (Ne.symm (hne x hxN).1)]; exact kp.s x hxN))
        refine ⟨decide (s > x.2.1), et_is (et_and (a := true) (b := decide (s > x.2.1)) (et_is (et_test (ev_op (ev_var rfl) (ev_len (K := K) (ev_var rfl) (sq_of hl')) rv_I0)) (by rw [hlen1]; exact decide_eq_true (by omega))) fun _ => et_test (ev_op (ev_op (ev_var rfl) (ev_var rfl) (rv_ixL (K := K) (sq_of hsa) gWI)) (ev_op (ev_var rfl) (ev_op (ev_var rfl) (ev_var rfl) (rv_ixL (K := K) (sq_of hl') gl)) (rv_ixL (sq_of hsa) gS)) rv_I0)) (Bool.true_and _), fun hd H1 e1 => ?_, fun hd H1 e1 => fin (fun b r z => ?_) H1 e1⟩
        · have hd := of_decide_eq_true hd
          refine ⟨fun σ2 H2 => ∃ m', m' < (x :: B).length ∧ ∃ (A B : List Cow) (s : Int), m' = B.length ∧ σ2 = [some (.ref l), some (.ref sa), some (.ref ta), some (.int (who : Int)), some (.int (A.length : Int))] ∧ N = A ++ B ∧ FSteps ((who, (s0, t0)) :: N) (A ++ (who, (s, t0)) :: B) ∧ (∀ x, A.getLast? = some x → x.2.1 < s) ∧ H2 sa = some (.lst ((S.set who s).map V.int)) ∧ ExB sa H H2, fun σ2 H2 h => h, ?_⟩
          refine ⟨.ref sa, rfl, .int (who : Int), rfl, sa, _, who, .int s, rfl, rfl, e1 _ _ hsa, getI hwho, ?_⟩
          have ev : Ev (tOp (rIxL K) (tVar 2) (tOp (rIxL K) (tVar 0) (tVar 4))) [some (.ref l), some (.ref sa), some (.ref ta), some (.int (who : Int)), some (.int (A.length : Int))] H1 (.int x.2.2) := ev_op (ev_var rfl) (ev_op (ev_var rfl) (ev_var rfl) (rv_ixL (sq_of (e1 _ _ hl')) gl)) (rv_ixL (sq_of (e1 _ _ ht')) gT)
          refine ev H1 (Ex.refl H1) _ fun H3 e3 => ⟨s, x.2.2, rfl, rfl, sa, _, (who : Int), who, rfl, rfl, e3 _ _ (e1 _ _ hsa), ixN_nat (by rw [List.length_map, List.length_set]; exact (List.getElem?_eq_some_iff.mp hs0).1), ?_⟩
          refine s_aug (f := fun i j => i + j) (a := (A.length : Int)) (b := 1) rfl ev_c fun H4 e4 => ?_
          have hxnn := (hne x hxN).2
          refine ⟨B.length, Nat.lt_succ_self _, A ++ [x], B, s + x.2.2, rfl, ?_, by rw [hAB]; simp, ?_, fun y z => ?_, ?_, ?_⟩
          · rw [List.length_append]
            rfl
          · refine st.trans (.one ⟨A, B, (who, (s, t0)), x, rfl, hd, by simp⟩)
          · rw [List.getLast?_concat] at z
            cases z
            omega
          · refine e4 _ _ ?_
            rw [upd_same, ← List.map_set, List.set_set]
          · exact ((x1.trans (.of (e1.trans e3))).upd).trans (.of e4)
        · cases z
          exact of_decide_eq_false hd
theorem ok_row_and_order {f : Addr} {fd : FuncData} (F : FnP K "row_and_order" s_row_and_order f fd) (g : mg "row_and_order" = some (.ref f)) (b : Binds K fd ["line", "strengths", "tolls"] []) (m_tuple : mg "tuple" = none) : Has P w K mg base 1 "row_and_order" ["line", "strengths", "tolls"] (spRowOrder K) f fd := by
  refine ⟨F.ok sc_row_and_order (fun vs H Q E h => ?_) (fun cdv A outer s H vs Q E hr h => ?_), g, F.kp, b⟩
  · obtain ⟨l, sa, ta, N, S, T, rfl, _⟩ := h
    rfl
  · obtain ⟨l, sa, ta, N, S, T, rfl, hl, hs, ht, kp, hN, q⟩ := h
    refine ⟨_, PSs.nox (pss_one (ps_ret (pe_tup (pa_cons (pe_tupleOf (by rfl) m_tuple (pe_lc (own := [("who", 3)]) (g := gName 3) (by rfl) sc_row_and_order.nd (pi_list (pv 0)) (blkOk_by (own := [("who", 3)]) (N := ["line", "strengths", "tolls", "who"]) (sc := defScope s_row_and_order) (by decide +kernel)) (fun _ _ _ _ _ => (pg_name (i := 3) sc_row_and_order.nd rfl (Or.inl rfl))) (fun _ _ _ _ _ => pts_nil) (fun _ _ _ _ _ => (pe_tup (pa_cons (pe_ix (ix_listK (K := K)) (pv 1) (pv 3) (fun _ _ => rfl)) (pa_cons (pe_ix (ix_listK (K := K)) (pv 2) (pv 3) (fun _ _ => rfl)) pa_nil)))))) (pa_cons (pe_tupleOf (by rfl) m_tuple (pv 0)) pa_nil))))), ?_⟩
    refine ⟨.ref l, rfl, l, rfl, ⟨_, sq_of hl⟩, fun Dl hD => ?_⟩
    refine lc_it (walk_list (xs := idsV N)) (fun k H2 => Ex H H2 ∧ ∃ us, H2 Dl = some (.lst us) ∧ Beasts K H2 us (HH.rowsOf (N.take k))) ⟨Ex.new hD, [], upd_same, Beasts.nil⟩ (fun k H2 _ p => sq_of (p.1 _ _ hl)) (fun k x H2 H3 hk p y => ?_) (fun H2 p => ?_)
    · obtain ⟨rfl, hx⟩ := y
      obtain ⟨p1, us, p2, p3⟩ := p
      have hk' : k < N.length := by rw [← idsV_len]; exact hk
      have hmem : N[k] ∈ N := List.getElem_mem hk'
      have hx' : x = .int (N[k].1 : Int) := by
        unfold idsV at hx
        rw [List.getElem?_map, List.getElem?_eq_getElem hk'] at hx
        exact (Option.some.inj hx).symm
      subst hx'
      refine ⟨rfl, .ref sa, rfl, .int (N[k].1 : Int), rfl, sa, _, _, .int N[k].2.1, rfl, rfl, sq_of (p1 _ _ hs), atI_nat (getI (kp.s _ hmem)), .ref ta, rfl, .int (N[k].1 : Int), rfl, ta, _, _, .int N[k].2.2, rfl, rfl, sq_of (p1 _ _ ht), atI_nat (getI (kp.t _ hmem)), by show 2 ≤ sizeLine; decide, fun TT hT => ?_⟩
      have g1 : (upd H3 TT (.tup [.int N[k].2.1, .int N[k].2.2])) Dl = some (.lst us) := Ex.new hT _ _ p2
      refine ⟨us, g1, ?_, Ex.mut (p1.trans (Ex.new hT)) hD, us ++ [.ref TT], upd_same, ?_⟩
      · rw [p3.1, cow_len, List.length_take]
        exact sz_lt (by omega)
      · have e : HH.rowsOf (N.take (k + 1)) = HH.rowsOf (N.take k) ++ [N[k].2] := by
          unfold HH.rowsOf
          rw [List.take_add_one, List.getElem?_eq_getElem hk', List.map_append]
          rfl
        rw [e]
        exact ((p3.ex (Ex.new hT)).app (Beasts.one (b := N[k].2) ⟨TT, rfl, st_of upd_same⟩)).exB (ExB.refl _ _).upd g1
    · obtain ⟨p1, us, p2, p3⟩ := p
      rw [idsV_len, List.take_length] at p3
      refine .inl ⟨Dl, us, rfl, sq_of p2, fun rt hrt => ⟨.ref l, rfl, .inl ⟨l, _, rfl, sq_of (Ex.new hrt _ _ (p1 _ _ hl)), fun ot hot => ⟨by show 2 ≤ sizeLine; decide, fun qq hqq => ?_⟩⟩⟩⟩
      have e2 := (Ex.new (o := .tup us) hrt).trans ((Ex.new (o := .tup (idsV N)) hot).trans (Ex.new (o := .tup [.ref rt, .ref ot]) hqq))
      refine q qq _ (p1.trans e2) ⟨.ref rt, ot, upd_same, ⟨rt, us, rfl, st_of ?_, p3.ex e2⟩, ?_⟩
      · exact Ex.new hqq _ _ (Ex.new hot _ _ upd_same)
      · exact Ex.new hqq _ _ upd_same
theorem ok_last {f f1 f2 : Addr} {fd fd1 fd2 : FuncData} (F : FnP K "last" s_last f fd) (g : mg "last" = some (.ref f)) (b : Binds K fd ["row"] []) (h_pass_all : Has P w K mg base 1 "pass_all" ["line", "strengths", "tolls", "who"] spPassAll f1 fd1) (h_row_and_order : Has P w K mg base 1 "row_and_order" ["line", "strengths", "tolls"] (spRowOrder K) f2 fd2) (m_range : mg "range" = none) (m_len : mg "len" = none) :
    Has P w K mg base 2 "last" ["row"] (spLast K) f fd := by
  refine ⟨F.ok sc_last (fun vs H Q E h => ?_) (fun cdv A outer s H vs Q E hr h => ?_), g, F.kp, b⟩
  · obtain ⟨v, rs, rfl, _⟩ := h
    rfl
  · obtain ⟨v, rs, rfl, hv, hl, ht, q⟩ := h
    refine ⟨_, PSs.nox (pss_cons (ps_setLc (i := 1) (own := [("strength", 5), ("toll", 6)]) (g := gTup K 2 (gCons (gName 5) (gCons (gName 6) gNil))) (by rfl) sc_last.nd rfl rfl (sw_true rfl rfl rfl (by decide +kernel)) (pi_tup (pv 0)) (blkOk_by (own := [("strength", 5), ("toll", 6)]) (N := ["row", "strengths", "tolls", "line", "who", "strength", "toll"]) (sc := defScope s_last) (by decide +kernel)) (fun _ _ _ _ _ => (pg_tup rfl (pgs_cons (pg_name (i := 5) sc_last.nd rfl (Or.inl rfl)) (pgs_cons (pg_name (i := 6) sc_last.nd rfl (Or.inl rfl)) pgs_nil)))) (fun _ _ _ _ _ => pts_nil) (fun _ _ _ _ _ => (pv 5)))
      (pss_cons (ps_setLc (i := 2) (own := [("strength", 5), ("toll", 6)]) (g := gTup K 2 (gCons (gName 5) (gCons (gName 6) gNil))) (by rfl) sc_last.nd rfl rfl (sw_true rfl rfl rfl (by decide +kernel)) (pi_tup (pv 0)) (blkOk_by (own := [("strength", 5), ("toll", 6)]) (N := ["row", "strengths", "tolls", "line", "who", "strength", "toll"]) (sc := defScope s_last) (by decide +kernel)) (fun _ _ _ _ _ => (pg_tup rfl (pgs_cons (pg_name (i := 5) sc_last.nd rfl (Or.inl rfl)) (pgs_cons (pg_name (i := 6) sc_last.nd rfl (Or.inl rfl)) pgs_nil)))) (fun _ _ _ _ _ => pts_nil) (fun _ _ _ _ _ => (pv 6)))
      (pss_cons (ps_set (i := 3) sc_last.nd rfl (.inl rfl) (pe_lst pa_nil))
      (pss_cons (ps_for PassesOwn.never rfl (pi_range1 (by rfl) m_range (pa_cons (pe_callB call_len_seq (by rfl) m_len PySem.boot_len (pa_cons (pv 0) pa_nil)) pa_nil)) (pg_name (i := 4) sc_last.nd rfl (Or.inl rfl))
        (pss_one (ps_expr (pe_call h_pass_all.G (hr.mono (by decide)) (by rfl) h_pass_all.g h_pass_all.kp h_pass_all.b .nil pass0 (pa_cons (pv 3) (pa_cons (pv 1) (pa_cons (pv 2) (pa_cons (pv 4) pa_nil))))))))
      (pss_one (ps_ret (pe_call h_row_and_order.G (hr.mono (by decide)) (by rfl) h_row_and_order.g h_row_and_order.kp h_row_and_order.b .nil pass0 (pa_cons (pv 3) (pa_cons (pv 1) (pa_cons (pv 2) pa_nil)))))))))), ?_⟩
    refine q_asgL (el_unzip true hv hl (ev_var rfl) (fun x y => rfl) (fun x y => rfl)) fun sa H1 hsa e1 h1 => ?_
    refine q_asgL (el_unzip false (hv.ex e1) hl (ev_var rfl) (fun x y => rfl) (fun x y => rfl)) fun ta H2 hta e2 h2 => ?_
    refine q_asgL (el_lst ea_nil (by show 0 ≤ 100000; decide)) fun l H3 hl3 e3 h3 => ?_
    have h1' : H3 sa = some (.lst ((rs.map (·.1)).map V.int)) := by
      rw [List.map_map]
      exact e3 _ _ (e2 _ _ h1)
    have h2' : H3 ta = some (.lst ((rs.map (·.2)).map V.int)) := by
      rw [List.map_map]
      exact e3 _ _ h2
    have ne3 : sa ≠ ta := ne_of_none h1 hta
    have ne1 : l ≠ sa := (ne_of_none (e2 _ _ h1) hl3).symm
    have ne2 : l ≠ ta := (ne_of_none h2 hl3).symm
    have e123 := (e1.trans e2).trans e3
    have fl : H l = none := fresh_back (e1.trans e2) hl3
    have fs : H sa = none := hsa
    have hlen0 : (rs.map (·.1)).length = rs.length := List.length_map ..
    refine q_forR1 (n := (rs.length : Int)) (ea_cons (ev_lenR (ev_var rfl) (hv.ex e123)) ea_nil) (by omega) (fun k σ' H' => ∃ (y : Option V) (y5 y6 : Option V) (N : List Cow) (S : List Int), σ' = [some v, some (.ref sa), some (.ref ta), some (.ref l), y, y5, y6] ∧ H' l = some (.lst (idsV N)) ∧ H' sa = some (.lst (S.map V.int)) ∧ H' ta = some (.lst ((rs.map (·.2)).map V.int)) ∧ Kept S (rs.map (·.2)) N ∧ (∀ j, k ≤ j → S[j]? = (rs.map (·.1))[j]?) ∧ (∀ x ∈ N, x.1 < k) ∧ N.length = k ∧ NfR N ∧ Steps (tag 0 rs) (N ++ tag k (rs.drop k)) ∧ Ex H H') (fun H4 e4 => ?_) (fun k σ' H4 hk hW => ?_) (fun σ' H4 hW => ?_)
    · refine ⟨none, none, none, [], rs.map (·.1), rfl, e4 _ _ h3, e4 _ _ h1', e4 _ _ h2', ⟨(fun x z => by cases z), (fun x z => by cases z)⟩, fun j _ => rfl, (fun x z => by cases z), rfl, True.intro, .refl _, e123.trans e4⟩
    · obtain ⟨y, y5, y6, N, S, rfl, w1, w2, w3, w4, w5, w6, w7, w8, w9, w10⟩ := hW
      have hk' : k < rs.length := by omega
      have gk := List.getElem?_eq_getElem hk'
      obtain ⟨g1, g2⟩ := rows_get rs k _ gk
      refine ⟨.ref l, rfl, .ref sa, rfl, .ref ta, rfl, .int (k : Int), rfl, l, sa, ta, N, S, rs.map (·.2), k, rs[k].1, rs[k].2, rfl, w1, w2, w3, ne1, ne2, ne3, w4, by rw [w5 k (Nat.le_refl _)]; exact g1, g2, fun x hx => by have := w6 x hx; omega, by omega, ht _ (List.getElem_mem hk'), w8, fun A B s5 H5 hAB st nf h5 h6 x5 => ?_⟩
      have hSk : S[k]? = some rs[k].1 := by
        rw [w5 k (Nat.le_refl _)]
        exact g1
      have hmem : ∀ x ∈ A ++ (k, (s5, rs[k].2)) :: B, x = (k, (s5, rs[k].2)) ∨ x ∈ N := fun x hx => by
        rw [hAB]
        rcases List.mem_append.mp hx with h | h
        · exact .inr (List.mem_append_left _ h)
        · rcases List.mem_cons.mp h with h | h
          · exact .inl h
          · exact .inr (List.mem_append_right _ h)
      refine ⟨_, y5, y6, A ++ (k, (s5, rs[k].2)) :: B, S.set k s5, rfl, h5, h6, x5 _ _ (Ne.symm ne2) (Ne.symm ne3) w3, ⟨fun x hx => ?_, fun x hx => ?_⟩, fun j hj => ?_, fun x hx => ?_, ?_, nf, ?_, fun c o hc => ?_⟩
      · rcases hmem x hx with rfl | hx
        · exact set_at hSk
        · rw [set_off (by have := w6 x hx; omega)]
          exact w4.s x hx
      · rcases hmem x hx with rfl | hx
        · exact g2
        · exact w4.t x hx
      · rw [set_off (by omega)]
        exact w5 j (by omega)
      · rcases hmem x hx with rfl | hx
        · exact Nat.lt_succ_self _
        · have := w6 x hx
          omega
      · have e0 := w7
        rw [hAB, List.length_append] at e0
        rw [List.length_append, List.length_cons]
        omega
      · have e0 := tag_split 0 k rs _ gk
        rw [Nat.zero_add] at e0
        rw [e0] at w9
        refine w9.trans ?_
        have := st.under [] (tag (k + 1) (rs.drop (k + 1)))
        simpa using this
      · refine x5 c o (fun z => ?_) (fun z => ?_) (w10 _ _ hc)
        · subst z
          rw [fl] at hc
          cases hc
        · subst z
          rw [fs] at hc
          cases hc
    · obtain ⟨y, y5, y6, N, S, rfl, w1, w2, w3, w4, w5, w6, w7, w8, w9, w10⟩ := hW
      refine ⟨.ref l, rfl, .ref sa, rfl, .ref ta, rfl, l, sa, ta, N, S, rs.map (·.2), rfl, w1, w2, w3, w4, by omega, fun qq H5 e5 la => q qq H5 N (w10.trans e5) la ?_ w8⟩
      rw [show ((rs.length : Int)).toNat = rs.length from rfl, List.drop_length] at w9
      have e0 : tag rs.length [] = [] := rfl
      rw [e0, List.append_nil] at w9
      exact w9
theorem ok_first {f f1 f2 : Addr} {fd fd1 fd2 : FuncData} (F : FnP K "first" s_first f fd) (g : mg "first" = some (.ref f)) (b : Binds K fd ["row"] []) (h_fall_all : Has P w K mg base 1 "fall_all" ["line", "strengths", "tolls", "who"] spFallAll f1 fd1) (h_row_and_order : Has P w K mg base 1 "row_and_order" ["line", "strengths", "tolls"] (spRowOrder K) f2 fd2) (m_range : mg "range" = none) (m_len : mg "len" = none) (m_reversed : mg "reversed" = none) :
    Has P w K mg base 2 "first" ["row"] (spFirst K) f fd := by
  refine ⟨F.ok sc_first (fun vs H Q E h => ?_) (fun cdv A outer s H vs Q E hr h => ?_), g, F.kp, b⟩
  · obtain ⟨v, rs, rfl, _⟩ := h
    rfl
  · obtain ⟨v, rs, rfl, hv, hl, ht, q⟩ := h
    refine ⟨_, PSs.nox (pss_cons (ps_setLc (i := 1) (own := [("strength", 5), ("toll", 6)]) (g := gTup K 2 (gCons (gName 5) (gCons (gName 6) gNil))) (by rfl) sc_first.nd rfl rfl (sw_true rfl rfl rfl (by decide +kernel)) (pi_tup (pv 0)) (blkOk_by (own := [("strength", 5), ("toll", 6)]) (N := ["row", "strengths", "tolls", "line", "who", "strength", "toll"]) (sc := defScope s_first) (by decide +kernel)) (fun _ _ _ _ _ => (pg_tup rfl (pgs_cons (pg_name (i := 5) sc_first.nd rfl (Or.inl rfl)) (pgs_cons (pg_name (i := 6) sc_first.nd rfl (Or.inl rfl)) pgs_nil)))) (fun _ _ _ _ _ => pts_nil) (fun _ _ _ _ _ => (pv 5)))
      (pss_cons (ps_setLc (i := 2) (own := [("strength", 5), ("toll", 6)]) (g := gTup K 2 (gCons (gName 5) (gCons (gName 6) gNil))) (by rfl) sc_first.nd rfl rfl (sw_true rfl rfl rfl (by decide +kernel)) (pi_tup (pv 0)) (blkOk_by (own := [("strength", 5), ("toll", 6)]) (N := ["row", "strengths", "tolls", "line", "who", "strength", "toll"]) (sc := defScope s_first) (by decide +kernel)) (fun _ _ _ _ _ => (pg_tup rfl (pgs_cons (pg_name (i := 5) sc_first.nd rfl (Or.inl rfl)) (pgs_cons (pg_name (i := 6) sc_first.nd rfl (Or.inl rfl)) pgs_nil)))) (fun _ _ _ _ _ => pts_nil) (fun _ _ _ _ _ => (pv 6)))
      (pss_cons (ps_set (i := 3) sc_first.nd rfl (.inl rfl) (pe_lst pa_nil))
      (pss_cons (ps_for PassesOwn.never rfl (pi_revR (by rfl) m_reversed (prg_1 (by rfl) m_range (pe_callB call_len_seq (by rfl) m_len PySem.boot_len (pa_cons (pv 0) pa_nil)))) (pg_name (i := 4) sc_first.nd rfl (Or.inl rfl))
        (pss_one (ps_expr (pe_call h_fall_all.G (hr.mono (by decide)) (by rfl) h_fall_all.g h_fall_all.kp h_fall_all.b .nil pass0 (pa_cons (pv 3) (pa_cons (pv 1) (pa_cons (pv 2) (pa_cons (pv 4) pa_nil))))))))
      (pss_one (ps_ret (pe_call h_row_and_order.G (hr.mono (by decide)) (by rfl) h_row_and_order.g h_row_and_order.kp h_row_and_order.b .nil pass0 (pa_cons (pv 3) (pa_cons (pv 1) (pa_cons (pv 2) pa_nil)))))))))), ?_⟩
    refine q_asgL (el_unzip true hv hl (ev_var rfl) (fun x y => rfl) (fun x y => rfl)) fun sa H1 hsa e1 h1 => ?_
    refine q_asgL (el_unzip false (hv.ex e1) hl (ev_var rfl) (fun x y => rfl) (fun x y => rfl)) fun ta H2 hta e2 h2 => ?_
    refine q_asgL (el_lst ea_nil (by show 0 ≤ 100000; decide)) fun l H3 hl3 e3 h3 => ?_
    have h1' : H3 sa = some (.lst ((rs.map (·.1)).map V.int)) := by
      rw [List.map_map]
      exact e3 _ _ (e2 _ _ h1)
    have h2' : H3 ta = some (.lst ((rs.map (·.2)).map V.int)) := by
      rw [List.map_map]
      exact e3 _ _ h2
    have ne3 : sa ≠ ta := ne_of_none h1 hta
    have ne1 : l ≠ sa := (ne_of_none (e2 _ _ h1) hl3).symm
    have ne2 : l ≠ ta := (ne_of_none h2 hl3).symm
    have e123 := (e1.trans e2).trans e3
    have fl : H l = none := fresh_back (e1.trans e2) hl3
    have fs : H sa = none := hsa
    have hlen0 : (rs.map (·.1)).length = rs.length := List.length_map ..
    refine q_forRev (n := rs.length) (ev_lenR (ev_var rfl) (hv.ex e123)) (by omega) (fun i σ' H' => ∃ (y y5 y6 : Option V) (N : List Cow) (S : List Int), σ' = [some v, some (.ref sa), some (.ref ta), some (.ref l), y, y5, y6] ∧ H' l = some (.lst (idsV N)) ∧ H' sa = some (.lst (S.map V.int)) ∧ H' ta = some (.lst ((rs.map (·.2)).map V.int)) ∧ Kept S (rs.map (·.2)) N ∧ (∀ j, j < rs.length - i → S[j]? = (rs.map (·.1))[j]?) ∧ (∀ x ∈ N, rs.length - i ≤ x.1) ∧ N.length = i ∧ FfR N ∧ FSteps (tag 0 rs) (tag 0 (rs.take (rs.length - i)) ++ N) ∧ Ex H H') (fun H3' e3' => ?_) (fun i σ' H4 hi hW => ?_) (fun σ' H4 hW => ?_)
    · refine ⟨none, none, none, [], rs.map (·.1), rfl, e3' _ _ h3, e3' _ _ h1', e3' _ _ h2', ⟨(fun x z => by cases z), (fun x z => by cases z)⟩, fun j _ => rfl, (fun x z => by cases z), rfl, True.intro, ?_, e123.trans e3'⟩
      rw [Nat.sub_zero, List.take_length, List.append_nil]
      exact .refl _
    · obtain ⟨y, y5, y6, N, S, rfl, w1, w2, w3, w4, w5, w6, w7, w8, w9, w10⟩ := hW
      obtain ⟨k, hk⟩ : ∃ k, rs.length - i = k + 1 := ⟨rs.length - i - 1, by omega⟩
      have hk2 : rs.length - (i + 1) = k := by omega
      have hk' : k < rs.length := by omega
      rw [show rs.length - 1 - i = k by omega]
      have gk := List.getElem?_eq_getElem hk'
      obtain ⟨g1, g2⟩ := rows_get rs k _ gk
      have hSk : S[k]? = some rs[k].1 := by
        rw [w5 k (by omega)]
        exact g1
      have hnn : ∀ x ∈ N, x.1 ≠ k ∧ 0 ≤ x.2.2 := fun x hx => by
        refine ⟨by have := w6 x hx; omega, ?_⟩
        have := w4.t x hx
        rw [List.getElem?_map] at this
        obtain ⟨bb, hb1, hb2⟩ := Option.map_eq_some_iff.mp this
        rw [← hb2]
        exact ht bb (List.mem_of_getElem? hb1)
      refine ⟨.ref l, rfl, .ref sa, rfl, .ref ta, rfl, .int (k : Int), rfl, l, sa, ta, N, S, rs.map (·.2), k, rs[k].1, rs[k].2, rfl, w1, w2, w3, ne1, ne2, ne3, w4, hSk, g2, hnn, by omega, w8, fun A B s5 H5 hAB st nf h5 h6 x5 => ?_⟩
      have hmem : ∀ x ∈ A ++ (k, (s5, rs[k].2)) :: B, x = (k, (s5, rs[k].2)) ∨ x ∈ N := fun x hx => by
        rw [hAB]
        rcases List.mem_append.mp hx with h | h
        · exact .inr (List.mem_append_left _ h)
        · rcases List.mem_cons.mp h with h | h
          · exact .inl h
          · exact .inr (List.mem_append_right _ h)
      refine ⟨_, y5, y6, A ++ (k, (s5, rs[k].2)) :: B, S.set k s5, rfl, h5, h6, x5 _ _ (Ne.symm ne2) (Ne.symm ne3) w3, ⟨fun x hx => ?_, fun x hx => ?_⟩, fun j hj => ?_, fun x hx => ?_, ?_, nf, ?_, fun c o hc => ?_⟩
      · rcases hmem x hx with rfl | hx
        · exact set_at hSk
        · rw [set_off (by have := w6 x hx; omega)]
          exact w4.s x hx
      · rcases hmem x hx with rfl | hx
        · exact g2
        · exact w4.t x hx
      · rw [set_off (by omega)]
        exact w5 j (by omega)
      · rcases hmem x hx with rfl | hx
        · dsimp only
          omega
        · have := w6 x hx
          omega
      · have e0 := w7
        rw [hAB, List.length_append] at e0
        rw [List.length_append, List.length_cons]
        omega
      · rw [hk, tag_take gk] at w9
        rw [hk2]
        refine w9.trans ?_
        have := st.under (tag 0 (rs.take k)) []
        simpa using this
      · refine x5 c o (fun z => ?_) (fun z => ?_) (w10 _ _ hc)
        · subst z
          rw [fl] at hc
          cases hc
        · subst z
          rw [fs] at hc
          cases hc
    · obtain ⟨y, y5, y6, N, S, rfl, w1, w2, w3, w4, w5, w6, w7, w8, w9, w10⟩ := hW
      refine ⟨.ref l, rfl, .ref sa, rfl, .ref ta, rfl, l, sa, ta, N, S, rs.map (·.2), rfl, w1, w2, w3, w4, by omega, fun qq H5 e5 la => q qq H5 N (w10.trans e5) la ?_ w8⟩
      rw [Nat.sub_self] at w9
      exact w9
theorem ok_places_of {f : Addr} {fd : FuncData} (F : FnP K "places_of" s_places_of f fd) (g : mg "places_of" = some (.ref f)) (b : Binds K fd ["order"] []) (m_enumerate : mg "enumerate" = none) : Has P w K mg base 1 "places_of" ["order"] (spPlaces K) f fd := by
  refine ⟨F.ok sc_places_of (fun vs H Q E h => ?_) (fun cdv A outer s H vs Q E hr h => ?_), g, F.kp, b⟩
  · obtain ⟨o, l, rfl, _⟩ := h
    rfl
  · obtain ⟨o, l, rfl, ho, nd, hl, q⟩ := h
    have hu := room_u1 hr
    refine ⟨_, PSs.nox (pss_one (ps_ret (pe_dc (own := [("place", 1), ("who", 2)]) (g := gTup K 2 (gCons (gName 1) (gCons (gName 2) gNil))) (by rfl) sc_places_of.nd (pi_enumT (by rfl) m_enumerate (pa_cons (pv 0) pa_nil)) (blkOk_by (own := [("place", 1), ("who", 2)]) (N := ["order", "place", "who"]) (sc := defScope s_places_of) (by decide +kernel)) (fun _ _ _ _ _ => (pg_tup rfl (pgs_cons (pg_name (i := 1) sc_places_of.nd rfl (Or.inl rfl)) (pgs_cons (pg_name (i := 2) sc_places_of.nd rfl (Or.inl rfl)) pgs_nil)))) (fun _ _ _ _ _ => pts_nil) (fun _ _ _ _ _ => (pv 2)) (fun _ _ _ _ _ => (pv 1))))), ?_⟩
    have hlen : (natsV l).length = l.length := List.length_map ..
    have hget : ∀ k x : Nat, l[k]? = some x → (natsV l)[k]? = some (V.int (x : Int)) := fun k x h => by
      unfold natsV
      rw [List.getElem?_map, h]
      rfl
    refine ⟨.ref o, rfl, o, _, rfl, ho, fun Dd hDd => ?_⟩
    refine in_it (walk_enumT (xs := natsV l)) (fun k H2 => Ex H H2 ∧ ∃ kvs, H2 Dd = some (.dK kvs) ∧ PlacesD l k kvs) ⟨Ex.new hDd, [], upd_same, ⟨(fun i x hi => absurd hi (Nat.not_lt_zero _)), Nat.le_refl _⟩⟩ (fun k H2 _ p => ex_t p.1 ho) (fun k x H2 H3 hk p y => ?_) (fun H2 p => ?_)
    · obtain ⟨p1, kvs, p2, p3⟩ := p
      obtain ⟨T, x1, x2, rfl, hT, rfl, hx1, hx2⟩ := y
      have hk' : k < l.length := by rw [← hlen]; exact hk
      cases hx1
      have hx2 : (natsV l)[k]? = some x2 := hx2
      rw [hget k _ (List.getElem?_eq_getElem hk')] at hx2
      cases hx2
      have e3 : Ex H2 (upd H2 T (.tup [.int (k : Int), .int (l[k] : Int)])) := Ex.new hT
      refine ⟨T, _, rfl, st_of upd_same, rfl, _, _, rfl, _, _, rfl, rfl, rfl, ?_⟩
      refine ⟨.int (l[k] : Int), rfl, .int (k : Int), rfl, kvs, .inl (l[k] : Int), rfl, e3 _ _ p2, ?_, ?_, _, upd_same, p3.put nd (List.getElem?_eq_getElem hk')⟩
      · have := p3.few
        exact sz_lt (by omega)
      · exact Ex.mut (p1.trans e3) hDd
    · obtain ⟨p1, kvs, p2, p3⟩ := p
      rw [hlen] at p3
      exact q Dd kvs H2 hDd p1 p2 p3
theorem ok_turned_about {f f1 : Addr} {fd fd1 : FuncData} (F : FnP K "turned_about" s_turned_about f fd) (g : mg "turned_about" = some (.ref f)) (b : Binds K fd ["order"] []) (h_places_of : Has P w K mg base 1 "places_of" ["order"] (spPlaces K) f1 fd1) (m_len : mg "len" = none) (m_range : mg "range" = none) : Has P w K mg base 2 "turned_about" ["order"] (spTurnedT K) f fd := by
  refine ⟨F.ok sc_turned_about (fun vs H Q E h => ?_) (fun cdv A outer s H vs Q E hr h => ?_), g, F.kp, b⟩
  · obtain ⟨o, l, rfl, _⟩ := h
    rfl
  · obtain ⟨o, l, rfl, ho, nd, hall, hl, q⟩ := h
    have hu := room_u1 hr
    refine ⟨_, PSs.nox (pss_cons (ps_set (i := 1) sc_turned_about.nd rfl (.inr rfl) (pe_call h_places_of.G (hr.mono (by decide)) (by rfl) h_places_of.g h_places_of.kp h_places_of.b .nil pass0 (pa_cons (pv 0) pa_nil)))
      (pss_cons (ps_set (i := 2) sc_turned_about.nd rfl (.inr rfl) (pe_callB call_len_seq (by rfl) m_len PySem.boot_len (pa_cons (pv 0) pa_nil)))
      (pss_one (ps_ret (pe_lc2 (own := [("one", 3), ("other", 4)]) (vs1 := [4]) (g := gName 3) (g1 := gName 4) (by rfl) sc_turned_about.nd (pi_range1 (by rfl) m_range (pa_cons (pv 2) pa_nil)) (blkOk_by (own := [("one", 3), ("other", 4)]) (N := ["order", "place_of", "many", "one", "other"]) (sc := defScope s_turned_about) (by decide +kernel)) (by decide) (fun _ _ _ _ _ => (pg_name (i := 3) sc_turned_about.nd rfl (Or.inl rfl))) (fun _ _ _ _ _ => pts_nil) (fun _ _ _ _ _ => (pi_range2 (by rfl) m_range (pa_cons (pe_op op_add (pv 3) pe_int) (pa_cons (pv 2) pa_nil)))) (fun _ _ _ _ _ => (pg_name (i := 4) sc_turned_about.nd rfl (Or.inl rfl))) (fun _ _ _ _ _ => (pts_one (pt_cmpR op_lt (pe_dget hu (pv 1) (pv 4) (fun _ _ => rfl)) (pe_dget hu (pv 1) (pv 3) (fun _ _ => rfl)) (nomark _)))) (fun _ _ _ _ _ => (pe_tup (pa_cons (pv 3) (pa_cons (pv 4) pa_nil))))))))), ?_⟩
    have hlen : (natsV l).length = l.length := List.length_map ..
    refine ⟨.ref o, rfl, o, l, rfl, ho, nd, hl, fun Dd kvs H2 hDd p1 p2 p3 => ?_⟩
    refine q_asg (ev_lenT (K := K) (ev_var rfl) (ex_t p1 ho)) fun H3 e3 => ?_
    rw [hlen]
    have p2' := e3 _ _ p2
    have x13 := p1.trans e3
    have hpl : ∀ j : Nat, j < l.length → ∃ p : Nat, l[p]? = some j ∧ valV kvs (.inl (j : Int)) = some (.int (p : Int)) := fun j hj => by
      obtain ⟨p, hp⟩ := List.getElem?_of_mem (hall j hj)
      exact ⟨p, hp, p3.at' p j (List.getElem?_eq_some_iff.mp hp).1 hp⟩
    refine ⟨.int (l.length : Int), rfl, (l.length : Int), rfl, by omega, by omega, fun Dl hDl => ?_⟩
    refine in_it walk_range (fun i H4 => Ex H3 H4 ∧ ∃ us, H4 Dl = some (.lst us) ∧ BeastsT H4 us (tab l l.length i)) ⟨Ex.new hDl, [], upd_same, All2.nil⟩ (fun _ _ _ _ => True.intro) (fun i x H4 H5 hi p y => ?_) (fun H4 p => ?_)
    · obtain ⟨rfl, hx⟩ := y
      have hx : x = V.int ((0 : Int) + (i : Int)) := hx
      rw [Int.zero_add] at hx
      subst hx
      obtain ⟨r1, us, r2, r3⟩ := p
      have hi' : i < l.length := by omega
      obtain ⟨pi, hpi, hvi⟩ := hpl i hi'
      refine ⟨rfl, ?_⟩
      refine t_yes ?_
      refine i_rng2 (i := (i : Int) + 1) (j := (l.length : Int)) (ea_cons (ev_op (ev_var rfl) ev_c rv_I0) (ea_cons (ev_var rfl) ea_nil)) ⟨by omega, by omega, by omega, by omega⟩ fun H6 e6 => ?_
      have hn : (((l.length : Nat) : Int) - ((i : Int) + 1)).toNat = l.length - (i + 1) := by omega
      rw [hn]
      refine in_it walk_range (fun j H7 => Ex H3 H7 ∧ ∃ us, H7 Dl = some (.lst us) ∧ BeastsT H7 us (tab l l.length i ++ tabR l l.length i j)) ⟨r1.trans e6, us, e6 _ _ r2, by
          show BeastsT H6 us (tab l l.length i ++ [])
          rw [List.append_nil]
          exact BeastsT.ex' r3 e6⟩ (fun _ _ _ _ => True.intro) (fun j x H7 H8 hj p y => ?_) (fun H7 p => ?_)
      · obtain ⟨rfl, hx⟩ := y
        have ej : (i : Int) + 1 + (j : Int) = ((i + 1 + j : Nat) : Int) := by omega
        have hx : x = V.int ((i : Int) + 1 + (j : Int)) := hx
        rw [ej] at hx
        subst hx
        obtain ⟨s1, us, s2, s3⟩ := p
        obtain ⟨pj, hpj, hvj⟩ := hpl (i + 1 + j) (by omega)
        have d8 := s1 _ _ p2'
        refine ⟨rfl, ?_⟩
        refine t_ev (b := decide ((pj : Int) < (pi : Int))) (et_test (ev_op (ev_dget (k := .inl ((i + 1 + j : Nat) : Int)) (ev_var rfl) (ev_var rfl) d8 hvj) (ev_dget (k := .inl (i : Int)) (ev_var rfl) (ev_var rfl) d8 hvi) rv_I0)) fun H9 e9 => ?_
        have hb : decide ((pj : Int) < (pi : Int)) = inP l i j := by
          unfold inP
          rw [bef_iff nd hpj hpi]
          by_cases h : pj < pi
          · rw [decide_eq_true h, decide_eq_true (by omega)]
          · rw [decide_eq_false h, decide_eq_false (by omega)]
        rw [hb]
        have e10 := tabR_succ l l.length i j
        cases hin : inP l i j with
        | true =>
          rw [hin, if_pos rfl] at e10
          refine ⟨_, rfl, _, rfl, by show 2 ≤ sizeLine; decide, fun TT hT => ?_⟩
          have g1 : (upd H9 TT (.tup [.int (i : Int), .int ((i + 1 + j : Nat) : Int)])) Dl = some (.lst us) := Ex.new hT _ _ (e9 _ _ s2)
          refine ⟨us, g1, ?_, Ex.mut ((s1.trans e9).trans (Ex.new hT)) hDl, us ++ [.ref TT], upd_same, ?_⟩
          · rw [All2.len s3, List.length_append]
            have h1 := tab_len l l.length i
            have h2 := tabR_len l l.length i j
            have h3 : i * l.length ≤ 30 * 30 := Nat.mul_le_mul (by omega) hl
            exact sz_lt (by omega)
          · rw [e10, ← List.append_assoc]
            exact BeastsT.exB' (All2.app (BeastsT.ex' (BeastsT.ex' s3 e9) (Ex.new hT)) (.cons ⟨TT, rfl, upd_same⟩ .nil)) (ExB.refl _ _).upd g1
        | false =>
          rw [hin, if_neg (by decide), List.append_nil] at e10
          refine ⟨s1.trans e9, us, e9 _ _ s2, ?_⟩
          rw [e10]
          exact BeastsT.ex' s3 e9
      · obtain ⟨s1, us, s2, s3⟩ := p
        rw [← tab_succ] at s3
        exact ⟨s1, us, s2, s3⟩
    · obtain ⟨r1, us, r2, r3⟩ := p
      exact q Dl us H4 (fresh_back x13 hDl) (x13.trans r1) r2 r3
theorem ok_passings {f f1 f2 : Addr} {fd fd1 fd2 : FuncData} (F : FnP K "passings" s_passings f fd) (g : mg "passings" = some (.ref f)) (b : Binds K fd ["row"] []) (h_turned_about : Has P w K mg base 2 "turned_about" ["order"] (spTurnedT K) f1 fd1) (h_last : Has P w K mg base 2 "last" ["row"] (spLast K) f2 fd2) :
    Has P w K mg base 3 "passings" ["row"] (spPairsT K toLast) f fd := by
  refine ⟨F.ok sc_passings (fun vs H Q E h => ?_) (fun cdv A outer s H vs Q E hr h => ?_), g, F.kp, b⟩
  · obtain ⟨v, rs, rfl, _⟩ := h
    rfl
  · obtain ⟨v, rs, rfl, hv, hl, ht, q⟩ := h
    refine ⟨_, PSs.nox (pss_one (ps_ret (pe_call h_turned_about.G (hr.mono (by decide)) (by rfl) h_turned_about.g h_turned_about.kp h_turned_about.b .nil pass0 (pa_cons (pe_ix ix_tup (pe_call h_last.G (hr.mono (by decide)) (by rfl) h_last.g h_last.kp h_last.b .nil pass0 (pa_cons (pv 0) pa_nil)) pe_int (fun _ _ => rfl)) pa_nil)))), ?_⟩
    refine ⟨v, rfl, v, rs, rfl, hv, by omega, ht, fun q1 H1 L e1 la st nf => ?_⟩
    obtain ⟨v1, ot, a1, a2, a3⟩ := la.ex
    have ids := st.ids
    rw [tag_ids] at ids
    have len : (L.map (·.1)).length = rs.length := by rw [ids.length_eq, List.length_range]
    refine ⟨q1, _, 1, .ref ot, rfl, rfl, st_of a1, rfl, ?_⟩
    refine ⟨ot, L.map (·.1), rfl, by rw [← ordL_nats]; exact st_of a3, ids.nodup_iff.mpr List.nodup_range, fun x hx => ids.mem_iff.mpr (List.mem_range.mpr (by omega)), by omega, fun q2 us H2 hq2 e2 h2 h3 => ?_⟩
    rw [len] at h3
    exact q q2 us L H2 ⟨st, nf⟩ (fresh_back e1 hq2) (e1.trans e2) h2 h3
theorem ok_fallings {f f1 f2 : Addr} {fd fd1 fd2 : FuncData} (F : FnP K "fallings" s_fallings f fd) (g : mg "fallings" = some (.ref f)) (b : Binds K fd ["row"] []) (h_turned_about : Has P w K mg base 2 "turned_about" ["order"] (spTurnedT K) f1 fd1) (h_first : Has P w K mg base 2 "first" ["row"] (spFirst K) f2 fd2) :
    Has P w K mg base 3 "fallings" ["row"] (spPairsT K toFirst) f fd := by
  refine ⟨F.ok sc_fallings (fun vs H Q E h => ?_) (fun cdv A outer s H vs Q E hr h => ?_), g, F.kp, b⟩
  · obtain ⟨v, rs, rfl, _⟩ := h
    rfl
  · obtain ⟨v, rs, rfl, hv, hl, ht, q⟩ := h
    refine ⟨_, PSs.nox (pss_one (ps_ret (pe_call h_turned_about.G (hr.mono (by decide)) (by rfl) h_turned_about.g h_turned_about.kp h_turned_about.b .nil pass0 (pa_cons (pe_ix ix_tup (pe_call h_first.G (hr.mono (by decide)) (by rfl) h_first.g h_first.kp h_first.b .nil pass0 (pa_cons (pv 0) pa_nil)) pe_int (fun _ _ => rfl)) pa_nil)))), ?_⟩
    refine ⟨v, rfl, v, rs, rfl, hv, by omega, ht, fun q1 H1 L e1 la st nf => ?_⟩
    obtain ⟨v1, ot, a1, a2, a3⟩ := la.ex
    have ids := st.ids
    rw [tag_ids] at ids
    have len : (L.map (·.1)).length = rs.length := by rw [ids.length_eq, List.length_range]
    refine ⟨q1, _, 1, .ref ot, rfl, rfl, st_of a1, rfl, ?_⟩
    refine ⟨ot, L.map (·.1), rfl, by rw [← ordL_nats]; exact st_of a3, ids.nodup_iff.mpr List.nodup_range, fun x hx => ids.mem_iff.mpr (List.mem_range.mpr (by omega)), by omega, fun q2 us H2 hq2 e2 h2 h3 => ?_⟩
    rw [len] at h3
    exact q q2 us L H2 ⟨st, nf⟩ (fresh_back e1 hq2) (e1.trans e2) h2 h3
theorem ok_kept_pairs {f f1 f2 : Addr} {fd fd1 fd2 : FuncData} (F : FnP K "kept_pairs" s_kept_pairs f fd) (g : mg "kept_pairs" = some (.ref f)) (b : Binds K fd ["row"] []) (h_passings : Has P w K mg base 3 "passings" ["row"] (spPairsT K toLast) f1 fd1) (h_fallings : Has P w K mg base 3 "fallings" ["row"] (spPairsT K toFirst) f2 fd2) (m_len : mg "len" = none) (m_range : mg "range" = none) :
    Has P w K mg base 4 "kept_pairs" ["row"] (spKept K) f fd := by
  refine ⟨F.ok sc_kept_pairs (fun vs H Q E h => ?_) (fun cdv A outer s H vs Q E hr h => ?_), g, F.kp, b⟩
  · obtain ⟨v, rs, rfl, _⟩ := h
    rfl
  · obtain ⟨v, rs, rfl, hv, hl, ht, q⟩ := h
    have hu := room_u1 hr
    have hu1 := Nat.lt_of_succ_lt hu
    refine ⟨_, PSs.nox (pss_cons (ps_set (i := 1) sc_kept_pairs.nd rfl (.inr rfl) (pe_dcT hu1 (own := [("pair", 3)]) (g := gName 3) (by rfl) sc_kept_pairs.nd (pi_list (pe_op op_cat (pe_call h_passings.G (hr.mono (by decide)) (by rfl) h_passings.g h_passings.kp h_passings.b .nil pass0 (pa_cons (pv 0) pa_nil)) (pe_call h_fallings.G (hr.mono (by decide)) (by rfl) h_fallings.g h_fallings.kp h_fallings.b .nil pass0 (pa_cons (pv 0) pa_nil)))) (blkOk_by (own := [("pair", 3)]) (N := ["row", "loose", "many", "pair", "one", "other"]) (sc := defScope s_kept_pairs) (by decide +kernel)) (fun _ _ _ _ _ => (pg_name (i := 3) sc_kept_pairs.nd rfl (Or.inl rfl))) (fun _ _ _ _ _ => pts_nil) (fun _ _ _ _ _ => (pv 3)) (fun _ _ _ _ _ => pe_bl)))
      (pss_cons (ps_set (i := 2) sc_kept_pairs.nd rfl (.inr rfl) (pe_callB call_len_seq (by rfl) m_len PySem.boot_len (pa_cons (pv 0) pa_nil)))
      (pss_one (ps_ret (pe_lc2 (own := [("one", 4), ("other", 5)]) (vs1 := [5]) (g := gName 4) (g1 := gName 5) (by rfl) sc_kept_pairs.nd (pi_range1 (by rfl) m_range (pa_cons (pv 2) pa_nil)) (blkOk_by (own := [("one", 4), ("other", 5)]) (N := ["row", "loose", "many", "pair", "one", "other"]) (sc := defScope s_kept_pairs) (by decide +kernel)) (by decide) (fun _ _ _ _ _ => (pg_name (i := 4) sc_kept_pairs.nd rfl (Or.inl rfl))) (fun _ _ _ _ _ => pts_nil) (fun _ _ _ _ _ => (pi_range2 (by rfl) m_range (pa_cons (pe_op op_add (pv 4) pe_int) (pa_cons (pv 2) pa_nil)))) (fun _ _ _ _ _ => (pg_name (i := 5) sc_kept_pairs.nd rfl (Or.inl rfl))) (fun _ _ _ _ _ => (pts_one (pt_cmp (pc_dnotin hu (pe_tup (pa_cons (pv 4) (pa_cons (pv 5) pa_nil))) (pv 1))))) (fun _ _ _ _ _ => (pe_tup (pa_cons (pv 4) (pa_cons (pv 5) pa_nil))))))))), ?_⟩
    obtain ⟨E', sE, nE⟩ := nf_is (good_tag ht).tl
    obtain ⟨B', sB, nB⟩ := ff_is (good_tag ht).tl
    have t1 := tab_small (E'.map (·.1)) hl
    have t2 := tab_small (B'.map (·.1)) hl
    refine q_run ?_
    refine ed_pairs (K := K) (σ := [some v, none, none, none, none, none]) (H := H) (j := 3) (vs := [3]) (ps := tab (E'.map (·.1)) rs.length rs.length ++ tab (B'.map (·.1)) rs.length rs.length) (fun R r => ?_) (by rw [List.length_append]; omega) (fun x => rfl) (fun x => rfl) fun d kvs H1 hd e1 g1 pd => ?_
    · refine (ept_pass (K := K) (ev_var rfl) hv hl ht sE nE) H (Ex.refl H) _ fun a1 u1 H1 ha1 e1 g1 b1 => (ept_fall (K := K) (ev_var rfl) (hv.ex e1) hl ht sB nB) H1 (Ex.refl H1) _ fun a2 u2 H2 ha2 e2 g2 b2 => ?_
      refine ⟨a1, a2, u1, u2, rfl, rfl, e2 _ _ g1, g2, sz_of (by rw [All2.len b1, All2.len b2]; omega), fun c hc => ?_⟩
      have nc := Ex.new (o := .lst (u1 ++ u2)) hc
      refine r c (u1 ++ u2) _ ((e1.trans e2).trans nc) (sq_of upd_same) (fun H3 e3 => sq_of (e3 _ _ upd_same)) ?_
      exact All2.app (BeastsT.ex' b1 (e2.trans nc)) (BeastsT.ex' b2 nc)
    have hp : ∀ x : Int × Int, x ∈ tab (E'.map (·.1)) rs.length rs.length ++ tab (B'.map (·.1)) rs.length rs.length ↔ ∃ i j : Nat, i < j ∧ j < rs.length ∧ x = ((i : Int), (j : Int)) ∧ ¬ keepP (E'.map (·.1)) (B'.map (·.1)) i (j - i - 1) = true := fun x => by
      rw [List.mem_append, mem_tab, mem_tab]
      constructor
      · rintro (⟨i, j, h1, h2, h3, h4⟩ | ⟨i, j, h1, h2, h3, h4⟩)
        · refine ⟨i, j, h1, h2, h3, fun z => ?_⟩
          rw [((keep_iff h1).mp z).1] at h4
          cases h4
        · refine ⟨i, j, h1, h2, h3, fun z => ?_⟩
          rw [((keep_iff h1).mp z).2] at h4
          cases h4
      · rintro ⟨i, j, h1, h2, h3, h4⟩
        rw [keep_iff h1] at h4
        cases c1 : bef (E'.map (·.1)) j i with
        | true => exact .inl ⟨i, j, h1, h2, h3, c1⟩
        | false =>
          cases c2 : bef (B'.map (·.1)) j i with
          | true => exact .inr ⟨i, j, h1, h2, h3, c2⟩
          | false => exact absurd ⟨c1, c2⟩ h4
    refine q_asg (ev_lenR (K := K) (ev_var rfl) (hv.ex e1)) fun H3 e3 => ?_
    have d3 := e3 _ _ g1
    refine ⟨.int (rs.length : Int), rfl, (rs.length : Int), rfl, by omega, by omega, fun Dl hDl => ?_⟩
    refine in_it walk_range (fun i H4 => Ex H3 H4 ∧ ∃ us, H4 Dl = some (.lst us) ∧ BeastsT H4 us (tabP (keepP (E'.map (·.1)) (B'.map (·.1))) rs.length i)) ⟨Ex.new hDl, [], upd_same, All2.nil⟩ (fun _ _ _ _ => True.intro) (fun i x H4 H5 hi p y => ?_) (fun H4 p => ?_)
    · obtain ⟨rfl, hx⟩ := y
      have hx : x = V.int ((0 : Int) + (i : Int)) := hx
      rw [Int.zero_add] at hx
      subst hx
      obtain ⟨r1, us, r2, r3⟩ := p
      have hi' : i < rs.length := by omega
      refine ⟨rfl, t_yes ?_⟩
      refine i_rng2 (i := (i : Int) + 1) (j := (rs.length : Int)) (ea_cons (ev_op (ev_var rfl) ev_c rv_I0) (ea_cons (ev_var rfl) ea_nil)) ⟨by omega, by omega, by omega, by omega⟩ fun H6 e6 => ?_
      have hn : (((rs.length : Nat) : Int) - ((i : Int) + 1)).toNat = rs.length - (i + 1) := by omega
      rw [hn]
      refine in_it walk_range (fun j H7 => Ex H3 H7 ∧ ∃ us, H7 Dl = some (.lst us) ∧ BeastsT H7 us (tabP (keepP (E'.map (·.1)) (B'.map (·.1))) rs.length i ++ tabPR (keepP (E'.map (·.1)) (B'.map (·.1))) i j)) ⟨r1.trans e6, us, e6 _ _ r2, by
          show BeastsT H6 us (tabP (keepP (E'.map (·.1)) (B'.map (·.1))) rs.length i ++ [])
          rw [List.append_nil]
          exact BeastsT.ex' r3 e6⟩ (fun _ _ _ _ => True.intro) (fun j x H7 H8 hj p y => ?_) (fun H7 p => ?_)
      · obtain ⟨rfl, hx⟩ := y
        have ej : (i : Int) + 1 + (j : Int) = ((i + 1 + j : Nat) : Int) := by omega
        have hx : x = V.int ((i : Int) + 1 + (j : Int)) := hx
        rw [ej] at hx
        subst hx
        obtain ⟨s1, us, s2, s3⟩ := p
        refine ⟨rfl, ?_⟩
        refine t_ev (b := !decide ((((i : Int), ((i + 1 + j : Nat) : Int)) : Int × Int) ∈ tab (E'.map (·.1)) rs.length rs.length ++ tab (B'.map (·.1)) rs.length rs.length)) (et_dnotin (b := ((i : Int), ((i + 1 + j : Nat) : Int))) (key_new (ev_var rfl) (ev_var rfl)) (ev_var rfl) (s1 _ _ d3) pd) fun H9 e9 => ?_
        have hb : (!decide ((((i : Int), ((i + 1 + j : Nat) : Int)) : Int × Int) ∈ tab (E'.map (·.1)) rs.length rs.length ++ tab (B'.map (·.1)) rs.length rs.length)) = keepP (E'.map (·.1)) (B'.map (·.1)) i j := by
          have := hp ((i : Int), ((i + 1 + j : Nat) : Int))
          cases hk : keepP (E'.map (·.1)) (B'.map (·.1)) i j with
          | true =>
            rw [decide_eq_false]
            · rfl
            · intro z
              obtain ⟨i', j', h1, h2, h3, h4⟩ := this.mp z
              obtain ⟨e1, e2⟩ := pair_inj h3
              subst e1 e2
              rw [show i + 1 + j - i - 1 = j by omega] at h4
              exact h4 hk
          | false =>
            rw [decide_eq_true]
            · rfl
            · refine this.mpr ⟨i, i + 1 + j, by omega, by omega, rfl, ?_⟩
              rw [show i + 1 + j - i - 1 = j by omega, hk]
              decide
        rw [hb]
        have e10 := tabPR_succ (keepP (E'.map (·.1)) (B'.map (·.1))) i j
        cases hin : keepP (E'.map (·.1)) (B'.map (·.1)) i j with
        | true =>
          rw [hin, if_pos rfl] at e10
          refine ⟨_, rfl, _, rfl, by show 2 ≤ sizeLine; decide, fun TT hT => ?_⟩
          have g9 : (upd H9 TT (.tup [.int (i : Int), .int ((i + 1 + j : Nat) : Int)])) Dl = some (.lst us) := Ex.new hT _ _ (e9 _ _ s2)
          refine ⟨us, g9, ?_, Ex.mut ((s1.trans e9).trans (Ex.new hT)) hDl, us ++ [.ref TT], upd_same, ?_⟩
          · rw [All2.len s3, List.length_append]
            have h1 := tabP_len (keepP (E'.map (·.1)) (B'.map (·.1))) rs.length i
            have h2 := tabPR_len (keepP (E'.map (·.1)) (B'.map (·.1))) i j
            have h3 : i * rs.length ≤ 30 * 30 := Nat.mul_le_mul (by omega) hl
            exact sz_lt (by omega)
          · rw [e10, ← List.append_assoc]
            exact BeastsT.exB' (All2.app (BeastsT.ex' (BeastsT.ex' s3 e9) (Ex.new hT)) (.cons ⟨TT, rfl, upd_same⟩ .nil)) (ExB.refl _ _).upd g9
        | false =>
          rw [hin, if_neg (by decide), List.append_nil] at e10
          refine ⟨s1.trans e9, us, e9 _ _ s2, ?_⟩
          rw [e10]
          exact BeastsT.ex' s3 e9
      · obtain ⟨s1, us, s2, s3⟩ := p
        rw [← tabP_succ] at s3
        exact ⟨s1, us, s2, s3⟩
    · obtain ⟨r1, us, r2, r3⟩ := p
      exact q Dl us E' B' H4 sE nE sB nB (fresh_back (e1.trans e3) hDl) ((e1.trans e3).trans r1) r2 r3
theorem ok_first_not_kept {f f1 f2 : Addr} {fd fd1 fd2 : FuncData} (F : FnP K "first_not_kept" s_first_not_kept f fd) (g : mg "first_not_kept" = some (.ref f)) (b : Binds K fd ["row", "order"] []) (h_places_of : Has P w K mg base 1 "places_of" ["order"] (spPlaces K) f1 fd1) (h_kept_pairs : Has P w K mg base 4 "kept_pairs" ["row"] (spKept K) f2 fd2) : Has P w K mg base 5 "first_not_kept" ["row", "order"] (spFirstNK K) f fd := by
  refine ⟨F.ok sc_first_not_kept (fun vs H Q E h => ?_) (fun cdv A outer s H vs Q E hr h => ?_), g, F.kp, b⟩
  · obtain ⟨v, o, rs, l, E', B', rfl, _⟩ := h
    rfl
  · obtain ⟨v, o, rs, l, E', B', rfl, O, sE, nE, sB, nB, q0, q1⟩ := h
    have hu := room_u1 hr
    refine ⟨_, PSs.nox (pss_cons (ps_set (i := 2) sc_first_not_kept.nd rfl (.inl rfl) (pe_call h_places_of.G (hr.mono (by decide)) (by rfl) h_places_of.g h_places_of.kp h_places_of.b .nil pass0 (pa_cons (pv 1) pa_nil)))
      (pss_cons (ps_for PassesOwn.never rfl (pi_list (pe_call h_kept_pairs.G (hr.mono (by decide)) (by rfl) h_kept_pairs.g h_kept_pairs.kp h_kept_pairs.b .nil pass0 (pa_cons (pv 0) pa_nil))) (pg_tup rfl (pgs_cons (pg_name (i := 3) sc_first_not_kept.nd rfl (Or.inl rfl)) (pgs_cons (pg_name (i := 4) sc_first_not_kept.nd rfl (Or.inl rfl)) pgs_nil)))
        (pss_one (ps_if (pt_cmpR op_lt (pe_dget hu (pv 2) (pv 4) (fun _ _ => rfl)) (pe_dget hu (pv 2) (pv 3) (fun _ _ => rfl)) (nomark _)) (pss_one (ps_ret (pe_tup (pa_cons (pv 3) (pa_cons (pv 4) pa_nil))))) pss_nil)))
      (pss_one (ps_ret pe_non)))), ?_⟩
    have lenL := O.lenL
    refine ⟨.ref o, rfl, o, l, rfl, O.ord, O.nd, by rw [lenL]; exact O.len, fun Dd kvs H2 hDd p1 p2 p3 => ?_⟩
    refine ⟨v, rfl, v, rs, rfl, O.row.ex p1, O.len, O.tl, fun q2 us E2 B2 H3 sE2 nE2 sB2 nB2 hq2 e3 g3 bs => ?_⟩
    have t0 : ∀ x ∈ tag 0 rs, 0 ≤ x.2.2 := (good_tag O.tl).tl
    rw [nf_any t0 sE2 nE2 sE nE, ff_any t0 sB2 nB2 sB nB] at bs
    have hpl : ∀ j : Nat, j < rs.length → ∃ p : Nat, l[p]? = some j ∧ valV kvs (.inl (j : Int)) = some (.int (p : Int)) := fun j hj => by
      obtain ⟨p, hp⟩ := List.getElem?_of_mem (O.all j (by rw [lenL]; exact hj))
      exact ⟨p, hp, p3.at' p j (List.getElem?_eq_some_iff.mp hp).1 hp⟩
    refine ⟨q2, rfl, ⟨_, sq_of g3⟩, ?_⟩
    refine for_list (K := K) (xs := us) (fun k σ' H' => ∃ (y3 y4 : Option V), σ' = [some v, some (.ref o), some (.ref Dd), y3, y4] ∧ Ex H3 H' ∧ ((tabP (keepP (E'.map (·.1)) (B'.map (·.1))) rs.length rs.length).take k).find? (fun pr => bef l pr.2.toNat pr.1.toNat) = none) ⟨_, _, rfl, Ex.refl _, rfl⟩ (fun k σ' H' _ hW => ?_) (fun k x σ' H4 hx hW => ?_) (fun σ' H4 hW => ?_)
    · obtain ⟨y3, y4, rfl, c, _⟩ := hW
      exact sq_of (c _ _ g3)
    · obtain ⟨y3, y4, rfl, e4, fn⟩ := hW
      obtain ⟨pr, hpr, T, rfl, hT⟩ := BeastsT.at' bs hx
      obtain ⟨i, j, h1, h2, rfl, hk⟩ := mem_tabP.mp (List.mem_of_getElem? hpr)
      obtain ⟨pi, hpi, hvi⟩ := hpl i (by omega)
      obtain ⟨pj, hpj, hvj⟩ := hpl j h2
      refine ⟨T, _, rfl, st_of (e4 _ _ hT), rfl, _, _, rfl, _, _, rfl, rfl, ?_⟩
      have d4 := (e3.trans e4) _ _ p2
      have bfe : decide ((pj : Int) < (pi : Int)) = bef l j i := by
        rw [bef_iff O.nd hpj hpi]
        exact decide_eq_decide.mpr (by omega)
      refine s_when (b := decide ((pj : Int) < (pi : Int))) (et_test (ev_op (ev_dget (k := .inl (j : Int)) (ev_var rfl) (ev_var rfl) d4 hvj) (ev_dget (k := .inl (i : Int)) (ev_var rfl) (ev_var rfl) d4 hvi) rv_I0)) (fun z H5 e5 => ?_) fun z H5 e5 => ?_
      · rw [bfe] at z
        refine ⟨.int (i : Int), rfl, .int (j : Int), rfl, by show 2 ≤ sizeLine; decide, fun T2 hT2 => ?_⟩
        exact q1 ((i : Int), (j : Int)) (find_at hpr (by rw [Int.toNat_natCast, Int.toNat_natCast]; exact z) fn) T2 _ ((p1.trans e3).trans ((e4.trans e5).trans (Ex.new hT2))) upd_same
      · rw [bfe] at z
        exact ⟨_, _, rfl, e4.trans e5, find_none_step hpr (by rw [Int.toNat_natCast, Int.toNat_natCast]; exact z) fn⟩
    · obtain ⟨y3, y4, rfl, e4, fn⟩ := hW
      rw [All2.len bs, List.take_length] at fn
      exact q0 fn H4 ((p1.trans e3).trans e4)
theorem ok_refuse_not_kept {f f1 : Addr} {fd fd1 : FuncData} (F : FnP K "refuse_not_kept" s_refuse_not_kept f fd) (g : mg "refuse_not_kept" = some (.ref f)) (b : Binds K fd ["row", "order"] []) (h_first_not_kept : Has P w K mg base 5 "first_not_kept" ["row", "order"] (spFirstNK K) f1 fd1) : Has P w K mg base 6 "refuse_not_kept" ["row", "order"] (spNone K) f fd := by
  have h_first_not_kept := h_first_not_kept.weak none_nk
  refine ⟨F.ok sc_refuse_not_kept (fun vs H Q E h => ?_) (fun cdv A outer s H vs Q E hr h => ?_), g, F.kp, b⟩
  · obtain ⟨v, o, rs, L, rfl, _⟩ := h
    rfl
  · obtain ⟨v, o, rs, L, rfl, W, q⟩ := h
    refine ⟨_, PSs.nox (pss_cons (ps_set (i := 2) sc_refuse_not_kept.nd rfl (.inl rfl) (pe_call h_first_not_kept.G (hr.mono (by decide)) (by rfl) h_first_not_kept.g h_first_not_kept.kp h_first_not_kept.b .nil pass0 (pa_cons (pv 0) (pa_cons (pv 1) pa_nil))))
      (pss_one (ps_if (pt_cmpR op_notN (pv 2) pe_non (nomark _)) (pss_one ps_never) pss_nil))), ?_⟩
    refine ⟨v, rfl, .ref o, rfl, v, o, rs, L, rfl, W, fun H2 e2 => ?_⟩
    refine ⟨.non, rfl, rfl, false, by rw [decide_eq_true rfl]; rfl, ?_⟩
    exact q H2 e2
theorem ok_kept_ahead {f f1 : Addr} {fd fd1 : FuncData} (F : FnP K "kept_ahead" s_kept_ahead f fd) (g : mg "kept_ahead" = some (.ref f)) (b : Binds K fd ["row"] []) (h_kept_pairs : Has P w K mg base 4 "kept_pairs" ["row"] (spKept K) f1 fd1) (m_len : mg "len" = none) : Has P w K mg base 5 "kept_ahead" ["row"] (spAheadB K) f fd := by
  refine ⟨F.ok sc_kept_ahead (fun vs H Q E h => ?_) (fun cdv A outer s H vs Q E hr h => ?_), g, F.kp, b⟩
  · obtain ⟨v, rs, rfl, _⟩ := h
    rfl
  · obtain ⟨v, rs, rfl, hv, hl, tl, q⟩ := h
    refine ⟨_, PSs.nox (pss_cons (ps_set (i := 1) sc_kept_ahead.nd rfl (.inl rfl) (pe_op op_rep (pe_lst (pa_cons pe_int pa_nil)) (pe_callB call_len_seq (by rfl) m_len PySem.boot_len (pa_cons (pv 0) pa_nil))))
      (pss_cons (ps_for PassesOwn.never rfl (pi_list (pe_call h_kept_pairs.G (hr.mono (by decide)) (by rfl) h_kept_pairs.g h_kept_pairs.kp h_kept_pairs.b .nil pass0 (pa_cons (pv 0) pa_nil))) (pg_tup rfl (pgs_cons (pg_name (i := 2) sc_kept_ahead.nd rfl (Or.inl rfl)) (pgs_cons (pg_name (i := 3) sc_kept_ahead.nd rfl (Or.inl rfl)) pgs_nil)))
        (pss_one (ps_augS (pv 1) (pv 3) get_listN (pe_op op_shl pe_int (pv 2)) ip_or set_list)))
      (pss_one (ps_ret (pv 1))))), ?_⟩
    refine q_asgL (el_zeros (n := rs.length) (ev_lenR (K := K) (ev_var rfl) hv) (by omega)) fun fa H1 hfa e1 g1 => ?_
    refine s_at [some v, some (.ref fa), none, none] rfl ?_
    have z0 : vec rs.length (fun _ => 0) = natsV (List.replicate rs.length 0) := by
      refine List.ext_getElem? fun i => ?_
      unfold vec natsV
      rw [List.map_replicate]
      by_cases h : i < rs.length
      · rw [List.getElem?_map, List.getElem?_range h, List.getElem?_replicate, if_pos h]
        rfl
      · rw [List.getElem?_eq_none (by rw [List.length_map, List.length_range]; omega), List.getElem?_eq_none (by rw [List.length_replicate]; omega)]
    rw [z0] at g1
    refine q_forL0 (K := K) ?_
    refine ⟨v, rfl, v, rs, rfl, hv.ex e1, hl, tl, fun kq us E B H2 sE nE sB nB hkq e2 gk bk => ?_⟩
    have g2 := e2 _ _ g1
    have nkf : kq ≠ fa := fun z => by rw [z, g1] at hkq; cases hkq
    have bk : BeastsT H2 us (keptT E B rs.length) := bk
    have ul : us.length = (keptT E B rs.length).length := All2.len bk
    refine q_forL (K := K) (a := kq) (xs := us) ev_c (sq_of gk) (fun k σ' H' => ∃ y2 y3 : Option V, σ' = [some v, some (.ref fa), y2, y3] ∧ ExB fa H2 H' ∧ H' fa = some (.lst (natsV (aheadF ((keptT E B rs.length).take k) rs.length)))) (fun H3 e3 => ⟨_, _, rfl, .of e3, e3 _ _ g2⟩) (fun k σ' H' _ hW => ?_) (fun k x σ' H3 hx hW => ?_) (fun σ' H3 hW => ?_)
    · obtain ⟨y2, y3, rfl, x3, _⟩ := hW
      exact sq_of (x3 _ _ nkf gk)
    · obtain ⟨y2, y3, rfl, x3, g3⟩ := hW
      obtain ⟨pr, hpr, T, rfl, hT⟩ := BeastsT.at' bk hx
      obtain ⟨i, j, h1, h2, rfl, _⟩ := mem_tabP.mp (List.mem_of_getElem? hpr)
      have nTf : T ≠ fa := fun z => by rw [z, g2] at hT; cases hT
      have al : (aheadF ((keptT E B rs.length).take k) rs.length).length = rs.length := ahead_len _ _
      rw [ahead_take hpr]
      generalize aheadF ((keptT E B rs.length).take k) rs.length = ah at g3 al ⊢
      refine ⟨T, _, rfl, st_of (x3 _ _ nTf hT), rfl, _, _, rfl, _, _, rfl, rfl, ?_⟩
      try dsimp only
      have gj := nats_get (ah := ah) (w := j) (by omega)
      refine ⟨.ref fa, rfl, .int (j : Int), rfl, fa, _, j, _, rfl, rfl, g3, gj, ?_⟩
      refine (ev_op ev_c (ev_var rfl) (rv_I ⟨by omega, by omega, by decide⟩)) H3 (Ex.refl H3) _ fun H4 e4 => ⟨_, _, rfl, rfl, fa, _, (j : Int), j, rfl, rfl, e4 _ _ g3, ixN_nat (by rw [natsV_len]; omega), ?_⟩
      refine ⟨_, _, rfl, (x3.trans (.of e4)).upd, ?_⟩
      rw [upd_same]
      have e : Builtin.bitOr ((ah.getD j 0 : Nat) : Int) (1 * 2 ^ ((i : Int)).toNat) = ((putB (ah.getD j 0) i : Nat) : Int) := by
        rw [Int.toNat_natCast, bit_shl, bit_or]
        rfl
      show some (HO.lst ((natsV ah).set j (V.int (Builtin.bitOr ((ah.getD j 0 : Nat) : Int) (1 * 2 ^ ((i : Int)).toNat))))) = _
      rw [e]
      unfold stepA natsV
      rw [Int.toNat_natCast, Int.toNat_natCast, List.map_set]
    · obtain ⟨y2, y3, rfl, x3, g3⟩ := hW
      rw [ul, List.take_length] at g3
      exact s_ret (D := { nx := fun _ H' => Q .non H', rt := Q }) (ev_var rfl) fun H4 e4 => q fa E B H4 sE nE sB nB hfa (Ex.trans (fun c o hc => x3 c o (ne_of_none hc hfa) ((e1.trans e2) c o hc)) e4) (e4 _ _ g3)
theorem ok_next_ones {f : Addr} {fd : FuncData} (F : FnP K "next_ones" s_next_ones f fd) (g : mg "next_ones" = some (.ref f)) (b : Binds K fd ["ahead", "stood"] []) (m_range : mg "range" = none) (m_len : mg "len" = none) : Has P w K mg base 1 "next_ones" ["ahead", "stood"] (spNextB K) f fd := by
  refine ⟨F.ok sc_next_ones (fun vs H Q E h => ?_) (fun cdv A outer s H vs Q E hr h => ?_), g, F.kp, b⟩
  · obtain ⟨a, ah, s, rfl, _⟩ := h
    rfl
  · obtain ⟨a, ah, s, rfl, ga, hl, q⟩ := h
    refine ⟨_, PSs.nox (pss_one (ps_ret (pe_lc (own := [("who", 2)]) (g := gName 2) (by rfl) sc_next_ones.nd (pi_range1 (by rfl) m_range (pa_cons (pe_callB call_len_seq (by rfl) m_len PySem.boot_len (pa_cons (pv 0) pa_nil)) pa_nil)) (blkOk_by (own := [("who", 2)]) (N := ["ahead", "stood", "who"]) (sc := defScope s_next_ones) (by decide +kernel)) (fun _ _ _ _ _ => (pg_name (i := 2) sc_next_ones.nd rfl (Or.inl rfl))) (fun _ _ _ _ _ => (pts_one (PW.pt (pw_and (pt_cmpR op_eq (pe_op op_and (pe_op op_shr (pv 1) (pv 2)) pe_int) pe_int (nomark _)) (pw_and1 (pt_cmpR op_eq (pe_op op_and (pe_ix (ix_listK (K := K)) (pv 0) (pv 2) (fun _ _ => rfl)) (pv 1)) (pe_ix (ix_listK (K := K)) (pv 0) (pv 2) (fun _ _ => rfl)) (nomark _))))))) (fun _ _ _ _ _ => (pv 2))))), ?_⟩
    refine s_retL (D := { nx := fun _ H' => Q .non H', rt := Q }) (xs := natsV (nextB ah s)) ?_ fun p H1 hp e1 g1 => q p H1 hp e1 g1
    have e : natsV (nextB ah s) = given ((((natsV ah).length : Nat) : Int)).toNat (fun w => !s.testBit w && decide (ah.getD w 0 &&& s = ah.getD w 0)) (fun w => .int (w : Int)) := by
      rw [Int.toNat_natCast, natsV_len]
      rfl
    rw [e]
    exact el_lcR1 _ _ (ea_cons (ev_len (K := K) (ev_var rfl) (sq_of ga)) ea_nil) (by rw [natsV_len]; omega) (by intro _; rfl) (fun w H1 e1 hw => et_and (et_free (ev_var rfl) (ev_var rfl)) fun _ => et_all (K := K) (ev_var rfl) (e1 _ _ ga) (ev_var rfl) (ev_var rfl) (by rw [natsV_len] at hw; omega)) (fun w H1 e1 hw _ => ev_var rfl)
theorem ok_picked {f : Addr} {fd : FuncData} (F : FnP K "picked" s_picked f fd) (g : mg "picked" = some (.ref f)) (b : Binds K fd ["shares", "number"] []) : Has P w K mg base 1 "picked" ["shares", "number"] (spPicked K) f fd := by
  refine ⟨F.ok sc_picked (fun vs H Q E h => ?_) (fun cdv A outer s H vs Q E hr h => ?_), g, F.kp, b⟩
  · obtain ⟨a, us, ps, num, i, r, w, c, rfl, _⟩ := h
    rfl
  · obtain ⟨a, us, ps, num, i, r, w', c, rfl, ga, bs, hz, hi, nn, hn, r0, rc, q⟩ := h
    refine ⟨_, PSs.nox (pss_cons (ps_set (i := 2) sc_picked.nd rfl (.inl rfl) pe_int)
      (pss_cons (ps_while PassesOwn.never (pt_cmpR op_ge (pv 1) (pe_ix ix_tup (pe_ix ix_list (pv 0) (pv 2) (fun _ _ => rfl)) pe_int (fun _ _ => rfl)) (nomark _)) (pss_cons (ps_aug (i := 1) sc_picked.nd rfl (.inl rfl) (pe_ix ix_tup (pe_ix ix_list (pv 0) (pv 2) (fun _ _ => rfl)) pe_int (fun _ _ => rfl)) ip_sub)
      (pss_one (ps_aug (i := 2) sc_picked.nd rfl (.inl rfl) pe_int ip_add))))
      (pss_one (ps_ret (pe_tup (pa_cons (pe_ix ix_tup (pe_ix ix_list (pv 0) (pv 2) (fun _ _ => rfl)) pe_int (fun _ _ => rfl)) (pa_cons (pv 1) pa_nil))))))), ?_⟩
    have hil := (List.getElem?_eq_some_iff.mp hi).1
    have ul := All2.len bs
    refine q_asg (v := .int ((0 : Nat) : Int)) ev_c fun H1 e1 => ?_
    refine s_at [some (.ref a), some (.int num), some (.int ((0 : Nat) : Int))] rfl ?_
    refine q_while (fun m σ' H' => ∃ (t : Nat) (nu : Int), σ' = [some (.ref a), some (.int nu), some (.int (t : Int))] ∧ t ≤ i ∧ m = i - t ∧ nu = sumCut ps i - sumCut ps t + r ∧ Ex H H') i ⟨0, num, rfl, Nat.zero_le _, rfl, by rw [hn]; show _ = sumCut ps i - 0 + r; omega, e1⟩ fun m σ' H' hW => ?_
    obtain ⟨t, nu, rfl, hti, rfl, hnu, x⟩ := hW
    have htl : t < ps.length := by omega
    have hp : ps[t]? = some ps[t] := List.getElem?_eq_getElem htl
    have hu : us[t]? = some us[t] := List.getElem?_eq_getElem (by omega)
    obtain ⟨b', hb', T, hT, gT⟩ := BeastsT.at' bs hu
    rw [hp] at hb'
    cases hb'
    have hu' : atI us (t : Int) = some (.ref T) := by
      rw [atI_nat hu, hT]
    have cs := cut_succ hp
    have nn' := nn _ (List.mem_of_getElem? hp)
    have e2 : ∀ (k : Nat) (vv : V) (σ : _root_.L2.St) (H2 : Hp), [V.int ps[t].1, V.int ps[t].2][k]? = some vv → σ[0]? = some (some (.ref a)) → σ[2]? = some (some (.int (t : Int))) → Ex H H2 → Ev (tOp (rIxT K) (tOp (rIxL K) (tVar 0) (tVar 2)) (tC (.int (k : Int)))) σ H2 vv := fun k vv σ H2 hk s0 s2 e => ev_op (ev_op (ev_var s0) (ev_var s2) (rv_ixL (K := K) (sq_of (e _ _ ga)) hu')) ev_c (rv_ixT (K := K) (st_of (e _ _ gT)) (atI_nat hk))
    refine ⟨decide (nu ≥ ps[t].2), et_test (ev_op (ev_var rfl) (e2 1 _ _ _ rfl rfl rfl x) rv_I0), fun hd H2 e3 => ?_, fun hd H2 e3 => ?_⟩
    · have hd := of_decide_eq_true hd
      have lt : t < i := by
        rcases Nat.lt_or_ge t i with z | z
        · exact z
        · have et : t = i := by omega
          subst et
          rw [hp] at hi
          have := Option.some.inj hi
          rw [this] at hd
          dsimp only at hd
          omega
      refine ⟨_, fun σ2 H2 h => h, ?_⟩
      refine q_aug (f := fun i j => i - j) rfl (e2 1 _ _ _ rfl rfl rfl (x.trans e3)) fun H4 e4 => ?_
      refine s_at [some (.ref a), some (.int (nu - ps[t].2)), some (.int (t : Int))] rfl ?_
      refine s_aug (f := fun i j => i + j) rfl (ev_c (v := .int 1)) fun H5 e5 => ?_
      refine ⟨i - (t + 1), by omega, t + 1, nu - ps[t].2, rfl, by omega, rfl, by omega, (x.trans e3).trans (e4.trans e5)⟩
    · have hd := of_decide_eq_false hd
      have et : t = i := by
        rcases Nat.lt_or_ge t i with z | z
        · have := cut_mono nn (show t + 1 ≤ i by omega) (by omega)
          omega
        · omega
      subst et
      rw [hp] at hi
      have hi := Option.some.inj hi
      have : nu = r := by omega
      subst this
      have x2 := x.trans e3
      refine (eu_tup (ea_cons (e2 0 _ _ _ rfl rfl rfl x2) (ea_cons (ev_var rfl) ea_nil)) (by show 2 ≤ 100000; decide) : EvU (tTup (tCons (tOp (rIxT K) (tOp (rIxL K) (tVar 0) (tVar 2)) (tC (.int 0))) (tCons (tVar 1) tNil))) [some (.ref a), some (.int nu), some (.int (t : Int))] H2 _) H2 (Ex.refl _) _ fun qq H5 hq e5 g5 => ?_
      rw [hi] at g5
      exact q qq H5 (fresh_back x2 hq) (x2.trans e5) g5
theorem ok_orders_many {f f1 f2 : Addr} {fd fd1 fd2 : FuncData} (F : FnP K "orders_many" s_orders_many f fd) (g : mg "orders_many" = some (.ref f)) (b : Binds K fd ["row"] []) (h_kept_ahead : Has P w K mg base 5 "kept_ahead" ["row"] (spAheadB K) f1 fd1) (h_orders_behind : Has P w K mg base 14 "orders_behind" ["ahead", "stood", "known"] (spBehind K 13) f2 fd2) : Has P w K mg base 15 "orders_many" ["row"] (spMany K) f fd := by
  refine ⟨F.ok sc_orders_many (fun vs H Q E h => ?_) (fun cdv A outer s H vs Q E hr h => ?_), g, F.kp, b⟩
  · obtain ⟨v, rs, E', B', rfl, _⟩ := h
    rfl
  · obtain ⟨v, rs, E', B', rfl, hv, hl, tl, en, q⟩ := h
    refine ⟨_, PSs.nox (pss_one (ps_ret (pe_call h_orders_behind.G (hr.mono (by decide)) (by rfl) h_orders_behind.g h_orders_behind.kp h_orders_behind.b .nil pass0 (pa_cons (pe_call h_kept_ahead.G (hr.mono (by decide)) (by rfl) h_kept_ahead.g h_kept_ahead.kp h_kept_ahead.b .nil pass0 (pa_cons (pv 0) pa_nil)) (pa_cons pe_int (pa_cons pe_dnewK pa_nil)))))), ?_⟩
    refine ⟨v, rfl, v, rs, rfl, hv, by omega, tl, fun a E2 B2 H3 sE2 nE2 sB2 nB2 ha e3 ga => fun d hd => ?_⟩
    obtain ⟨rfl, rfl⟩ := kept_any tl en ⟨sE2, nE2, sB2, nB2⟩
    have n3 := Ex.new (o := .dK []) hd
    have hdH : H d = none := fresh_back e3 hd
    have gd : (upd H3 d (.dK [])) d = some (.dK []) := upd_same
    have al : (aheadF (keptT E' B' rs.length) rs.length).length = rs.length := ahead_len _ _
    refine ⟨a, d, _, 0, [], rfl, n3 _ _ ga, by omega, Nat.two_pow_pos _, by have := left_le (aheadF (keptT E' B' rs.length) rs.length).length 0; omega, gd, KnowsB.nil _, fun kvs H4 x4 g4 k4 => ?_⟩
    exact q H4 fun c o hc => x4 c o (ne_of_none hc hdH) ((e3.trans n3) c o hc)
theorem ok_order_at {f f1 f2 f3 f4 f5 C1 : Addr} {fd fd1 fd2 fd3 fd4 fd5 : FuncData} (F : FnP K "order_at" s_order_at f fd) (g : mg "order_at" = some (.ref f)) (b : Binds K fd ["row", "number"] []) (x_NoOrder : HasE P w K mg base .look "NoOrder" "number" C1 f5 fd5) (h_kept_ahead : Has P w K mg base 5 "kept_ahead" ["row"] (spAheadB K) f1 fd1) (h_next_ones : Has P w K mg base 1 "next_ones" ["ahead", "stood"] (spNextB K) f2 fd2) (h_orders_behind : Has P w K mg base 14 "orders_behind" ["ahead", "stood", "known"] (spBehind K 13) f3 fd3) (h_picked : Has P w K mg base 1 "picked" ["shares", "number"] (spPicked K) f4 fd4) (m_len : mg "len" = none) (m_tuple : mg "tuple" = none) : HasX P w K mg base 15 "order_at" ["row", "number"] (spOrderX K C1) f fd := by
  refine ⟨F.ok sc_order_at (fun vs H Q E h => ?_) (fun cdv A outer s H vs Q E hr h => ?_), g, F.kp, b⟩
  · obtain ⟨v, rs, E', B', num, rfl, _⟩ := h
    rfl
  · obtain ⟨v, rs, E', B', num, rfl, hv, hl, tl, en, q, qx⟩ := h
    refine ⟨_, (pss_cons (ps_set (i := 2) sc_order_at.nd rfl (.inr rfl) (pe_call h_kept_ahead.G (hr.mono (by decide)) (by rfl) h_kept_ahead.g h_kept_ahead.kp h_kept_ahead.b .nil pass0 (pa_cons (pv 0) pa_nil)))
      (pss_cons (ps_set (i := 3) sc_order_at.nd rfl (.inr rfl) pe_dnewK)
      (pss_cons (ps_if (PW.pt (pw_or (pt_cmpR op_lt (pv 1) pe_int (nomark _)) (pw_or1 (pt_cmpR op_ge (pv 1) (pe_call h_orders_behind.G (hr.mono (by decide)) (by rfl) h_orders_behind.g h_orders_behind.kp h_orders_behind.b .nil pass0 (pa_cons (pv 2) (pa_cons pe_int (pa_cons (pv 3) pa_nil)))) (nomark _))))) (pss_one (ps_raise rfl (takes_of rfl rfl rfl rfl) (pmk_x x_NoOrder.T x_NoOrder.F (hr.mono (by decide)) x_NoOrder.b x_NoOrder.g (by rfl) (pa_cons (pv 1) pa_nil)))) pss_nil)
      (pss_cons (ps_set (i := 4) sc_order_at.nd rfl (.inl rfl) (pe_lst pa_nil))
      (pss_cons (ps_set (i := 5) sc_order_at.nd rfl (.inr rfl) pe_int)
      (pss_cons (ps_set (i := 6) sc_order_at.nd rfl (.inl rfl) (pv 1))
      (pss_cons (ps_while (passes_of rfl) (pt_cmpR op_lt (pe_callB call_len_seq (by rfl) m_len PySem.boot_len (pa_cons (pv 4) pa_nil)) (pe_callB call_len_seq (by rfl) m_len PySem.boot_len (pa_cons (pv 0) pa_nil)) (nomark _)) (pss_cons (ps_set (i := 7) sc_order_at.nd rfl (.inl rfl) (pe_call h_next_ones.G (hr.mono (by decide)) (by rfl) h_next_ones.g h_next_ones.kp h_next_ones.b .nil pass0 (pa_cons (pv 2) (pa_cons (pv 5) pa_nil))))
      (pss_cons (ps_asg (pe_call h_picked.G (hr.mono (by decide)) (by rfl) h_picked.g h_picked.kp h_picked.b .nil pass0 (pa_cons (pe_lc (own := [("one", 9)]) (g := gName 9) (by rfl) sc_order_at.nd (pi_list (pv 7)) (blkOk_by (own := [("one", 9)]) (N := ["row", "number", "ahead", "known", "order", "stood", "left", "ones", "who", "one"]) (sc := defScope s_order_at) (by decide +kernel)) (fun _ _ _ _ _ => (pg_name (i := 9) sc_order_at.nd rfl (Or.inl rfl))) (fun _ _ _ _ _ => pts_nil) (fun _ _ _ _ _ => (pe_tup (pa_cons (pv 9) (pa_cons (pe_call h_orders_behind.G (hr.mono (by decide)) (by rfl) h_orders_behind.g h_orders_behind.kp h_orders_behind.b .nil pass0 (pa_cons (pv 2) (pa_cons (pe_op op_or (pv 5) (pe_op op_shl pe_int (pv 9))) (pa_cons (pv 3) pa_nil)))) pa_nil))))) (pa_cons (pv 6) pa_nil))) (pg_tup rfl (pgs_cons (pg_name (i := 8) sc_order_at.nd rfl (Or.inl rfl)) (pgs_cons (pg_name (i := 6) sc_order_at.nd rfl (Or.inl rfl)) pgs_nil))))
      (pss_cons (ps_expr (pe_bm PySem.F.plainAttrs_list PySem.F.slot_list_append PySem.F.type_list_append mt_append (pv 4) (pa_cons (pv 8) pa_nil)))
      (pss_one (ps_aug (i := 5) sc_order_at.nd rfl (.inr rfl) (pe_op op_shl pe_int (pv 8)) ip_or))))))
      (pss_one (ps_ret (pe_tupleOf (by rfl) m_tuple (pv 4))))))))))), ?_⟩
    refine ⟨v, rfl, v, rs, rfl, hv, by omega, tl, fun a E2 B2 H3 sE2 nE2 sB2 nB2 ha e3 ga => ?_⟩
    obtain ⟨rfl, rfl⟩ := kept_any tl en ⟨sE2, nE2, sB2, nB2⟩
    have low := ahead_low (keptT_lt E' B' rs.length)
    have al : (aheadF (keptT E' B' rs.length) rs.length).length = rs.length := ahead_len _ _
    have mem := fun (l : List Nat) => ext_mem (l := l) (keptT_lt E' B' rs.length)
    unfold ahOf at q qx
    generalize (aheadF (keptT E' B' rs.length) rs.length) = ah at ga al low mem q qx
    refine g_at [some v, some (.int num), some (.ref a), none, none, none, none, none, none, none] rfl ?_
    refine fun d hd => ?_
    have n3 := Ex.new (o := .dK []) hd
    have gd : (upd H3 d (.dK [])) d = some (.dK []) := upd_same
    have nad : a ≠ d := ne_of_none ga hd
    have hdH : H d = none := fresh_back e3 hd
    have ga := n3 _ _ ga
    have e4 := e3.trans n3
    generalize upd H3 d (.dK []) = H4 at n3 gd ga e4 ⊢
    refine g_at [some v, some (.int num), some (.ref a), some (.ref d), none, none, none, none, none, none] rfl ?_
    refine ⟨.int num, rfl, _, _, rfl, rfl, _, rfl, ?_⟩
    refine ite2 (fun hc => ?_) (fun hc => ?_)
    · refine ite2 (fun _ => ?_) (fun z => absurd rfl z)
      exact ⟨.int num, rfl, .int num, rfl, fun dx hdx => qx (.inl (of_decide_eq_true hc)) dx H4 e4 hdx⟩
    have hc0 : 0 ≤ num := by
      have := of_decide_eq_false (Bool.eq_false_iff.mpr hc)
      omega
    refine ⟨.int num, rfl, .ref a, rfl, .ref d, rfl, a, d, ah, 0, [], rfl, ga, by omega, Nat.two_pow_pos _, by have := left_le ah.length 0; omega, gd, KnowsB.nil _, fun kvs H5 x5 g5 k5 => ⟨_, _, rfl, rfl, _, rfl, ?_⟩⟩
    have e5 : Ex H H5 := fun c o hc => x5 c o (ne_of_none hc hdH) (e4 c o hc)
    have ga5 := x5 _ _ nad ga
    refine ite2 (fun hc => ?_) (fun hc => ?_)
    · exact ⟨.int num, rfl, .int num, rfl, fun dx hdx => qx (.inr (of_decide_eq_true hc)) dx H5 e5 hdx⟩
    have hc1 : num < (cntF ah 0 : Int) := by
      have := of_decide_eq_false (Bool.eq_false_iff.mpr hc)
      omega
    obtain ⟨k, rfl⟩ := Int.eq_ofNat_of_zero_le hc0
    have hk : k < (extF ah 0).length := by rw [ext_len (Nat.two_pow_pos _)]; omega
    obtain ⟨l, hkl⟩ : ∃ l, (extF ah 0)[k]? = some l := ⟨_, List.getElem?_eq_getElem hk⟩
    have q := q k l rfl hkl
    have pl := ((mem l).mp (List.mem_of_getElem? hkl)).1
    have ll : l.length = rs.length := by rw [pl.length_eq, List.length_range]
    have ltl : ∀ x ∈ l, x < ah.length := fun x hx => by rw [al]; exact List.mem_range.mp (pl.mem_iff.mp hx)
    try dsimp only
    refine ⟨by show 0 ≤ sizeLine; decide, fun oa hoa => ?_⟩
    have n6 := Ex.new (o := .lst []) hoa
    have go : (upd H5 oa (.lst [])) oa = some (.lst (natsV [])) := upd_same
    have nao : a ≠ oa := ne_of_none ga5 hoa
    have ndo : d ≠ oa := ne_of_none g5 hoa
    have hoH : H oa = none := fresh_back e5 hoa
    have ga6 := n6 _ _ ga5
    have gd6 := n6 _ _ g5
    have e6 := e5.trans n6
    generalize upd H5 oa (.lst []) = H6 at n6 go ga6 gd6 e6 ⊢
    refine g_at [some v, some (.int (k : Int)), some (.ref a), some (.ref d), some (.ref oa), none, none, none, none, none] rfl ?_
    refine q_asg (v := .int ((maskL [] : Nat) : Int)) ev_c fun H7 e7 => ?_
    refine s_at [some v, some (.int (k : Int)), some (.ref a), some (.ref d), some (.ref oa), some (.int ((maskL [] : Nat) : Int)), none, none, none, none] rfl ?_
    refine q_asg (ev_var rfl) fun H8 e8 => ?_
    refine s_at [some v, some (.int (k : Int)), some (.ref a), some (.ref d), some (.ref oa), some (.int ((maskL [] : Nat) : Int)), some (.int (k : Int)), none, none, none] rfl ?_
    have e78 := e7.trans e8
    refine q_while (fun m σ' H' => ∃ (Pl rest : List Nat) (left : Nat) (kvs : List (Key × V)) (y7 y8 y9 : Option V), σ' = [some v, some (.int (k : Int)), some (.ref a), some (.ref d), some (.ref oa), some (.int ((maskL Pl : Nat) : Int)), some (.int (left : Int)), y7, y8, y9] ∧ m = rest.length ∧ (extF ah (maskL Pl))[left]? = some rest ∧ l = Pl ++ rest ∧ Ex H H' ∧ H' a = some (.lst (natsV ah)) ∧ H' d = some (.dK kvs) ∧ KnowsB ah kvs ∧ H' oa = some (.lst (natsV Pl))) l.length ⟨[], l, k, kvs, none, none, none, rfl, rfl, hkl, rfl, e6.trans e78, e78 _ _ ga6, e78 _ _ gd6, k5, e78 _ _ go⟩ fun m σ' H' hW => ?_
    obtain ⟨Pl, rest, left, kvs, y7, y8, y9, rfl, rfl, hrest, hlr, x, ga, gd, kn, go⟩ := hW
    have hv' := hv.ex x
    have hs : maskL Pl < 2 ^ ah.length := mask_lt fun z hz => ltl z (by rw [hlr]; exact List.mem_append_left _ hz)
    have hsz := ext_size _ hs rfl (List.mem_of_getElem? hrest)
    have hpl : Pl.length + rest.length = rs.length := by rw [← ll, hlr, List.length_append]
    refine ⟨decide (((natsV Pl).length : Int) < (rs.length : Int)), et_test (ev_op (ev_len (K := K) (ev_var rfl) (sq_of go)) (ev_lenR (K := K) (ev_var rfl) hv') rv_I0), fun hd H1 e1 => ?_, fun hd H1 e1 => ?_⟩
    · have hd := of_decide_eq_true hd
      rw [natsV_len] at hd
      refine ⟨_, fun σ2 H2 h => h, ?_⟩
      cases rest with
      | nil =>
        exfalso
        have : Pl.length + 0 = rs.length := hpl
        omega
      | cons w0 t0 =>
        obtain ⟨i, w', r, t, h1, h2, h3, h4⟩ := ext_split hsz.symm hrest
        cases h3
        obtain ⟨m1, m2, _⟩ := mem_nextB.mp (List.mem_of_getElem? h1)
        have hwn : ∀ y ∈ nextB ah (maskL Pl), y < ah.length ∧ (maskL Pl).testBit y = false := fun y hy => ⟨(mem_nextB.mp hy).1, (mem_nextB.mp hy).2.1⟩
        have nl : (nextB ah (maskL Pl)).length ≤ 12 := by
          have := List.length_filter_le (fun w => !(maskL Pl).testBit w && decide (ah.getD w 0 &&& maskL Pl = ah.getD w 0)) (List.range ah.length)
          rw [List.length_range] at this
          unfold nextB
          omega
        have ga1 := e1 _ _ ga
        refine ⟨.ref a, rfl, .int (maskL Pl : Int), rfl, a, ah, maskL Pl, rfl, ga1, by omega, fun nq H2 hnq e2 gn => ?_⟩
        refine g_at [some v, some (.int (k : Int)), some (.ref a), some (.ref d), some (.ref oa), some (.int ((maskL Pl : Nat) : Int)), some (.int (left : Int)), some (.ref nq), y8, y9] rfl ?_
        have gd2 := (e1.trans e2) _ _ gd
        have go2 := (e1.trans e2) _ _ go
        have x2 := (x.trans e1).trans e2
        try dsimp only
        refine q_callC ?_
        refine el_shares (K := K) (tl := tVar 7) (σ := [some v, some (.int (k : Int)), some (.ref a), some (.ref d), some (.ref oa), some (.int ((maskL Pl : Nat) : Int)), some (.int (left : Int)), some (.ref nq), y8, y9]) (vs := [9]) (ws := nextB ah (maskL Pl)) (st := maskL Pl) (ev_var rfl) gn (e2 _ _ ga1) gd2 kn (by omega) hs hwn (by omega) (fun _ => rfl) (fun _ => rfl) (fun _ => rfl) (fun _ => rfl) (fun _ => rfl) fun D us kvs2 H3 hD x3 gD bs g3 k3 => ?_
        have e3 : Ex H H3 := fun c o hc => x3 c o (ne_of_none hc hdH) (x2 c o hc)
        have ga3 := x3 _ _ nad (e2 _ _ ga1)
        have go3 := x3 _ _ (Ne.symm ndo) go2
        have cs : sumCut ((nextB ah (maskL Pl)).map fun (w : Nat) => ((w : Int), (cntF ah (putB (maskL Pl) w) : Int))) i = (((((nextB ah (maskL Pl)).take i).map fun y => (extF ah (putB (maskL Pl) y)).length).sum : Nat) : Int) := by
          unfold sumCut
          rw [← List.map_take, List.map_map]
          have hA : ∀ y ∈ (nextB ah (maskL Pl)).take i, (cntF ah (putB (maskL Pl) y) : Int) = (((extF ah (putB (maskL Pl) y)).length : Nat) : Int) := fun y hy => by
            obtain ⟨n1, _⟩ := hwn y (List.mem_of_mem_take hy)
            rw [ext_len (put_lt hs n1)]
          generalize (nextB ah (maskL Pl)).take i = zs at hA
          induction zs with
          | nil => rfl
          | cons z zs ih =>
            rw [List.map_cons, List.sum_cons, List.map_cons, List.sum_cons, ih fun y hy => hA y (List.mem_cons_of_mem _ hy), Int.natCast_add, ← hA z (List.mem_cons_self ..)]
            rfl
        have hr := (List.getElem?_eq_some_iff.mp h2).1
        rw [ext_len (put_lt hs m1)] at hr
        refine ⟨.int (left : Int), rfl, D, us, _, (left : Int), i, (r : Int), (w0 : Int), (cntF ah (putB (maskL Pl) w0) : Int), rfl, gD, bs, by rw [List.length_map]; omega, by rw [List.getElem?_map, h1]; rfl, ?_, by rw [cs, h4]; omega, by omega, by omega, fun qq H4 hq4 e4 g4 => ?_⟩
        · intro pr hpr
          obtain ⟨y, _, rfl⟩ := List.mem_map.mp hpr
          show (0 : Int) ≤ ((cntF ah (putB (maskL Pl) y) : Nat) : Int)
          omega
        refine ⟨qq, _, rfl, st_of g4, rfl, _, _, rfl, _, _, rfl, rfl, ?_⟩
        try dsimp only
        refine s_at [some v, some (.int (k : Int)), some (.ref a), some (.ref d), some (.ref oa), some (.int ((maskL Pl : Nat) : Int)), some (.int (r : Int)), some (.ref nq), some (.int (w0 : Int)), y9] rfl ?_
        refine q_app (e4 _ _ go3) (ev_var rfl) (ev_var rfl) (by rw [natsV_len]; omega) fun H5 e5 => ?_
        have e45 := e4.trans e5
        have ap : natsV Pl ++ [V.int (w0 : Int)] = natsV (Pl ++ [w0]) := by
          unfold natsV
          rw [List.map_append]
          rfl
        rw [ap]
        have ga5 : (upd H5 oa (.lst (natsV (Pl ++ [w0])))) a = some (.lst (natsV ah)) := by rw [upd_ne nao]; exact e45 _ _ ga3
        have gd5 : (upd H5 oa (.lst (natsV (Pl ++ [w0])))) d = some (.dK kvs2) := by rw [upd_ne ndo]; exact e45 _ _ g3
        have x5 : Ex H (upd H5 oa (.lst (natsV (Pl ++ [w0])))) := Ex.mut (e3.trans e45) hoH
        have go5 : (upd H5 oa (.lst (natsV (Pl ++ [w0])))) oa = some (.lst (natsV (Pl ++ [w0]))) := upd_same
        generalize upd H5 oa (.lst (natsV (Pl ++ [w0]))) = H6 at ga5 gd5 x5 go5 ⊢
        refine ⟨_, rfl, ?_⟩
        refine (ev_op ev_c (ev_var rfl) (rv_I ⟨by omega, by omega, by decide⟩)) H6 (Ex.refl H6) _ fun H7 e7 => ⟨_, _, rfl, rfl, ?_⟩
        have e : Builtin.bitOr ((maskL Pl : Nat) : Int) (1 * 2 ^ ((w0 : Int)).toNat) = ((maskL (Pl ++ [w0]) : Nat) : Int) := by
          rw [Int.toNat_natCast, bit_shl, bit_or, mask_snoc]
          rfl
        dsimp only
        rw [e]
        exact ⟨t0.length, Nat.lt_succ_self _, Pl ++ [w0], t0, r, kvs2, _, _, _, rfl, rfl, by rw [mask_snoc]; exact h2, by rw [hlr, List.append_assoc]; rfl, x5.trans e7, e7 _ _ ga5, e7 _ _ gd5, k3, e7 _ _ go5⟩
    · have hd := of_decide_eq_false hd
      rw [natsV_len] at hd
      have hr0 : rest = [] := List.eq_nil_of_length_eq_zero (by omega)
      rw [hr0, List.append_nil] at hlr
      have go1 := e1 _ _ go
      refine (eu_tupV (K := K) (ev_var rfl) (sq_of go1) : EvU (tThen (tVar 4) (kTup K)) [some v, some (.int (k : Int)), some (.ref a), some (.ref d), some (.ref oa), some (.int ((maskL Pl : Nat) : Int)), some (.int (left : Int)), y7, y8, y9] H1 _) H1 (Ex.refl _) _ fun qq H5 hq e5 g5 => ?_
      rw [← hlr] at g5
      have x1 := x.trans e1
      exact q qq H5 (fresh_back x1 hq) (x1.trans e5) g5
theorem ok_number_of {f f1 f2 f3 f4 : Addr} {fd fd1 fd2 fd3 fd4 : FuncData} (F : FnP K "number_of" s_number_of f fd) (g : mg "number_of" = some (.ref f)) (b : Binds K fd ["row", "order"] []) (h_refuse_not_kept : Has P w K mg base 6 "refuse_not_kept" ["row", "order"] (spNone K) f1 fd1) (h_kept_ahead : Has P w K mg base 5 "kept_ahead" ["row"] (spAheadB K) f2 fd2) (h_next_ones : Has P w K mg base 1 "next_ones" ["ahead", "stood"] (spNextB K) f3 fd3) (h_orders_behind : Has P w K mg base 14 "orders_behind" ["ahead", "stood", "known"] (spBehind K 13) f4 fd4) : Has P w K mg base 15 "number_of" ["row", "order"] (spNumOf K) f fd := by
  refine ⟨F.ok sc_number_of (fun vs H Q E h => ?_) (fun cdv A outer s H vs Q E hr h => ?_), g, F.kp, b⟩
  · obtain ⟨v, o, rs, L, E', B', rfl, _⟩ := h
    rfl
  · obtain ⟨v, o, rs, L, E', B', rfl, W, few, en, q⟩ := h
    refine ⟨_, PSs.nox (pss_cons (ps_expr (pe_call h_refuse_not_kept.G (hr.mono (by decide)) (by rfl) h_refuse_not_kept.g h_refuse_not_kept.kp h_refuse_not_kept.b .nil pass0 (pa_cons (pv 0) (pa_cons (pv 1) pa_nil))))
      (pss_cons (ps_set (i := 2) sc_number_of.nd rfl (.inl rfl) (pe_call h_kept_ahead.G (hr.mono (by decide)) (by rfl) h_kept_ahead.g h_kept_ahead.kp h_kept_ahead.b .nil pass0 (pa_cons (pv 0) pa_nil)))
      (pss_cons (ps_set (i := 3) sc_number_of.nd rfl (.inl rfl) pe_dnewK)
      (pss_cons (ps_set (i := 4) sc_number_of.nd rfl (.inl rfl) pe_int)
      (pss_cons (ps_set (i := 5) sc_number_of.nd rfl (.inl rfl) pe_int)
      (pss_cons (ps_for PassesOwn.never rfl (pi_tup (pv 1)) (pg_name (i := 6) sc_number_of.nd rfl (Or.inl rfl))
        (pss_cons (ps_for PassesOwn.never rfl (pi_list (pe_call h_next_ones.G (hr.mono (by decide)) (by rfl) h_next_ones.g h_next_ones.kp h_next_ones.b .nil pass0 (pa_cons (pv 2) (pa_cons (pv 5) pa_nil)))) (pg_name (i := 7) sc_number_of.nd rfl (Or.inl rfl))
        (pss_one (ps_if (pt_cmpR op_lt (pv 7) (pv 6) (nomark _)) (pss_one (ps_aug (i := 4) sc_number_of.nd rfl (.inl rfl) (pe_call h_orders_behind.G (hr.mono (by decide)) (by rfl) h_orders_behind.g h_orders_behind.kp h_orders_behind.b .nil pass0 (pa_cons (pv 2) (pa_cons (pe_op op_or (pv 5) (pe_op op_shl pe_int (pv 7))) (pa_cons (pv 3) pa_nil)))) ip_add)) pss_nil)))
      (pss_one (ps_aug (i := 5) sc_number_of.nd rfl (.inl rfl) (pe_op op_shl pe_int (pv 6)) ip_or))))
      (pss_one (ps_ret (pv 4))))))))), ?_⟩
    refine ⟨v, rfl, .ref o, rfl, v, o, rs, L, rfl, W, fun H2 e2 => ?_⟩
    have W2 := W.ex e2
    refine ⟨v, rfl, v, rs, rfl, W2.row, W.len, W.tl, fun a E2 B2 H3 sE2 nE2 sB2 nB2 ha e3 ga => ?_⟩
    obtain ⟨rfl, rfl⟩ := kept_any W.tl en ⟨sE2, nE2, sB2, nB2⟩
    unfold ahOf at q
    have al : (aheadF (keptT E' B' rs.length) rs.length).length = rs.length := ahead_len _ _
    generalize aheadF (keptT E' B' rs.length) rs.length = ah at ga al q
    obtain ⟨l, hL⟩ : ∃ l, l = L.map (·.1) := ⟨_, rfl⟩
    rw [← hL] at q
    have ord : SqT K H o (natsV l) := by rw [hL]; exact W.ord
    have ids : l.Perm (List.range rs.length) := by rw [hL]; exact W.ids
    have hll : l.length = rs.length := by rw [ids.length_eq, List.length_range]
    refine g_at [some v, some (.ref o), some (.ref a), none, none, none, none, none] rfl ?_
    refine fun d hd => ?_
    have n3 := Ex.new (o := .dK []) hd
    have gd : (upd H3 d (.dK [])) d = some (.dK []) := upd_same
    have nad : a ≠ d := ne_of_none ga hd
    have ga := n3 _ _ ga
    have hdH : H d = none := fresh_back (e2.trans e3) hd
    have e4 := (e2.trans e3).trans n3
    generalize upd H3 d (.dK []) = H4 at n3 gd ga e4 ⊢
    refine g_at [some v, some (.ref o), some (.ref a), some (.ref d), none, none, none, none] rfl ?_
    refine q_asg (v := .int 0) ev_c fun H5 e5 => ?_
    refine s_at [some v, some (.ref o), some (.ref a), some (.ref d), some (.int 0), none, none, none] rfl ?_
    refine q_asg (v := .int 0) ev_c fun H6 e6 => ?_
    refine s_at [some v, some (.ref o), some (.ref a), some (.ref d), some (.int 0), some (.int 0), none, none] rfl ?_
    have e46 := e5.trans e6
    refine q_forT (K := K) (a := o) (xs := natsV l) (ev_var rfl) (ex_t (e4.trans e46) ord) (fun k σ' H' => ∃ (num : Int) (st : Nat) (y6 y7 : Option V) (kvs : List (Key × V)), σ' = [some v, some (.ref o), some (.ref a), some (.ref d), some (.int num), some (.int (st : Int)), y6, y7] ∧ (st = maskL (l.take k) ∧ st < 2 ^ ah.length ∧ num + (numF ah st (l.drop k) : Int) = (numF ah 0 l : Int)) ∧ ExB d H4 H' ∧ H' d = some (.dK kvs) ∧ KnowsB ah kvs) (fun H7 e7 => ⟨0, 0, _, _, [], rfl, ⟨rfl, Nat.two_pow_pos _, by rw [List.drop_zero]; omega⟩, .of (e46.trans e7), (e46.trans e7) _ _ gd, KnowsB.nil ah⟩) (fun k σ' H' _ hW => ?_) (fun k x σ' H7 hx hW => ?_) (fun σ' H7 hW => ?_)
    · obtain ⟨num, st, y6, y7, kvs, rfl, _, x7, _⟩ := hW
      exact sq_exK x7 gd (ex_t e4 ord)
    · obtain ⟨num, st, y6, y7, kvs, rfl, ⟨hst, hs, hnum⟩, x7, gk, kn⟩ := hW
      have hk : k < l.length := by
        have := (List.getElem?_eq_some_iff.mp hx).1
        rw [natsV_len] at this
        exact this
      have hwk : l[k]? = some l[k] := List.getElem?_eq_getElem hk
      have hx2 := natsV_at hwk
      rw [hx] at hx2
      cases hx2
      have hwn : l[k] < rs.length := List.mem_range.mp (ids.mem_iff.mp (List.getElem_mem hk))
      have dk : l.drop k = l[k] :: l.drop (k + 1) := List.drop_eq_getElem_cons hk
      have tkk : l.take (k + 1) = l.take k ++ [l[k]] := by
        rw [List.take_add_one, hwk]
        rfl
      rw [dk] at hnum
      rw [tkk]
      generalize l[k] = who at hwk hwn hx hnum ⊢
      have nz : (numF ah st (who :: l.drop (k + 1)) : Int) = ((((nextB ah st).filter fun y => decide (y < who)).map fun y => cntF ah (putB st y)).sum : Int) + (numF ah (putB st who) (l.drop (k + 1)) : Int) := rfl
      refine g_at [some v, some (.ref o), some (.ref a), some (.ref d), some (.int num), some (.int (st : Int)), some (.int (who : Int)), y7] rfl ?_
      refine q_forL0 (K := K) ?_
      refine ⟨.ref a, rfl, .int (st : Int), rfl, a, ah, st, rfl, x7 _ _ nad ga, by omega, fun nq H8 hnq e8 gn => ?_⟩
      have nnd : nq ≠ d := fun z => by rw [z, gk] at hnq; cases hnq
      refine q_forL (K := K) (a := nq) (xs := natsV (nextB ah st)) ev_c (sq_of gn) (fun k σ' H' => ∃ (num2 : Int) (y7 : Option V) (kvs : List (Key × V)), σ' = [some v, some (.ref o), some (.ref a), some (.ref d), some (.int num2), some (.int (st : Int)), some (.int (who : Int)), y7] ∧ num2 = num + (((((nextB ah st).take k).filter fun y => decide (y < who)).map fun y => cntF ah (putB st y)).sum : Int) ∧ ExB d H8 H' ∧ H' d = some (.dK kvs) ∧ KnowsB ah kvs) (fun H9 e9 => ⟨num, _, kvs, rfl, by show num = num + 0; omega, .of e9, (e8.trans e9) _ _ gk, kn⟩) (fun j σ' H' _ hW => ?_) (fun j x σ' H9 hx2 hW => ?_) (fun σ' H9 hW => ?_)
      · obtain ⟨num2, y7, kvs, rfl, hn2, x9, _⟩ := hW
        exact sq_of (x9 _ _ nnd gn)
      · obtain ⟨num2, y7, kvs, rfl, hn2, x9, g9, k9⟩ := hW
        have hj : j < (nextB ah st).length := by
          have := (List.getElem?_eq_some_iff.mp hx2).1
          rw [natsV_len] at this
          exact this
        have hyj : (nextB ah st)[j]? = some (nextB ah st)[j] := List.getElem?_eq_getElem hj
        have hx3 := natsV_at hyj
        rw [hx2] at hx3
        cases hx3
        have hm := List.getElem_mem hj
        have tj : (nextB ah st).take (j + 1) = (nextB ah st).take j ++ [(nextB ah st)[j]] := by
          rw [List.take_add_one, hyj]
          rfl
        rw [tj, List.filter_append, List.map_append, List.sum_append]
        generalize (nextB ah st)[j] = y at hyj hm ⊢
        obtain ⟨h1, h2, _⟩ := mem_nextB.mp hm
        have ga9 := x9 _ _ nad (e8 _ _ (x7 _ _ nad ga))
        refine g_at [some v, some (.ref o), some (.ref a), some (.ref d), some (.int num2), some (.int (st : Int)), some (.int (who : Int)), some (.int (y : Int))] rfl ?_
        refine s_when (b := decide ((y : Int) < (who : Int))) (et_test (ev_op (ev_var rfl) (ev_var rfl) rv_I0)) (fun hc H10 e10 => ?_) (fun hc H10 e10 => ⟨num2, _, kvs, rfl, ?_, x9.trans (.of e10), e10 _ _ g9, k9⟩)
        rotate_left
        · have := of_decide_eq_false hc
          rw [List.filter_cons_of_neg (by simpa using (by omega : who ≤ y)), List.filter_nil, hn2]
          rfl
        have hc := of_decide_eq_true hc
        refine ⟨_, rfl, .ref a, rfl, ?_⟩
        refine (ev_put (s := st) (w := y) (ev_var rfl) (ev_var rfl) (by omega)) H10 (Ex.refl _) _ fun H11 e11 => ⟨.ref d, rfl, a, d, ah, putB st y, kvs, rfl, (e10.trans e11) _ _ ga9, by omega, put_lt hs h1, by have := left_le ah.length (putB st y); omega, (e10.trans e11) _ _ g9, k9, fun kvs2 H12 x12 g12 k12 => ⟨_, _, rfl, rfl, ?_⟩⟩
        refine ⟨_, _, kvs2, rfl, ?_, x9.trans ((ExB.of (e10.trans e11)).trans x12), g12, k12⟩
        rw [List.filter_cons_of_pos (by simpa using (by omega : y < who)), List.filter_nil, hn2, List.map_cons, List.map_nil, List.sum_cons, List.sum_nil]
        dsimp only
        omega
      · obtain ⟨num2, y7, kvs, rfl, hn2, x9, g9, k9⟩ := hW
        rw [natsV_len, List.take_length] at hn2
        refine ⟨_, rfl, ?_⟩
        refine (ev_op ev_c (ev_var rfl) (rv_I ⟨by omega, by omega, by decide⟩)) H9 (Ex.refl H9) _ fun H10 e10 => ⟨_, _, rfl, rfl, ?_⟩
        have e : Builtin.bitOr (st : Int) (1 * 2 ^ ((who : Int)).toNat) = ((putB st who : Nat) : Int) := by
          rw [Int.toNat_natCast, bit_shl, bit_or]
          rfl
        dsimp only
        rw [e]
        exact ⟨num2, putB st who, _, _, kvs, rfl, ⟨by rw [hst, mask_snoc], put_lt hs (by omega), by omega⟩, (x7.trans (.of e8)).trans (x9.trans (.of e10)), e10 _ _ g9, k9⟩
    · obtain ⟨num, st, y6, y7, kvs, rfl, ⟨hst, hs, hnum⟩, x7, gk, kn⟩ := hW
      rw [natsV_len, List.drop_length] at hnum
      have : num = (numF ah 0 l : Int) := by
        have z : (numF ah st [] : Int) = 0 := rfl
        omega
      subst this
      exact s_ret (D := { nx := fun _ H' => Q .non H', rt := Q }) (ev_var rfl) fun H8 e8 => q H8 (Ex.trans (fun c ob hc => x7 c ob (ne_of_none hc hdH) (e4 c ob hc)) e8)
theorem ok_law_dip {f : Addr} {fd : FuncData} (F : FnP K "_law_dip" s_law_dip f fd) (g : mg "_law_dip" = some (.ref f)) (b : Binds K fd ["_law_script", "_law_k"] []) (m_len : mg "len" = none) (m_abs : mg "abs" = none) (m_int : mg "int" = none) :
    Has P w K mg base 1 "_law_dip" ["_law_script", "_law_k"] (spDip K) f fd := by
  refine ⟨F.ok sc_law_dip (fun vs H Q E h => ?_) (fun cdv A outer s H vs Q E hr h => ?_), g, F.kp, b⟩
  · obtain ⟨a, k, ns, rfl, _⟩ := h
    rfl
  · obtain ⟨a, k, ns, rfl, hS, hk, q⟩ := h
    refine ⟨_, PSs.nox (pss_cons (ps_set (i := 2) sc_law_dip.nd rfl (.inl rfl) (pe_ifExp (pt_cmpR op_lt (pv 1) (pe_callB call_len_seq (by rfl) m_len PySem.boot_len (pa_cons (pv 0) pa_nil)) (nomark _)) (pe_ix ix_list (pv 0) (pv 1) (fun _ _ => rfl)) pe_int))
      (pss_one (ps_ret (pe_lst (pa_cons (pe_op op_mul (pe_callB call_abs (by rfl) m_abs (by decide +kernel) (pa_cons (pv 2) pa_nil)) (pe_callTy call_int1 (by rfl) m_int (by decide +kernel) (pa_cons (pe_cmpR op_ge (pe_callB call_abs (by rfl) m_abs (by decide +kernel) (pa_cons (pv 2) pa_nil)) (pe_op op_pow pe_int pe_int) (nomark _)) pa_nil))) (pa_cons (pe_op op_add (pe_op op_add (pe_op op_modN (pv 2) pe_int) (pe_op op_mul pe_int (pv 1))) pe_int) (pa_cons pe_int pa_nil))))))), ?_⟩
    refine q_asg (v := .int (ns.getD k 0)) (ev_if (b := decide ((k : Int) < ((ns.map V.int).length : Int))) (et_test (ev_op (ev_var rfl) (ev_len (ev_var rfl) hS) rv_I0)) (fun hd => ?_) (fun hd => ?_)) fun H1 e1 => ?_
    · have hk2 : k < ns.length := by
        have := of_decide_eq_true hd
        rw [List.length_map] at this
        omega
      have e : (ns.map V.int)[k]? = some (.int (ns.getD k 0)) := by
        rw [List.getElem?_map, List.getElem?_eq_getElem hk2, List.getD_eq_getElem?_getD, List.getElem?_eq_getElem hk2] <;> rfl
      exact ev_op (ev_var rfl) (ev_var rfl) (rv_ixL hS (atI_nat e))
    · have hk2 : ns.length ≤ k := by
        have := of_decide_eq_false hd
        rw [List.length_map] at this
        omega
      refine ev_is ev_c ?_
      rw [List.getD_eq_getElem?_getD, List.getElem?_eq_none hk2] <;> rfl
    · generalize ns.getD k 0 = c
      have r1 := fmod_lo (a := c) (show (0 : Int) < 2305843009213693951 by decide)
      have r2 := fmod_hi (a := c) (show (0 : Int) < 2305843009213693951 by decide)
      refine s_retL (el_lst (ea_cons (ev_op (ev_cb (ea_cons (ev_var rfl) ea_nil) rc_abs) (ev_cb (ea_cons (ev_op (ev_cb (ea_cons (ev_var rfl) ea_nil) rc_abs) (ev_op ev_c ev_c (rv_I ⟨by decide, by decide, by decide⟩)) rv_I0) ea_nil) rc_intB) (rv_I (.inr ?_))) (ea_cons (ev_op (ev_op (ev_op (ev_var rfl) ev_c (rv_I (by decide))) (ev_op ev_c (ev_var rfl) (rv_I (.inl ⟨by decide, by decide⟩))) rv_I0) ev_c rv_I0) (ea_cons ev_c ea_nil))) (by show 3 ≤ 100000; decide)) fun p H2 hp e2 h2 => ?_
      · exact b01 _
      · refine q p H2 (fresh_back e1 hp) (e1.trans e2) ⟨_, _, _, h2, ?_, by omega, by omega, by decide, by decide⟩
        refine Int.mul_nonneg ?_ ?_
        · split <;> omega
        · exact b01n _
theorem ok_law_take {f : Addr} {fd : FuncData} (F : FnP K "_law_take" s_law_take f fd) (g : mg "_law_take" = some (.ref f)) (b : Binds K fd ["_law_box", "_law_many"] []) : Has P w K mg base 1 "_law_take" ["_law_box", "_law_many"] spTake f fd := by
  refine ⟨F.ok sc_law_take (fun vs H Q E h => ?_) (fun cdv A outer s H vs Q E hr h => ?_), g, F.kp, b⟩
  · obtain ⟨p, m, n, rfl, _⟩ := h
    rfl
  · obtain ⟨p, m, n, rfl, hm, hm2, ⟨a, b, c, hb, ha, hb0, hb1, hc0, hc1⟩, hn, q⟩ := h
    refine ⟨_, PSs.nox (pss_cons (ps_if (pt_cmpR op_gt (pe_ix ix_list (pv 0) pe_int (fun _ _ => rfl)) pe_int (nomark _)) (pss_cons (ps_set (i := 2) sc_law_take.nd rfl (.inl rfl) (pe_op op_modN (pe_ix ix_list (pv 0) pe_int (fun _ _ => rfl)) (pv 1)))
      (pss_cons (ps_asg (pe_op op_fdivW (pe_ix ix_list (pv 0) pe_int (fun _ _ => rfl)) (pv 1)) (pg_sub (pv 0) pe_int set_list))
      (pss_one (ps_ret (pv 2))))) pss_nil)
      (pss_cons (ps_asg (pe_op op_add (pe_ix ix_list (pv 0) pe_int (fun _ _ => rfl)) pe_int) (pg_sub (pv 0) pe_int set_list))
      (pss_cons (ps_set (i := 3) sc_law_take.nd rfl (.inl rfl) (pe_op op_modN (pe_op op_powW (pe_op op_add (pe_ix ix_list (pv 0) pe_int (fun _ _ => rfl)) (pe_op op_mul pe_int (pe_ix ix_list (pv 0) pe_int (fun _ _ => rfl)))) pe_int) pe_int))
      (pss_cons (ps_set (i := 4) sc_law_take.nd rfl (.inl rfl) (pe_op op_modN (pe_op op_mulW (pe_op op_add (pe_op op_add (pv 3) (pe_ix ix_list (pv 0) pe_int (fun _ _ => rfl))) (pe_op op_fdivW (pe_ix ix_list (pv 0) pe_int (fun _ _ => rfl)) pe_int)) (pe_op op_add (pe_op op_add (pe_op op_modN (pv 3) pe_int) pe_int) (pe_ix ix_list (pv 0) pe_int (fun _ _ => rfl)))) pe_int))
      (pss_one (ps_ret (pe_op op_modN (pe_op op_fdivW (pe_op op_modN (pe_op op_add (pe_op op_mul (pv 4) pe_int) (pv 3)) pe_int) pe_int) (pv 1)))))))), ?_⟩
    refine q_when (b := decide (a > 0)) (et_B (ev_op (ev_op (ev_var rfl) ev_c (rv_ixL (sq_of hb) rfl)) ev_c rv_I0)) (fun hd H1 e1 => ?_) (fun hd H1 e1 => ?_)
    · have hb1' := e1 _ _ hb
      refine q_asg (ev_op (ev_op (ev_var rfl) ev_c (rv_ixL (sq_of hb1') rfl)) (ev_var rfl) (rv_I (show m ≠ 0 by omega))) fun H2 e2 => ?_
      have hb2' := e2 _ _ hb1'
      refine q_setL (j := 0) hb2' (ev_op (ev_op (ev_var rfl) ev_c (rv_ixL (sq_of hb2') rfl)) (ev_var rfl) (rv_I (divW_ok hm hm2))) (ev_var rfl) ev_c (by show 0 < 3; decide) fun H3 e3 => ?_
      refine s_ret (ev_var rfl) fun H4 e4 => ?_
      refine q _ H4 (fmod_lo hm) (fmod_hi hm) (((ExB.of ((e1.trans e2).trans e3)).upd).trans (.of e4)) ⟨a / m, b, c, e4 _ _ upd_same, Int.ediv_nonneg ha (by omega), hb0, hb1, hc0, by omega⟩
    · have hb1' := e1 _ _ hb
      refine q_setL (j := 2) hb1' (ev_op (ev_op (ev_var rfl) ev_c (rv_ixL (sq_of hb1') rfl)) ev_c rv_I0) (ev_var rfl) ev_c (by show 2 < 3; decide) fun H2 e2 => ?_
      have hx : upd H2 p (.lst ([V.int a, .int b, .int c].set 2 (.int (c + 1)))) p = some (.lst [V.int a, .int b, .int (c + 1)]) := upd_same
      have eb : ExB p H (upd H2 p (.lst ([V.int a, .int b, .int c].set 2 (.int (c + 1))))) := (ExB.of (e1.trans e2)).upd
      generalize upd H2 p (.lst ([V.int a, .int b, .int c].set 2 (.int (c + 1)))) = H3 at hx eb ⊢
      have hlim : c + 1 ≤ (Lim : Int) + 1 := by omega
      have g1 : CPowW (b + 39373 * (c + 1)) 5 := pow_ok (big_of (by omega) hlim 39373 b (by decide) (by decide) hb0 (by omega))
      have r1 := fmod_lo (a := (b + 39373 * (c + 1)) ^ (5 : Int).toNat) (show (0 : Int) < 2147483647 by decide)
      have r2 := fmod_hi (a := (b + 39373 * (c + 1)) ^ (5 : Int).toNat) (show (0 : Int) < 2147483647 by decide)
      refine q_asg (v := .int (((b + 39373 * (c + 1)) ^ (5 : Int).toNat).fmod 2147483647)) (ev_op (ev_op (ev_op (ev_op (ev_var rfl) ev_c (rv_ixL (sq_of hx) rfl)) (ev_op ev_c (ev_op (ev_var rfl) ev_c (rv_ixL (sq_of hx) rfl)) (rv_I (.inl ⟨by decide, by decide⟩))) rv_I0) ev_c (rv_I g1)) ev_c (rv_I (by decide))) fun H4 e4 => ?_
      generalize ((b + 39373 * (c + 1)) ^ (5 : Int).toNat).fmod 2147483647 = o at r1 r2 ⊢
      have hx4 := e4 _ _ hx
      have d0 : 0 ≤ b / 1000003 := by omega
      have d1 : b / 1000003 ≤ b := by omega
      have g2 : CMulW (o + (c + 1) + b / 1000003) (o.fmod 40009 + 7 + (c + 1)) := by
        have s1 := fmod_lo (a := o) (show (0 : Int) < 40009 by decide)
        have s2 := fmod_hi (a := o) (show (0 : Int) < 40009 by decide)
        have e1 : o + (c + 1) + b / 1000003 = (o + b / 1000003) + 1 * (c + 1) := by omega
        have e2 : o.fmod 40009 + 7 + (c + 1) = (o.fmod 40009 + 7) + 1 * (c + 1) := by omega
        rw [e1, e2]
        exact mulW_ok (big_of (by omega) hlim 1 _ (by decide) (by decide) (by omega) (by omega)) (big_of (by omega) hlim 1 _ (by decide) (by decide) (by omega) (by omega))
      refine q_asg (ev_op (ev_op (ev_op (ev_op (ev_var rfl) (ev_op (ev_var rfl) ev_c (rv_ixL (sq_of hx4) rfl)) rv_I0) (ev_op (ev_op (ev_var rfl) ev_c (rv_ixL (sq_of hx4) rfl)) ev_c (rv_I (divW_ok (by decide) (by decide)))) rv_I0) (ev_op (ev_op (ev_op (ev_var rfl) ev_c (rv_I (by decide))) ev_c rv_I0) (ev_op (ev_var rfl) ev_c (rv_ixL (sq_of hx4) rfl)) rv_I0) (rv_I g2)) ev_c (rv_I (by decide))) fun H5 e5 => ?_
      refine s_ret (ev_op (ev_op (ev_op (ev_op (ev_op (ev_var rfl) ev_c (rv_I (.inr ⟨by decide, by decide⟩))) (ev_var rfl) rv_I0) ev_c (rv_I (by decide))) ev_c (rv_I (divW_ok (by decide) (by decide)))) (ev_var rfl) (rv_I (show m ≠ 0 by omega))) fun H6 e6 => ?_
      refine q _ H6 (fmod_lo hm) (fmod_hi hm) (eb.trans (.of ((e4.trans e5).trans e6))) ⟨a, b, c + 1, e6 _ _ (e5 _ _ hx4), ha, hb0, hb1, by omega, by omega⟩
theorem ok_law_folded {f : Addr} {fd : FuncData} (F : FnP K "_law_folded" s_law_folded f fd) (g : mg "_law_folded" = some (.ref f)) (b : Binds K fd ["_law_script", "_law_many"] []) (m_list : mg "list" = none) (m_enumerate : mg "enumerate" = none) :
    Has P w K mg base 1 "_law_folded" ["_law_script", "_law_many"] (spFolded K) f fd := by
  refine ⟨F.ok sc_law_folded (fun vs H Q E h => ?_) (fun cdv A outer s H vs Q E hr h => ?_), g, F.kp, b⟩
  · obtain ⟨a, k, ns, rfl, _⟩ := h
    rfl
  · obtain ⟨a, m, ns, rfl, hm, hm2, hS, hlen, q⟩ := h
    refine ⟨_, PSs.nox (pss_cons (ps_set (i := 2) sc_law_folded.nd rfl (.inl rfl) (pe_callTy call_list_of (by rfl) m_list (by decide +kernel) (pa_cons (pe_slice sl_list (pv 0) po_none (po_some (pv 1))) pa_nil)))
      (pss_cons (ps_for PassesOwn.never rfl (pi_enum (by rfl) m_enumerate (pa_cons (pe_slice sl_list (pv 0) (po_some (pv 1)) (po_some pe_int)) pa_nil)) (pg_tup rfl (pgs_cons (pg_name (i := 3) sc_law_folded.nd rfl (Or.inl rfl)) (pgs_cons (pg_name (i := 4) sc_law_folded.nd rfl (Or.inl rfl)) pgs_nil)))
        (pss_one (ps_asg (pe_op op_add (pe_ix ix_list (pv 2) (pe_op op_modN (pv 3) (pv 1)) (fun _ _ => rfl)) (pe_op op_mul (pv 4) (pe_op op_add (pv 3) pe_int))) (pg_sub (pv 2) (pe_op op_modN (pv 3) (pv 1)) set_list))))
      (pss_one (ps_ret (pv 2))))), ?_⟩
    refine q_asgL (el_listN (el_sl (ev_var rfl) eo_none (eo_some (ev_var rfl)) hS)) fun l H1 hl e1 h1 => ?_
    rw [cut_to, ← List.map_take] at h1
    obtain ⟨zs, hzs, hzl⟩ := cut_ints ns (some (m : Int)) (some 63)
    rw [HT.sIx_nat] at hzl
    refine q_forE (el_sl (ev_var rfl) (eo_some (ev_var rfl)) (eo_some ev_c) (ex_l e1 hS)) (fun c i σ' H' => ∃ (y3 y4 : Option V) (ms : List Int), σ' = [some (.ref a), some (.int (m : Int)), some (.ref l), y3, y4] ∧ ms.length = min m ns.length ∧ H' l = some (.lst (ms.map V.int)) ∧ H' c = some (.lst (cutV (ns.map V.int) (some (m : Int)) (some 63))) ∧ Ex H H' ∧ l ≠ c) (fun c H2 hc e2 h2 => ?_) (fun c i σ' H' hi p => ?_) (fun c i x σ' H' T hx p hT => ?_) (fun c σ' H' p => ?_)
    · exact ⟨none, none, ns.take m, rfl, by rw [List.length_take], e2 _ _ h1, h2, e1.trans e2, ne_of_none h1 hc⟩
    · obtain ⟨y3, y4, ms, rfl, p1, p2, p3, p4, p5⟩ := p
      exact sq_of p3
    · obtain ⟨y3, y4, ms, rfl, p1, p2, p3, p4, p5⟩ := p
      rw [hzs, List.getElem?_map] at hx
      obtain ⟨z, hz, rfl⟩ := Option.map_eq_some_iff.mp hx
      have hi := (List.getElem?_eq_some_iff.mp hz).1
      have hms : ms.length = m := by omega
      refine ⟨T, _, rfl, st_of upd_same, rfl, _, _, rfl, _, _, rfl, rfl, ?_⟩
      have hlT : l ≠ T := ne_of_none p2 hT
      have h2 : (upd H' T (.tup [.int (i : Nat), .int z])) l = some (.lst (ms.map V.int)) := by
        rw [upd_ne hlT]
        exact p2
      have hj : i % m < ms.length := by
        rw [hms]
        exact Nat.mod_lt _ hm
      have hg : (ms.map V.int)[i % m]? = some (.int (ms[i % m])) := by
        rw [List.getElem?_map, List.getElem?_eq_getElem hj] <;> rfl
      have eI : Ev (tOp (rI (fun _ j => j ≠ 0) fun i j => .int (i.fmod j)) (tVar 3) (tVar 1)) [some (.ref a), some (.int (m : Int)), some (.ref l), some (.int (i : Nat)), some (.int z)] (upd H' T (.tup [.int (i : Nat), .int z])) (.int ((i % m : Nat) : Int)) := ev_is (ev_op (ev_var rfl) (ev_var rfl) (rv_I (show (m : Int) ≠ 0 by omega))) (by rw [fmod_nat])
      refine s_setL (j := i % m) h2 (ev_op (ev_op (ev_var rfl) eI (rv_ixL (sq_of h2) (atI_nat hg))) (ev_op (ev_var rfl) (ev_op (ev_var rfl) ev_c rv_I0) (rv_I (.inr ?_))) rv_I0) (ev_var rfl) eI (by rw [List.length_map]; exact hj) fun H3 e3 => ?_
      · have : zs.length ≤ 63 := by omega
        exact ⟨by omega, by omega⟩
      · refine ⟨some (.int (i : Nat)), some (.int z), ms.set (i % m) (ms[i % m] + z * ((i : Int) + 2)), rfl, by rw [List.length_set]; exact p1, ?_, ?_, ?_, p5⟩
        · rw [upd_same, List.map_set]
        · rw [upd_ne (Ne.symm p5)]
          exact e3 _ _ (Ex.new hT _ _ p3)
        · exact Ex.mut ((p4.trans (Ex.new hT)).trans e3) hl
    · obtain ⟨y3, y4, ms, rfl, p1, p2, p3, p4, p5⟩ := p
      exact s_ret (ev_var rfl) fun H2 e2 => q l H2 ms hl (p4.trans e2) (by omega) (e2 _ _ p2)
theorem ok_law_same {f : Addr} {fd : FuncData} (F : FnP K "_law_same" s_law_same f fd) (g : mg "_law_same" = some (.ref f)) (b : Binds K fd ["_law_found", "_law_due"] []) (m_isinstance : mg "isinstance" = none) (m_list : mg "list" = none) (m_tuple : mg "tuple" = none) (m_bool : mg "bool" = none) (m_str : mg "str" = none) (m_int : mg "int" = none) (m_len : mg "len" = none) (m_all : mg "all" = none) (m_zip : mg "zip" = none) :
    ∀ d, Has P w K mg base d "_law_same" ["_law_found", "_law_due"] (spSame K d) f fd
  | 0 => ⟨has_none, g, F.kp, b⟩
  | d + 1 => by
    have h_law_same := ok_law_same F g b m_isinstance m_list m_tuple m_bool m_str m_int m_len m_all m_zip d
    refine ⟨F.ok sc_law_same (fun vs H Q E h => ?_) (fun cdv A outer s H vs Q E hr h => ?_), g, F.kp, b⟩
    · obtain ⟨x, y, rfl, _⟩ := h
      rfl
    · obtain ⟨x, y, rfl, hA, q⟩ := h
      refine ⟨_, PSs.nox (pss_cons (ps_if (pt_val (pe_callB call_isiT (by rfl) m_isinstance (by decide +kernel) (pa_cons (pv 1) (pa_cons (pe_tup (pa_cons (pe_bltn (v := .ty "list") (by rfl) m_list (by decide +kernel) rfl) (pa_cons (pe_bltn (v := .ty "tuple") (by rfl) m_tuple (by decide +kernel) rfl) pa_nil))) pa_nil)))) (pss_cons (ps_if (PW.pt (pw_or (pt_cmpR op_ne (pe_callB call_isi (by rfl) m_isinstance (by decide +kernel) (pa_cons (pv 0) (pa_cons (pe_bltn (v := .ty "list") (by rfl) m_list (by decide +kernel) rfl) pa_nil))) (pe_callB call_isi (by rfl) m_isinstance (by decide +kernel) (pa_cons (pv 1) (pa_cons (pe_bltn (v := .ty "list") (by rfl) m_list (by decide +kernel) rfl) pa_nil))) (nomark _)) (pw_or1 (pt_cmpR op_ne (pe_callB call_isi (by rfl) m_isinstance (by decide +kernel) (pa_cons (pv 0) (pa_cons (pe_bltn (v := .ty "tuple") (by rfl) m_tuple (by decide +kernel) rfl) pa_nil))) (pe_callB call_isi (by rfl) m_isinstance (by decide +kernel) (pa_cons (pv 1) (pa_cons (pe_bltn (v := .ty "tuple") (by rfl) m_tuple (by decide +kernel) rfl) pa_nil))) (nomark _))))) (pss_one (ps_ret pe_bl)) pss_nil)
      (pss_one (ps_ret (pe_and (pe_cmpR op_eq (pe_callB call_len_seq (by rfl) m_len PySem.boot_len (pa_cons (pv 0) pa_nil)) (pe_callB call_len_seq (by rfl) m_len PySem.boot_len (pa_cons (pv 1) pa_nil)) (nomark _)) (pe_one (pe_callB (cr_all rfl) (by rfl) m_all (by decide +kernel) (pa_cons (pe_lc (own := [("_law_one", 2), ("_law_two", 3)]) (g := gTup K 2 (gCons (gName 2) (gCons (gName 3) gNil))) (by rfl) sc_law_same.nd (pi_zipA (by rfl) m_zip (pa_cons (pv 0) (pa_cons (pv 1) pa_nil))) (blkOk_by (own := [("_law_one", 2), ("_law_two", 3)]) (N := ["_law_found", "_law_due", "_law_one", "_law_two"]) (sc := defScope s_law_same) (by decide +kernel)) (fun _ _ _ _ _ => (pg_tup rfl (pgs_cons (pg_name (i := 2) sc_law_same.nd rfl (Or.inl rfl)) (pgs_cons (pg_name (i := 3) sc_law_same.nd rfl (Or.inl rfl)) pgs_nil)))) (fun _ _ _ _ _ => pts_nil) (fun _ _ _ _ _ => (pe_call h_law_same.G hr (by rfl) h_law_same.g h_law_same.kp h_law_same.b .nil pass0 (pa_cons (pv 2) (pa_cons (pv 3) pa_nil))))) pa_nil))))))) pss_nil)
      (pss_cons (ps_if (PW.pt (pw_or (pt_cmpR op_isN (pv 1) pe_non (nomark _)) (pw_or1 (pt_cmpR op_isN (pv 0) pe_non (nomark _))))) (pss_one (ps_ret (pe_and (pe_cmpR op_isN (pv 1) pe_non (nomark _)) (pe_one (pe_cmpR op_isN (pv 0) pe_non (nomark _)))))) pss_nil)
      (pss_cons (ps_if (PW.pt (pw_or (pt_val (pe_callB call_isi (by rfl) m_isinstance (by decide +kernel) (pa_cons (pv 1) (pa_cons (pe_bltn (v := .ty "bool") (by rfl) m_bool (by decide +kernel) rfl) pa_nil)))) (pw_or1 (pt_val (pe_callB call_isi (by rfl) m_isinstance (by decide +kernel) (pa_cons (pv 1) (pa_cons (pe_bltn (v := .ty "str") (by rfl) m_str (by decide +kernel) rfl) pa_nil))))))) (pss_one (ps_ret (pe_and (pe_cmpR op_eq (pe_callB call_isi (by rfl) m_isinstance (by decide +kernel) (pa_cons (pv 0) (pa_cons (pe_bltn (v := .ty "bool") (by rfl) m_bool (by decide +kernel) rfl) pa_nil))) (pe_callB call_isi (by rfl) m_isinstance (by decide +kernel) (pa_cons (pv 1) (pa_cons (pe_bltn (v := .ty "bool") (by rfl) m_bool (by decide +kernel) rfl) pa_nil))) (nomark _)) (pe_one (pe_cmpR op_eq (pv 0) (pv 1) (nomark _)))))) pss_nil)
      (pss_one (ps_ret (pe_and (pe_callB call_isi (by rfl) m_isinstance (by decide +kernel) (pa_cons (pv 0) (pa_cons (pe_bltn (v := .ty "int") (by rfl) m_int (by decide +kernel) rfl) pa_nil))) (pe_and (pe_not (pe_callB call_isi (by rfl) m_isinstance (by decide +kernel) (pa_cons (pv 0) (pa_cons (pe_bltn (v := .ty "bool") (by rfl) m_bool (by decide +kernel) rfl) pa_nil)))) (pe_one (pe_cmpR op_eq (pv 0) (pv 1) (nomark _)))))))))), ?_⟩
      rcases hA with ⟨rfl, hf⟩ | ⟨a, c, xs, ys, rfl, rfl, h3, h4, h5, h6⟩
      · cases x with
        | int i =>
          refine q_when (et_B (ev_isiT (ev_var rfl) (.int i) kit_int)) (fun hd => by cases hd) fun _ H1 e1 => ?_
          refine q_when (b := false) (et_or (a := false) (b := false) (et_test (ev_op (ev_var rfl) ev_c (rv_isN2 rfl))) fun _ => et_test (ev_op (ev_var rfl) ev_c (rv_isN2 rfl))) (fun hd => by cases hd) fun _ H2 e2 => ?_
          refine q_when (b := false) (et_or (a := false) (b := false) (et_B (ev_isi (T := "int") (C := "bool") (ev_var rfl) (.int i) (by decide +kernel))) fun _ => et_B (ev_isi (T := "int") (C := "str") (ev_var rfl) (.int i) (by decide +kernel))) (fun hd => by cases hd) fun _ H3 e3 => ?_
          refine s_ret (v := .bl true) (ev_andV (a := true) (b := true) (ev_isi (T := "int") (C := "int") (b := true) (ev_var rfl) (.int i) (by decide +kernel)) fun _ => ev_andV (a := true) (b := true) (ev_notV (ev_isi (T := "int") (C := "bool") (b := false) (ev_var rfl) (.int i) (by decide +kernel))) fun _ => ev_is (ev_op (ev_var rfl) (ev_var rfl) (rv_eq rfl)) (by rw [decide_eq_true rfl])) fun H4 e4 => q H4 (((e1.trans e2).trans e3).trans e4)
        | bl i =>
          refine q_when (et_B (ev_isiT (ev_var rfl) (.bl i) kit_bool)) (fun hd => by cases hd) fun _ H1 e1 => ?_
          refine q_when (b := false) (et_or (a := false) (b := false) (et_test (ev_op (ev_var rfl) ev_c (rv_isN2 rfl))) fun _ => et_test (ev_op (ev_var rfl) ev_c (rv_isN2 rfl))) (fun hd => by cases hd) fun _ H2 e2 => ?_
          refine q_when (b := true) (et_or (a := true) (b := true) (et_B (ev_isi (T := "bool") (C := "bool") (ev_var rfl) (.bl i) (by decide +kernel))) fun hd => by cases hd) (fun _ H3 e3 => ?_) (fun hd => by cases hd)
          refine s_ret (v := .bl true) (ev_andV (a := true) (b := true) (ev_op (ev_isi (T := "bool") (C := "bool") (b := true) (ev_var rfl) (.bl i) (by decide +kernel)) (ev_isi (T := "bool") (C := "bool") (b := true) (ev_var rfl) (.bl i) (by decide +kernel)) (rv_eq rfl)) fun _ => ev_is (ev_op (ev_var rfl) (ev_var rfl) (rv_eq rfl)) (by rw [decide_eq_true rfl])) fun H4 e4 => q H4 (((e1.trans e2).trans e3).trans e4)
        | str i =>
          refine q_when (et_B (ev_isiT (ev_var rfl) (.str i) kit_str)) (fun hd => by cases hd) fun _ H1 e1 => ?_
          refine q_when (b := false) (et_or (a := false) (b := false) (et_test (ev_op (ev_var rfl) ev_c (rv_isN2 rfl))) fun _ => et_test (ev_op (ev_var rfl) ev_c (rv_isN2 rfl))) (fun hd => by cases hd) fun _ H2 e2 => ?_
          refine q_when (b := true) (et_or (a := false) (b := true) (et_B (ev_isi (T := "str") (C := "bool") (b := false) (ev_var rfl) (.str i) (by decide +kernel))) fun _ => et_B (ev_isi (T := "str") (C := "str") (b := true) (ev_var rfl) (.str i) (by decide +kernel))) (fun _ H3 e3 => ?_) (fun hd => by cases hd)
          refine s_ret (v := .bl true) (ev_andV (a := true) (b := true) (ev_op (ev_isi (T := "str") (C := "bool") (b := false) (ev_var rfl) (.str i) (by decide +kernel)) (ev_isi (T := "str") (C := "bool") (b := false) (ev_var rfl) (.str i) (by decide +kernel)) (rv_eq rfl)) fun _ => ev_is (ev_op (ev_var rfl) (ev_var rfl) (rv_eq rfl)) (by rw [decide_eq_true rfl])) fun H4 e4 => q H4 (((e1.trans e2).trans e3).trans e4)
        | non =>
          refine q_when (et_B (ev_isiT (ev_var rfl) .non kit_non)) (fun hd => by cases hd) fun _ H1 e1 => ?_
          refine q_when (b := true) (et_or (a := true) (b := true) (et_test (ev_op (ev_var rfl) ev_c (rv_isN2 rfl))) fun _ => et_test (ev_op (ev_var rfl) ev_c (rv_isN2 rfl))) (fun _ H2 e2 => ?_) (fun hd => by cases hd)
          refine s_ret (v := .bl true) (ev_andV (a := true) (b := true) (ev_op (ev_var rfl) ev_c (rv_isN2 rfl)) fun _ => ev_op (ev_var rfl) ev_c (rv_isN2 rfl)) fun H4 e4 => q H4 ((e1.trans e2).trans e4)
        | byt _ => exact hf.elim
        | flt _ => exact hf.elim
        | ref _ => exact hf.elim
        | ty _ => exact hf.elim
      · rcases h3 with ⟨ha, hc⟩ | ⟨ha, hc⟩
        · refine q_when (et_B (ev_isiT (ev_var rfl) (.lst hc) kit_list)) (fun _ H1 e1 => ?_) (fun hd => by cases hd)
          refine q_when (b := false) (et_or (et_test (ev_op (ev_isi (T := "list") (b := true) (ev_var rfl) (.lst (ex_l e1 ha)) (by decide +kernel)) (ev_isi (T := "list") (b := true) (ev_var rfl) (.lst (ex_l e1 hc)) (by decide +kernel)) (rv_ne rfl))) fun _ => et_test (ev_op (ev_isi (T := "list") (b := false) (ev_var rfl) (.lst (ex_l e1 ha)) (by decide +kernel)) (ev_isi (T := "list") (b := false) (ev_var rfl) (.lst (ex_l e1 hc)) (by decide +kernel)) (rv_ne rfl))) (fun hd => by cases hd) fun _ H2 e2 => ?_
          have e12 := e1.trans e2
          refine s_ret (v := .bl true) (ev_andV (a := true) (b := true) (ev_is (ev_op (ev_lenA (ev_var rfl) (.inl (ex_l e12 ha))) (ev_lenA (ev_var rfl) (.inl (ex_l e12 hc))) (rv_eq rfl)) (by rw [h4, decide_eq_true rfl])) fun _ => ev_allT (el_same h4 h5 (.inl ⟨ex_l e12 ha, ex_l e12 hc⟩) fun i u v hu hv => (h6 i u v hu hv).ex e12)) fun H4 e4 => q H4 (e12.trans e4)
        · refine q_when (et_B (ev_isiT (ev_var rfl) (.tup hc) kit_tuple)) (fun _ H1 e1 => ?_) (fun hd => by cases hd)
          refine q_when (b := false) (et_or (et_test (ev_op (ev_isi (T := "tuple") (b := false) (ev_var rfl) (.tup (ex_t e1 ha)) (by decide +kernel)) (ev_isi (T := "tuple") (b := false) (ev_var rfl) (.tup (ex_t e1 hc)) (by decide +kernel)) (rv_ne rfl))) fun _ => et_test (ev_op (ev_isi (T := "tuple") (b := true) (ev_var rfl) (.tup (ex_t e1 ha)) (by decide +kernel)) (ev_isi (T := "tuple") (b := true) (ev_var rfl) (.tup (ex_t e1 hc)) (by decide +kernel)) (rv_ne rfl))) (fun hd => by cases hd) fun _ H2 e2 => ?_
          have e12 := e1.trans e2
          refine s_ret (v := .bl true) (ev_andV (a := true) (b := true) (ev_is (ev_op (ev_lenA (ev_var rfl) (.inr (ex_t e12 ha))) (ev_lenA (ev_var rfl) (.inr (ex_t e12 hc))) (rv_eq rfl)) (by rw [h4, decide_eq_true rfl])) fun _ => ev_allT (el_same h4 h5 (.inr ⟨ex_t e12 ha, ex_t e12 hc⟩) fun i u v hu hv => (h6 i u v hu hv).ex e12)) fun H4 e4 => q H4 (e12.trans e4)
theorem ok_law_of {f f1 : Addr} {fd fd1 : FuncData} (F : FnP K "_law_of" s_law_of f fd) (g : mg "_law_of" = some (.ref f)) (b : Binds K fd ["_law_box", "_law_pool"] []) (h_law_take : Has P w K mg base 1 "_law_take" ["_law_box", "_law_many"] spTake f1 fd1) (m_len : mg "len" = none) :
    Has P w K mg base 2 "_law_of" ["_law_box", "_law_pool"] (spOf K) f fd := by
  refine ⟨F.ok sc_law_of (fun vs H Q E h => ?_) (fun cdv A outer s H vs Q E hr h => ?_), g, F.kp, b⟩
  · obtain ⟨p, l, xs, n, rfl, _⟩ := h
    rfl
  · obtain ⟨p, l, xs, n, rfl, hl, h0, h1, hne, hb, hn, q⟩ := h
    refine ⟨_, PSs.nox (pss_one (ps_ret (pe_ix ix_list (pv 1) (pe_call h_law_take.G (hr.mono (by decide)) (by rfl) h_law_take.g h_law_take.kp h_law_take.b .nil pass0 (pa_cons (pv 0) (pa_cons (pe_callB call_len_seq (by rfl) m_len PySem.boot_len (pa_cons (pv 1) pa_nil)) pa_nil))) (fun _ _ => rfl)))), ?_⟩
    refine ⟨.ref l, rfl, .ref p, rfl, .ref l, rfl, l, xs, rfl, .inl hl, p, (xs.length : Int), n, rfl, by omega, by omega, hb, hn, fun r H1 r0 r1 e1 hb1 => ?_⟩
    obtain ⟨k, rfl⟩ := Int.eq_ofNat_of_zero_le r0
    have hk : k < xs.length := by omega
    exact ⟨l, xs, k, xs[k], rfl, rfl, e1.l hne hl, atI_nat (List.getElem?_eq_getElem hk), q k _ H1 (List.getElem?_eq_getElem hk) e1 hb1⟩
theorem behind_all {f f1 : Addr} {fd fd1 : FuncData} (F : FnP K "orders_behind" s_orders_behind f fd) (g : mg "orders_behind" = some (.ref f)) (b : Binds K fd ["ahead", "stood", "known"] []) (h_next_ones : Has P w K mg base 1 "next_ones" ["ahead", "stood"] (spNextB K) f1 fd1) (m_len : mg "len" = none) : ∀ j, Has P w K mg base (j + 1) "orders_behind" ["ahead", "stood", "known"] (spBehind K j) f fd
  | 0 => ⟨behind_none, g, F.kp, b⟩
  | j + 1 => by
    have h_orders_behind := behind_all F g b h_next_ones m_len j
    refine ⟨F.ok sc_orders_behind (fun vs H Q E h => ?_) (fun cdv A outer s H vs Q E hr h => ?_), g, F.kp, b⟩
    · obtain ⟨a, d, ah, s, kvs, rfl, _⟩ := h
      rfl
    · obtain ⟨a, d, ah, st, kvs, rfl, ga, hl, hs, hj, gd, kn, q⟩ := h
      have hu : (A.deeper (envOfC "orders_behind" (defScope s_orders_behind) s.heap.objs.size f cdv)).units + 1 < cLine := by
        have := hr.un
        omega
      refine ⟨_, PSs.nox (pss_cons (ps_if (pt_cmp (pc_dnotin hu (pv 1) (pv 2))) (pss_cons (ps_set (i := 3) sc_orders_behind.nd rfl (.inl rfl) (pe_ifExp (pt_cmpR op_eq (pv 1) (pe_op op_sub (pe_op op_shl pe_int (pe_callB call_len_seq (by rfl) m_len PySem.boot_len (pa_cons (pv 0) pa_nil))) pe_int) (nomark _)) pe_int pe_int))
      (pss_cons (ps_for PassesOwn.never rfl (pi_list (pe_call h_next_ones.G (hr.mono (by omega)) (by rfl) h_next_ones.g h_next_ones.kp h_next_ones.b .nil pass0 (pa_cons (pv 0) (pa_cons (pv 1) pa_nil)))) (pg_name (i := 4) sc_orders_behind.nd rfl (Or.inl rfl))
        (pss_one (ps_aug (i := 3) sc_orders_behind.nd rfl (.inl rfl) (pe_call h_orders_behind.G hr (by rfl) h_orders_behind.g h_orders_behind.kp h_orders_behind.b .nil pass0 (pa_cons (pv 0) (pa_cons (pe_op op_or (pv 1) (pe_op op_shl pe_int (pv 4))) (pa_cons (pv 2) pa_nil)))) ip_add)))
      (pss_one (ps_asg (pv 3) (pg_sub (pv 2) (pv 1) (set_dict hu)))))) pss_nil)
      (pss_one (ps_ret (pe_dget hu (pv 2) (pv 1) (fun _ _ => rfl))))), ?_⟩
      have nad : a ≠ d := fun z => by rw [z, gd] at ga; cases ga
      have fin : ∀ (kvs' : List (Key × V)) (H9 : Hp) (y3 y4 : Option V), ExB d H H9 → H9 d = some (.dK kvs') → KnowsB ah kvs' → valV kvs' (.inl (st : Int)) = some (.int (cntF ah st : Int)) → tRet (tDGet (tVar 2) (tVar 1)) { nx := fun _ H' => Q .non H', rt := Q } [some (.ref a), some (.int (st : Int)), some (.ref d), y3, y4] H9 := fun kvs' H9 y3 y4 x9 g9 k9 v9 =>
        s_ret (D := { nx := fun _ H' => Q .non H', rt := Q }) (ev_dget (k := .inl (st : Int)) (ev_var rfl) (ev_var rfl) g9 v9) fun H10 e10 => q kvs' H10 (x9.trans (.of e10)) (e10 _ _ g9) k9
      refine q_when (b := !(valV kvs (.inl (st : Int))).isSome) (et_notinK (k := .inl (st : Int)) (ev_var rfl) (ev_var rfl) gd) (fun z H1 e1 => ?_) (fun z H1 e1 => ?_)
      · have full : Ev (tIf (tTest (tOp rEq (tVar 1) (tOp (rI0 fun i j => .int (i - j)) (tOp (rI CPow fun i j => .int (i * 2 ^ j.toNat)) (tC (.int 1)) (tCB (rLenS K) (tCons (tVar 0) tNil))) (tC (.int 1))))) (tC (.int 1)) (tC (.int 0))) [some (.ref a), some (.int (st : Int)), some (.ref d), none, none] H1 (.int ((if st = 2 ^ ah.length - 1 then 1 else 0 : Nat) : Int)) := by
          refine ev_is (ev_if (b := decide (st = 2 ^ ah.length - 1)) (v := .int ((if st = 2 ^ ah.length - 1 then 1 else 0 : Nat) : Int)) (et_is (et_test (ev_op (ev_var rfl) (ev_op (ev_op ev_c (ev_len (K := K) (ev_var rfl) (sq_of (e1 _ _ ga))) (rv_I ⟨by omega, by rw [natsV_len]; omega, by decide⟩)) ev_c rv_I0) (rv_eq rfl))) ?_) (fun z => ?_) (fun z => ?_)) rfl
          · rw [natsV_len, Int.toNat_natCast, bit_shl]
            have : 1 ≤ 2 ^ ah.length := Nat.one_le_two_pow
            exact decide_eq_decide.mpr ⟨fun z => by injection z with z; omega, fun z => by congr 1; omega⟩
          · have z := of_decide_eq_true z
            rw [if_pos z]
            exact ev_c
          · have z := of_decide_eq_false z
            rw [if_neg z]
            exact ev_c
        refine q_asg full fun H2 e2 => ?_
        refine s_at [some (.ref a), some (.int (st : Int)), some (.ref d), some (.int ((if st = 2 ^ ah.length - 1 then 1 else 0 : Nat) : Int)), none] rfl ?_
        have e12 := e1.trans e2
        refine q_forL0 (K := K) ?_
        refine ⟨.ref a, rfl, .int (st : Int), rfl, a, ah, st, rfl, e12 _ _ ga, by omega, fun nq H3 hnq e3 gn => ?_⟩
        have e13 := e12.trans e3
        have nnd : nq ≠ d := fun z => by rw [z, e12 _ _ gd] at hnq; cases hnq
        refine q_forL (K := K) (a := nq) (xs := natsV (nextB ah st)) ev_c (sq_of gn) (fun k σ' H' => ∃ (y4 : Option V) (kvs' : List (Key × V)), σ' = [some (.ref a), some (.int (st : Int)), some (.ref d), some (.int (((if st = 2 ^ ah.length - 1 then 1 else 0) + (((nextB ah st).take k).map fun w => cntF ah (putB st w)).sum : Nat) : Int)), y4] ∧ ExB d H3 H' ∧ H' d = some (.dK kvs') ∧ KnowsB ah kvs') (fun H4 e4 => ⟨_, kvs, rfl, .of e4, (e13.trans e4) _ _ gd, kn⟩) (fun k σ' H' _ hW => ?_) (fun k x σ' H4 hx hW => ?_) (fun σ' H4 hW => ?_)
        · obtain ⟨y4, kvs', rfl, x4, _⟩ := hW
          exact sq_of (x4 _ _ nnd gn)
        · obtain ⟨y4, kvs', rfl, x4, g4, k4⟩ := hW
          have hk : k < (nextB ah st).length := by
            have := (List.getElem?_eq_some_iff.mp hx).1
            rw [natsV_len] at this
            exact this
          have hwk : (nextB ah st)[k]? = some (nextB ah st)[k] := List.getElem?_eq_getElem hk
          have hx2 := natsV_at hwk
          rw [hx] at hx2
          cases hx2
          have tk : ((nextB ah st).take (k + 1)).map (fun w => cntF ah (putB st w)) = ((nextB ah st).take k).map (fun w => cntF ah (putB st w)) ++ [cntF ah (putB st (nextB ah st)[k])] := by
            rw [List.take_add_one, hwk, List.map_append]
            rfl
          rw [tk, List.sum_append]
          have hm := List.getElem_mem hk
          generalize (nextB ah st)[k] = y at hwk hm ⊢
          obtain ⟨h1, h2, _⟩ := mem_nextB.mp hm
          have ga4 := x4 _ _ nad (e13 _ _ ga)
          refine g_at [some (.ref a), some (.int (st : Int)), some (.ref d), some (.int (((if st = 2 ^ ah.length - 1 then 1 else 0) + (((nextB ah st).take k).map fun w => cntF ah (putB st w)).sum : Nat) : Int)), some (.int (y : Int))] rfl ?_
          refine ⟨_, rfl, .ref a, rfl, ?_⟩
          refine (ev_put (s := st) (w := y) (ev_var rfl) (ev_var rfl) (by omega)) H4 (Ex.refl _) _ fun H5 e5 => ⟨.ref d, rfl, a, d, ah, putB st y, kvs', rfl, e5 _ _ ga4, hl, put_lt hs h1, by have := left_put h1 h2; omega, e5 _ _ g4, k4, fun kvs2 H6 x6 g6 k6 => ⟨_, _, rfl, rfl, ?_⟩⟩
          refine ⟨some (.int (y : Int)), kvs2, congrArg (fun z : Int => [some (V.ref a), some (V.int (st : Int)), some (V.ref d), some (V.int z), some (V.int (y : Int))]) ?_, x4.trans ((ExB.of e5).trans x6), g6, k6⟩
          simp only [List.sum_cons, List.sum_nil]
          omega
        · obtain ⟨y4, kvs', rfl, x4, g4, k4⟩ := hW
          rw [natsV_len, List.take_length, ← cnt_at hs] at *
          have few := k4.few
          have : 2 ^ ah.length ≤ 2 ^ 12 := Nat.pow_le_pow_right (by decide) hl
          refine s_setK (k := .inl (st : Int)) (ev_var rfl) (ev_var rfl) (ev_var rfl) g4 (by omega) fun H5 e5 => ?_
          exact fin _ _ _ _ ((ExB.of e13).trans (x4.trans (.of e5))).upd upd_same (k4.put2 hs) valV_put
      · have z : valV kvs (.inl (st : Int)) ≠ none := fun w => by rw [w] at z; cases z
        obtain ⟨x, hx⟩ := Option.ne_none_iff_exists'.mp z
        have := kn.get hx
        subst this
        exact fin kvs H1 _ _ (.of e1) (e1 _ _ gd) kn hx
theorem ok_orders_behind {f f1 : Addr} {fd fd1 : FuncData} (F : FnP K "orders_behind" s_orders_behind f fd) (g : mg "orders_behind" = some (.ref f)) (b : Binds K fd ["ahead", "stood", "known"] []) (h_next_ones : Has P w K mg base 1 "next_ones" ["ahead", "stood"] (spNextB K) f1 fd1) (m_len : mg "len" = none) : Has P w K mg base 14 "orders_behind" ["ahead", "stood", "known"] (spBehind K 13) f fd := behind_all F g b h_next_ones m_len 13
theorem ok_comes_to {f f1 : Addr} {fd fd1 : FuncData} (F : FnP K "comes_to" s_comes_to f fd) (g : mg "comes_to" = some (.ref f)) (b : Binds K fd ["row", "order"] []) (h_first_not_kept : Has P w K mg base 5 "first_not_kept" ["row", "order"] (spFirstNK K) f1 fd1) : Has P w K mg base 6 "comes_to" ["row", "order"] (spComes K) f fd := by
  refine ⟨F.ok sc_comes_to (fun vs H Q E h => ?_) (fun cdv A outer s H vs Q E hr h => ?_), g, F.kp, b⟩
  · obtain ⟨v, o, rs, l, E', B', rfl, _⟩ := h
    rfl
  · obtain ⟨v, o, rs, l, E', B', rfl, O, sE, nE, sB, nB, q⟩ := h
    refine ⟨_, PSs.nox (pss_one (ps_ret (pe_cmpR op_isN (pe_call h_first_not_kept.G (hr.mono (by decide)) (by rfl) h_first_not_kept.g h_first_not_kept.kp h_first_not_kept.b .nil pass0 (pa_cons (pv 0) (pa_cons (pv 1) pa_nil))) pe_non (nomark _)))), ?_⟩
    refine ⟨v, rfl, .ref o, rfl, v, o, rs, l, E', B', rfl, O, sE, nE, sB, nB, (fun hn H2 e2 => ?_), fun pr hp T H2 e2 gT => ?_⟩
    · rw [hn] at q
      refine ⟨rfl, ?_⟩
      rw [decide_eq_true rfl]
      exact q H2 e2
    · rw [hp] at q
      refine ⟨rfl, ?_⟩
      rw [decide_eq_false fun z => by cases z]
      exact q H2 e2
theorem ok_span {f f1 : Addr} {fd fd1 : FuncData} (F : FnP K "span" s_span f fd) (g : mg "span" = some (.ref f)) (b : Binds K fd ["row", "who"] []) (h_kept_pairs : Has P w K mg base 4 "kept_pairs" ["row"] (spKept K) f1 fd1) (m_len : mg "len" = none) : Has P w K mg base 5 "span" ["row", "who"] (spSpan K) f fd := by
  refine ⟨F.ok sc_span (fun vs H Q E h => ?_) (fun cdv A outer s H vs Q E hr h => ?_), g, F.kp, b⟩
  · obtain ⟨v, rs, E, B, i, rfl, _⟩ := h
    rfl
  · obtain ⟨v, rs, E, B, i, rfl, hv, hl, tl, en, hi, q⟩ := h
    refine ⟨_, PSs.nox (pss_cons (ps_set (i := 2) sc_span.nd rfl (.inl rfl) (pe_call h_kept_pairs.G (hr.mono (by decide)) (by rfl) h_kept_pairs.g h_kept_pairs.kp h_kept_pairs.b .nil pass0 (pa_cons (pv 0) pa_nil)))
      (pss_cons (ps_set (i := 3) sc_span.nd rfl (.inl rfl) (pe_callB call_len_seq (by rfl) m_len PySem.boot_len (pa_cons (pe_lc (own := [("one", 5), ("other", 6)]) (g := gTup K 2 (gCons (gName 5) (gCons (gName 6) gNil))) (by rfl) sc_span.nd (pi_list (pv 2)) (blkOk_by (own := [("one", 5), ("other", 6)]) (N := ["row", "who", "pairs", "ahead", "behind", "one", "other"]) (sc := defScope s_span) (by decide +kernel)) (fun _ _ _ _ _ => (pg_tup rfl (pgs_cons (pg_name (i := 5) sc_span.nd rfl (Or.inl rfl)) (pgs_cons (pg_name (i := 6) sc_span.nd rfl (Or.inl rfl)) pgs_nil)))) (fun _ _ _ _ _ => (pts_one (pt_cmpR op_eq (pv 6) (pv 1) (nomark _)))) (fun _ _ _ _ _ => (pv 5))) pa_nil)))
      (pss_cons (ps_set (i := 4) sc_span.nd rfl (.inl rfl) (pe_callB call_len_seq (by rfl) m_len PySem.boot_len (pa_cons (pe_lc (own := [("one", 5), ("other", 6)]) (g := gTup K 2 (gCons (gName 5) (gCons (gName 6) gNil))) (by rfl) sc_span.nd (pi_list (pv 2)) (blkOk_by (own := [("one", 5), ("other", 6)]) (N := ["row", "who", "pairs", "ahead", "behind", "one", "other"]) (sc := defScope s_span) (by decide +kernel)) (fun _ _ _ _ _ => (pg_tup rfl (pgs_cons (pg_name (i := 5) sc_span.nd rfl (Or.inl rfl)) (pgs_cons (pg_name (i := 6) sc_span.nd rfl (Or.inl rfl)) pgs_nil)))) (fun _ _ _ _ _ => (pts_one (pt_cmpR op_eq (pv 5) (pv 1) (nomark _)))) (fun _ _ _ _ _ => (pv 6))) pa_nil)))
      (pss_one (ps_ret (pe_tup (pa_cons (pv 3) (pa_cons (pe_op op_sub (pe_op op_sub (pe_callB call_len_seq (by rfl) m_len PySem.boot_len (pa_cons (pv 0) pa_nil)) pe_int) (pv 4)) pa_nil)))))))), ?_⟩
    refine ⟨v, rfl, v, rs, rfl, hv, by omega, tl, fun kq us E2 B2 H1 sE2 nE2 sB2 nB2 hkq e1 gk bk => ?_⟩
    obtain ⟨rfl, rfl⟩ := kept_any tl en ⟨sE2, nE2, sB2, nB2⟩
    have kl := kept_len E B hl
    refine g_at [some v, some (.int (i : Int)), some (.ref kq), none, none, none, none] rfl ?_
    have src : ∀ (σ : L2.St), σ[2]? = some (some (.ref kq)) → ∀ H0, Ex H1 H0 → ∀ H2, Ex H0 H2 → ∀ Q : VK, (∀ (a : Addr) (us : List V) (H3 : Hp), Ex H2 H3 → (∀ H4, Ex H3 H4 → SqL K H4 a us) → Beasts K H3 us (keptT E B rs.length) → Q (.ref a) H3) → (tVar 2 : TE) σ H2 Q := fun σ s2 H0 e0 H2 e2 Q q => ⟨.ref kq, s2, q kq us H2 (Ex.refl _) (fun H4 e4 => sq_of (((e0.trans e2).trans e4) _ _ gk)) (BeastsT.be (BeastsT.ex' bk (e0.trans e2)))⟩
    refine q_asg (v := .int ((aheadL (keptT E B rs.length) i).length : Int)) (by
      have h := ev_lenNL (K := K) (el_firsts (K := K) (te := tVar 2) (σ := [some v, some (.int (i : Int)), some (.ref kq), none, none, none, none]) (H := H1) (ps := keptT E B rs.length) (i := 5) (j := 6) (iw := 1) (vs := [5, 6]) (who := (i : Int)) (src _ rfl H1 (Ex.refl _)) (by omega) (fun _ _ => rfl) (fun _ _ => rfl) (fun _ _ => rfl) (fun _ _ => rfl))
      rw [firsts_nats, natsV_len] at h
      exact h) fun H2 e2 => ?_
    refine s_at [some v, some (.int (i : Int)), some (.ref kq), some (.int ((aheadL (keptT E B rs.length) i).length : Int)), none, none, none] rfl ?_
    refine q_asg (v := .int ((behindL (keptT E B rs.length) i).length : Int)) (by
      have h := ev_lenNL (K := K) (el_seconds (K := K) (te := tVar 2) (σ := [some v, some (.int (i : Int)), some (.ref kq), some (.int ((aheadL (keptT E B rs.length) i).length : Int)), none, none, none]) (H := H2) (ps := keptT E B rs.length) (i := 5) (j := 6) (iw := 1) (vs := [5, 6]) (who := (i : Int)) (src _ rfl H2 e2) (by omega) (fun _ _ => rfl) (fun _ _ => rfl) (fun _ _ => rfl) (fun _ _ => rfl))
      rw [seconds_nats, natsV_len] at h
      exact h) fun H3 e3 => ?_
    refine s_at [some v, some (.int (i : Int)), some (.ref kq), some (.int ((aheadL (keptT E B rs.length) i).length : Int)), some (.int ((behindL (keptT E B rs.length) i).length : Int)), none, none] rfl ?_
    have hb := behindL_lt (E := E) (B := B) hi
    have e13 := e1.trans (e2.trans e3)
    refine s_retU (eu_tup (ea_cons (ev_var rfl) (ea_cons (ev_is (ev_op (ev_op (ev_lenR (K := K) (ev_var rfl) (hv.ex e13)) ev_c rv_I0) (ev_var rfl) rv_I0) (show V.int ((rs.length : Int) - 1 - ((behindL (keptT E B rs.length) i).length : Int)) = .int (highP E B rs.length i : Int) from by unfold highP; congr 1; omega)) ea_nil)) (by show 2 ≤ 100000; decide)) fun p H4 hp e4 g4 => q p H4 (fresh_back e13 hp) (e13.trans e4) g4
theorem ok_law_pairs {f : Addr} {fd : FuncData} (F : FnP K "_law_pairs" s_law_pairs f fd) (g : mg "_law_pairs" = some (.ref f)) (b : Binds K fd ["_law_many"] []) (m_range : mg "range" = none) : Has P w K mg base 1 "_law_pairs" ["_law_many"] (spAllPairs K) f fd := by
  refine ⟨F.ok sc_law_pairs (fun vs H Q E h => ?_) (fun cdv A outer s H vs Q E hr h => ?_), g, F.kp, b⟩
  · obtain ⟨n, rfl, _⟩ := h
    rfl
  · obtain ⟨n, rfl, hn, q⟩ := h
    refine ⟨_, PSs.nox (pss_cons (ps_set (i := 1) sc_law_pairs.nd rfl (.inl rfl) (pe_lst pa_nil))
      (pss_cons (ps_for PassesOwn.never rfl (pi_range1 (by rfl) m_range (pa_cons (pv 0) pa_nil)) (pg_name (i := 2) sc_law_pairs.nd rfl (Or.inr rfl))
        (pss_one (ps_set (i := 1) sc_law_pairs.nd rfl (.inl rfl) (pe_op op_cat (pv 1) (pe_lc (own := [("_law_other", 3)]) (g := gName 3) (by rfl) sc_law_pairs.nd (pi_range2 (by rfl) m_range (pa_cons (pe_op op_add (pv 2) pe_int) (pa_cons (pv 0) pa_nil))) (blkOk_by (own := [("_law_other", 3)]) (N := ["_law_many", "_law_found", "_law_one", "_law_other"]) (sc := defScope s_law_pairs) (by decide +kernel)) (fun _ _ _ _ _ => (pg_name (i := 3) sc_law_pairs.nd rfl (Or.inl rfl))) (fun _ _ _ _ _ => pts_nil) (fun _ _ _ _ _ => (pe_tup (pa_cons (pv 2) (pa_cons (pv 3) pa_nil)))))))))
      (pss_one (ps_ret (pv 1))))), ?_⟩
    refine q_asgL (el_lst ea_nil (by show 0 ≤ 100000; decide)) fun l0 H1 hl0 e1 h1 => ?_
    refine q_forR1 (n := (n : Int)) (ea_cons (ev_var rfl) ea_nil) (by omega) (fun i σ' H' => ∃ (y2 y3 : Option V) (l : Addr) (us : List V), σ' = [some (.int (n : Int)), some (.ref l), y2, y3] ∧ H' l = some (.lst us) ∧ BeastsT H' us (tabP (fun _ _ => true) n i) ∧ Ex H H' ∧ H l = none) (fun H2 e2 => ⟨none, none, l0, [], rfl, e2 _ _ h1, .nil, e1.trans e2, hl0⟩) (fun i σ' H2 hi hW => ?_) (fun σ' H2 hW => ?_)
    · obtain ⟨y2, y3, l, us, rfl, w1, w2, w3, w4⟩ := hW
      have hi' : i < n := by omega
      refine ⟨.ref l, rfl, ?_⟩
      refine (ept_row (i := i) (n := n) (ko := 2) (σ := [some (.int (n : Int)), some (.ref l), some (.int (i : Int)), y3]) (ea_cons (ev_op (ev_var rfl) ev_c rv_I0) (ea_cons (ev_var rfl) ea_nil)) ⟨hi', by omega⟩ (fun x => rfl) (fun x => rfl) (fun x => rfl)) H2 (Ex.refl H2) _ fun c uc H3 hc e3 g3 b3 => ?_
      refine ⟨l, c, us, uc, rfl, rfl, e3 _ _ w1, g3, sz_of ?_, fun d hd => ?_⟩
      · rw [All2.len w2, All2.len b3]
        have h1 := tabP_len (fun _ _ => true) n i
        have h2 := tabPR_len (fun _ _ => true) i (n - (i + 1))
        have h3 : i * n ≤ 30 * 30 := Nat.mul_le_mul (by omega) hn
        omega
      · have nd := Ex.new (o := .lst (us ++ uc)) hd
        refine ⟨_, y3, d, us ++ uc, rfl, upd_same, ?_, w3.trans (e3.trans nd), fresh_back (w3.trans e3) hd⟩
        rw [tabP_succ]
        exact All2.app (BeastsT.ex' w2 (e3.trans nd)) (BeastsT.ex' b3 nd)
    · obtain ⟨y2, y3, l, us, rfl, w1, w2, w3, w4⟩ := hW
      exact ⟨.ref l, rfl, q l us H2 w4 w3 w1 w2⟩
end
end K26
set_option maxHeartbeats 4000000
namespace K26
open PySem PySem.Spec PyProof.Rows L2 Evl HH RZ
section
variable {P : Program} {w : World} {K : PySem.W.Frag} {mg : Str → Option Value} {base : Heap}
theorem ok_ini_NoOrder {C f : Addr} {fd : FuncData} (F : FunD K "__init__" "NoOrder.__init__" (defArgs s_ini_NoOrder) (defBody s_ini_NoOrder) (defScope s_ini_NoOrder) [] [] f fd) (T : ExcTy K .look "number" C f) (g : mg "NoOrder" = some (.ref C)) (b : Binds K fd ["self", "number"] []) (m_LookupError : mg "LookupError" = none) : HasE P w K mg base .look "NoOrder" "number" C f fd := by
  refine ⟨T, F.ok sc_ini_NoOrder (fun vs H Q E h => ?_) (fun cdv A outer s H vs Q E hr h => ?_), b, g⟩
  · obtain ⟨a, v, rfl, _⟩ := h
    rfl
  · obtain ⟨a, v, rfl, ha, q⟩ := h
    refine ⟨_, PSs.nox (pss_cons (ps_expr (pe_bini (b := .look) (by rfl) m_LookupError T.bi (pa_cons (pv 0) (pa_cons pe_str pa_nil)) (by decide) (by decide) (by decide +kernel))) (pss_one (ps_xs (pv 0) (pv 1)))), ?_⟩
    refine ⟨.ref a, rfl, a, C, _, rfl, by show 1 ≤ 1000; decide, T.ok, ha, ?_⟩
    exact ⟨v, rfl, .ref a, rfl, a, C, f, .look, rfl, T, ha, fun dx n ne => q dx n ne⟩
end
end K26
set_option maxHeartbeats 4000000
namespace HH
open PySem PySem.Spec PyProof.Rows L2 Evl RZ
theorem cnt_free {n : Nat} : ∀ (k : Nat) {s : Nat}, s < 2 ^ n → leftB n s = k → cntF (List.replicate n 0) s = facB k
  | 0, s, hs, hk => by
    have hs' : s < 2 ^ (List.replicate n 0).length := by rw [List.length_replicate]; exact hs
    have hk' : leftB (List.replicate n 0).length s = 0 := by rw [List.length_replicate]; exact hk
    rw [← ext_len hs', ext_full hs' hk']
    rfl
  | k + 1, s, hs, hk => by
    have ln : (List.replicate n 0).length = n := List.length_replicate
    have hs' : s < 2 ^ (List.replicate n 0).length := by rw [ln]; exact hs
    have nf : ¬ s = 2 ^ (List.replicate n 0).length - 1 := fun z => by
      have := (left_0 hs').mpr z
      rw [ln] at this
      omega
    rw [cnt_at hs', if_neg nf, Nat.zero_add]
    have e : nextB (List.replicate n 0) s = (List.range n).filter fun w => !s.testBit w := by
      unfold nextB
      rw [ln]
      refine List.filter_congr fun w hw => ?_
      have : (List.replicate n 0).getD w 0 = 0 := by
        rw [List.getD_eq_getElem?_getD, List.getElem?_replicate]
        split <;> rfl
      rw [this]
      simp
    have all : ∀ w ∈ nextB (List.replicate n 0) s, cntF (List.replicate n 0) (putB s w) = facB k := fun w hw => by
      obtain ⟨m1, m2, _⟩ := mem_nextB.mp hw
      rw [ln] at m1
      have := left_put m1 m2
      exact cnt_free k (put_lt hs m1) (by omega)
    rw [List.map_congr_left all]
    have : (nextB (List.replicate n 0) s).length = k + 1 := by rw [e]; exact hk
    generalize nextB (List.replicate n 0) s = l at this
    have sum : ∀ l : List Nat, (l.map fun _ => facB k).sum = l.length * facB k := by
      intro l
      induction l with
      | nil => simp
      | cons a l ih => rw [List.map_cons, List.sum_cons, ih, List.length_cons, Nat.add_mul, Nat.one_mul]; omega
    rw [sum, this]
    rfl
structure KnownR (rs : HH.Row) (n : Nat) (kt : HH.Row) (due l0 h0 l1 h1 : Nat) : Prop where
  len : rs.length = n
  tl : ∀ b ∈ rs, 0 ≤ b.2
  ends : ∃ E B, EndsOf rs E B ∧ keptT E B n = kt
  cnt : cntF (aheadF kt n) 0 = due
  s0 : (aheadL kt 0).length = l0 ∧ n - 1 - (behindL kt 0).length = h0
  s1 : (aheadL kt (n - 1)).length = l1 ∧ n - 1 - (behindL kt (n - 1)).length = h1
theorem tabP_congr {p q : Nat → Nat → Bool} {n : Nat} : ∀ m, (∀ i k, i < m → i + 1 + k < n → p i k = q i k) → tabP p n m = tabP q n m := by
  intro m h
  unfold tabP
  rw [List.flatMap_def, List.flatMap_def]
  congr 1
  refine List.map_congr_left fun i hi => ?_
  unfold tabPR
  congr 1
  refine List.filter_congr fun k hk => h i k (List.mem_range.mp hi) ?_
  have := List.mem_range.mp hk
  omega
theorem tag_rowN (f g : Nat → Int) : ∀ n, tag 0 (rowN n f g) = (List.range n).map fun k => (k, (f k, g k))
  | 0 => rfl
  | n + 1 => by
    rw [rowN_succ, tag_app, tag_rowN f g n, List.range_succ, List.map_append, rowN_len, Nat.zero_add]
    rfl
theorem rowN_tl {n : Nat} {f g : Nat → Int} (h : ∀ i, i < n → 0 ≤ g i) : ∀ b ∈ rowN n f g, 0 ≤ b.2 := fun b hb => by
  unfold rowN at hb
  obtain ⟨i, hi, rfl⟩ := List.mem_map.mp hb
  exact h i (List.mem_range.mp hi)
theorem rowN_rises {n : Nat} {f g : Nat → Int} (h : ∀ i, i + 1 < n → f i ≤ f (i + 1)) : ∀ i, i + 1 < (rowN n f g).length → sS (rowN n f g) i ≤ sS (rowN n f g) (i + 1) := fun i hi => by
  rw [rowN_len] at hi
  rw [(rowN_at (f := f) (g := g) (show i < n by omega)).1, (rowN_at (f := f) (g := g) hi).1]
  exact h i hi
theorem bef_rg {n i j : Nat} (h : i < j) : bef (List.range n) j i = false := by
  rw [Bool.eq_false_iff]
  intro z
  rw [List.range_eq_range'] at z
  have := bef_range' _ _ z
  omega
theorem kept_rise {rs : HH.Row} {E : List Cow} {p : Nat → Nat → Bool} {n : Nat} (hn : rs.length = n) (sE : Steps (tag 0 rs) E) (nE : Nf E) (h : ∀ i, i + 1 < rs.length → sS rs i ≤ sS rs (i + 1)) (hp : ∀ i k, i + 1 + k < n → (p i k = true ↔ bef (E.map (·.1)) (i + 1 + k) i = false)) : ∃ E B, EndsOf rs E B ∧ keptT E B n = tabP p n n := by
  refine ⟨E, tag 0 rs, ⟨sE, nE, .refl _, ffr_ff (ffr_tag 0 rs h)⟩, ?_⟩
  unfold keptT
  refine tabP_congr n fun i k hi hk => ?_
  have key := keep_iff (e := E.map (·.1)) (b := (tag 0 rs).map (·.1)) (i := i) (j := i + 1 + k) (by omega)
  rw [show i + 1 + k - i - 1 = k by omega, tag_ids] at key
  rw [Bool.eq_iff_iff, tag_ids, key, hp i k hk]
  exact ⟨fun z => z.1, fun z => ⟨z, bef_rg (by omega)⟩⟩
theorem tabP_no (n : Nat) : ∀ m, tabP (fun _ _ => false) n m = [] := by
  intro m
  unfold tabP
  rw [List.flatMap_eq_nil_iff]
  intro i hi
  unfold tabPR
  rw [List.filter_eq_nil_iff.mpr (fun _ _ => by simp)]
  rfl
theorem known1 {n : Nat} {low b : Int} (h : 0 < b) (n0 : 0 < n) : KnownR (rowN n (fun i => low + b * (i : Int)) fun _ => 0) n [] (facB n) 0 (n - 1) 0 (n - 1) := by
  have tl := rowN_tl (n := n) (f := fun i => low + b * (i : Int)) (g := fun _ => 0) fun _ _ => Int.le_refl 0
  have lt : ∀ i j : Nat, i < j → low + b * (i : Int) < low + b * (j : Int) := fun i j hij => by
    have : b * (i : Int) < b * (j : Int) := Int.mul_lt_mul_of_pos_left (by omega) h
    omega
  refine ⟨rowN_len .., tl, ?_, ?_, ⟨rfl, ?_⟩, ⟨rfl, ?_⟩⟩
  · obtain ⟨E, sE, nE⟩ := nf_is (good_tag tl).tl
    have := kept_rise (p := fun _ _ => false) (rowN_len ..) sE nE (rowN_rises fun i hi => Int.le_of_lt (lt i (i + 1) (by omega))) fun i k hk => by
      have ln := rowN_len n (fun i => low + b * (i : Int)) (fun _ => 0)
      have := never_iff tl sE nE (i := i) (j := i + 1 + k) (by omega) (by rw [ln]; exact hk)
      rw [free_bar (fun b hb => by unfold rowN at hb; obtain ⟨_, _, rfl⟩ := List.mem_map.mp hb; rfl), (rowN_at (show i < n by omega)).1, (rowN_at hk).1] at this
      rw [this.mpr (lt _ _ (by omega))]
      simp
    rw [tabP_no] at this
    exact this
  · show cntF (List.replicate n 0) 0 = _
    exact cnt_free n (Nat.two_pow_pos _) (left_zero n)
  · show n - 1 - 0 = n - 1
    omega
  · show n - 1 - 0 = n - 1
    omega
theorem facts2 : ∀ n, n ≤ 9 → 0 < n → cntF (aheadF (tabP (fun _ _ => true) n n) n) 0 = 1 ∧ ((aheadL (tabP (fun _ _ => true) n n) 0).length = 0 ∧ n - 1 - (behindL (tabP (fun _ _ => true) n n) 0).length = 0) ∧ ((aheadL (tabP (fun _ _ => true) n n) (n - 1)).length = n - 1 ∧ n - 1 - (behindL (tabP (fun _ _ => true) n n) (n - 1)).length = n - 1) := by decide +kernel
theorem known2 {n : Nat} {low st asks : Int} (s0 : 0 ≤ st) (h : st ≤ asks) (n0 : 0 < n) (n9 : n ≤ 9) : KnownR (rowN n (fun i => low + st * (i : Int)) fun _ => asks) n (tabP (fun _ _ => true) n n) 1 0 0 (n - 1) (n - 1) := by
  obtain ⟨f1, f2, f3⟩ := facts2 n n9 n0
  have up : ∀ i : Nat, low + st * ((i + 1 : Nat) : Int) = low + st * (i : Int) + st := fun i => by
    rw [Int.natCast_add, Int.mul_add]
    simp
    omega
  refine ⟨rowN_len .., rowN_tl fun _ _ => by omega, ?_, f1, f2, f3⟩
  refine kept_rise (E := tag 0 (rowN n (fun i => low + st * (i : Int)) fun _ => asks)) (rowN_len ..) (.refl _) (nfr_nf (nfr_tag 0 _ fun i hi => ?_)) (rowN_rises fun i hi => by rw [up]; omega) fun i k hk => ?_
  · rw [rowN_len] at hi
    rw [(rowN_at (show i < n by omega)).1, (rowN_at hi).1, (rowN_at (show i < n by omega)).2, up]
    omega
  · rw [tag_ids, rowN_len]
    exact ⟨fun _ => bef_rg (by omega), fun _ => rfl⟩
theorem pass_weak {low b t : Int} (b0 : 0 ≤ b) (w : Nat) : ∀ (ks : List Nat) (s : Int), s - b * (ks.length : Int) > low → Steps (ks.map (fun k => (k, (low, b))) ++ [(w, (s, t))]) ((w, (s - b * (ks.length : Int), t)) :: ks.map fun k => (k, (low, b)))
  | [], s, _ => by
    have : s - b * (([] : List Nat).length : Int) = s := by simp
    rw [this]
    exact .refl _
  | k :: ks, s, h => by
    have e : s - b * ((k :: ks).length : Int) = s - b * (ks.length : Int) - b := by
      rw [List.length_cons, Int.natCast_add, Int.mul_add]
      simp
      omega
    rw [e] at h ⊢
    have ih := (pass_weak (low := low) (b := b) (t := t) b0 w ks s (by omega)).cons2 (k, (low, b))
    exact ih.trans (.one ⟨[], ks.map (fun k => (k, (low, b))), (k, (low, b)), (w, (s - b * (ks.length : Int), t)), rfl, h, rfl⟩)
end HH
set_option maxHeartbeats 4000000
namespace HH
open PySem PySem.Spec PyProof.Rows L2 Evl RZ
abbrev rowW (m : Nat) (low b s : Int) : HH.Row := rowN (m + 1) (fun i => if i < m then low else s) (fun i => if i < m then b else 3)
theorem tag_rowW (m : Nat) (low b s : Int) : tag 0 (rowW m low b s) = (List.range m).map (fun k => (k, (low, b))) ++ [(m, (s, 3))] := by
  unfold rowW
  rw [tag_rowN, List.range_succ, List.map_append]
  congr 1
  · refine List.map_congr_left fun k hk => ?_
    have := List.mem_range.mp hk
    rw [if_pos this, if_pos this]
  · rw [List.map_cons, List.map_nil, if_neg (Nat.lt_irrefl m), if_neg (Nat.lt_irrefl m)]
theorem rowW_app (m : Nat) (low b s : Int) : rowW m low b s = List.replicate m (low, b) ++ [(s, 3)] := by
  unfold rowW rowN
  rw [List.range_succ, List.map_append]
  congr 1
  · refine List.ext_getElem? fun i => ?_
    rw [List.getElem?_map, List.getElem?_replicate]
    by_cases h : i < m
    · rw [List.getElem?_range h, if_pos h, Option.map_some]
      simp [h]
    · rw [List.getElem?_eq_none (by rw [List.length_range]; omega), if_neg h]
      rfl
  · simp
theorem flat_pw (ks : List Nat) (low b : Int) : (ks.map fun k => ((k, (low, b)) : Cow)).Pairwise fun x y => y.2.1 ≤ x.2.1 := by
  rw [List.pairwise_map]
  exact List.Pairwise.imp (fun _ => Int.le_refl _) (List.pairwise_of_forall (R := fun _ _ => True) fun _ _ => True.intro)
theorem flat_ids (ks : List Nat) (low b : Int) : (ks.map fun k => ((k, (low, b)) : Cow)).map (·.1) = ks := by
  rw [List.map_map]
  exact List.map_id' ks
theorem facts3 : ∀ m, m ≤ 8 → 0 < m → cntF (aheadF (tabP (fun _ _ => true) m m) (m + 1)) 0 = m + 1 ∧ ((aheadL (tabP (fun _ _ => true) m m) 0).length = 0 ∧ m + 1 - 1 - (behindL (tabP (fun _ _ => true) m m) 0).length = 1) ∧ ((aheadL (tabP (fun _ _ => true) m m) (m + 1 - 1)).length = 0 ∧ m + 1 - 1 - (behindL (tabP (fun _ _ => true) m m) (m + 1 - 1)).length = m) ∧ tabP (fun i k => decide (i + 1 + k < m)) (m + 1) (m + 1) = tabP (fun _ _ => true) m m := by decide +kernel
theorem known3 {m : Nat} {low b : Int} (b0 : 0 < b) (m0 : 0 < m) (m8 : m ≤ 8) : KnownR (rowW m low b (low + b * (m : Int) + 1)) (m + 1) (tabP (fun _ _ => true) m m) (m + 1) 0 1 0 m := by
  obtain ⟨f1, f2, f3, f4⟩ := facts3 m m8 m0
  refine ⟨rowN_len .., rowN_tl fun i _ => by split <;> omega, ?_, f1, f2, f3⟩
  have bm : 0 ≤ b * (m : Int) := Int.mul_nonneg (Int.le_of_lt b0) (by omega)
  have st := pass_weak (low := low) (b := b) (t := 3) (Int.le_of_lt b0) m (List.range m) (low + b * (m : Int) + 1) (by rw [List.length_range]; omega)
  rw [List.length_range, show low + b * (m : Int) + 1 - b * (m : Int) = low + 1 by omega, ← tag_rowW] at st
  rw [← f4]
  refine kept_rise (rowN_len ..) st (nfr_nf (nfr_fall (fun x hx => ?_) ?_)) (rowN_rises fun i hi => ?_) fun i k hk => ?_
  · rcases List.mem_cons.mp hx with z | z
    · rw [z]
      show (0 : Int) ≤ 3
      decide
    · obtain ⟨_, _, rfl⟩ := List.mem_map.mp z
      exact Int.le_of_lt b0
  · refine List.pairwise_cons.mpr ⟨fun x hx => ?_, flat_pw _ _ _⟩
    obtain ⟨_, _, rfl⟩ := List.mem_map.mp hx
    show low ≤ low + 1
    omega
  · split <;> split <;> omega
  · rw [List.map_cons, flat_ids, decide_eq_true_iff]
    constructor
    · intro h
      rw [Bool.eq_false_iff]
      intro z
      rcases bef_cons.mp z with ⟨z, _⟩ | z
      · omega
      · rw [bef_rg (by omega)] at z
        cases z
    · intro h
      refine Nat.lt_of_not_le fun z => ?_
      have : bef (m :: List.range m) (i + 1 + k) i = true := bef_cons.mpr (.inl ⟨by omega, List.mem_range.mpr (by omega)⟩)
      rw [this] at h
      cases h
theorem facts4 : ∀ m, m ≤ 8 → 0 < m → cntF (aheadF (tabP (fun i k => decide (i + 1 + k < m) || decide (i = 0)) (m + 1) (m + 1)) (m + 1)) 0 = m ∧ ((aheadL (tabP (fun i k => decide (i + 1 + k < m) || decide (i = 0)) (m + 1) (m + 1)) 0).length = 0 ∧ m + 1 - 1 - (behindL (tabP (fun i k => decide (i + 1 + k < m) || decide (i = 0)) (m + 1) (m + 1)) 0).length = 0) ∧ ((aheadL (tabP (fun i k => decide (i + 1 + k < m) || decide (i = 0)) (m + 1) (m + 1)) (m + 1 - 1)).length = 1 ∧ m + 1 - 1 - (behindL (tabP (fun i k => decide (i + 1 + k < m) || decide (i = 0)) (m + 1) (m + 1)) (m + 1 - 1)).length = m) := by decide +kernel
theorem known4 {m : Nat} {low b : Int} (b0 : 0 < b) (m0 : 0 < m) (m8 : m ≤ 8) : KnownR (rowW m low b (low + b * (m : Int))) (m + 1) (tabP (fun i k => decide (i + 1 + k < m) || decide (i = 0)) (m + 1) (m + 1)) m 0 0 1 m := by
  obtain ⟨f1, f2, f3⟩ := facts4 m m8 m0
  refine ⟨rowN_len .., rowN_tl fun i _ => by split <;> omega, ?_, f1, f2, f3⟩
  have bm : 0 ≤ b * (m : Int) := Int.mul_nonneg (Int.le_of_lt b0) (by omega)
  obtain ⟨m', rfl⟩ : ∃ m', m = m' + 1 := ⟨m - 1, by omega⟩
  have er : List.range (m' + 1) = 0 :: List.range' 1 m' := by
    rw [List.range_eq_range', List.range'_succ]
  have eb : b * ((m' + 1 : Nat) : Int) = b * (m' : Int) + b := by
    rw [Int.natCast_add, Int.mul_add]
    simp
  have st := (pass_weak (low := low) (b := b) (t := 3) (Int.le_of_lt b0) (m' + 1) (List.range' 1 m') (low + b * ((m' + 1 : Nat) : Int)) (by rw [List.length_range', eb]; omega)).cons2 (0, (low, b))
  rw [List.length_range', show low + b * ((m' + 1 : Nat) : Int) - b * (m' : Int) = low + b by omega] at st
  have et : (0, (low, b)) :: (List.map (fun k => ((k, (low, b)) : Cow)) (List.range' 1 m') ++ [(m' + 1, (low + b * ((m' + 1 : Nat) : Int), 3))]) = tag 0 (rowW (m' + 1) low b (low + b * ((m' + 1 : Nat) : Int))) := by
    rw [tag_rowW, er]
    rfl
  rw [et] at st
  refine kept_rise (rowN_len ..) st (nfr_nf ⟨?_, nfr_fall (fun x hx => ?_) ?_⟩) (rowN_rises fun i hi => ?_) fun i k hk => ?_
  · show ¬ (low + b - b > low)
    omega
  · rcases List.mem_cons.mp hx with z | z
    · rw [z]
      show (0 : Int) ≤ 3
      decide
    · obtain ⟨_, _, rfl⟩ := List.mem_map.mp z
      exact Int.le_of_lt b0
  · refine List.pairwise_cons.mpr ⟨fun x hx => ?_, flat_pw _ _ _⟩
    obtain ⟨_, _, rfl⟩ := List.mem_map.mp hx
    show low ≤ low + b
    omega
  · split <;> split <;> omega
  · rw [List.map_cons, List.map_cons, flat_ids, Bool.or_eq_true, decide_eq_true_iff, decide_eq_true_iff]
    constructor
    · intro h
      rw [Bool.eq_false_iff]
      intro z
      rcases bef_cons.mp z with ⟨z, _⟩ | z
      · omega
      · rcases bef_cons.mp z with ⟨z, z2⟩ | z
        · obtain ⟨_, _⟩ := List.mem_range'_1.mp z2
          rcases h with h | h
          · omega
          · omega
        · have := bef_range' _ _ z
          omega
    · intro h
      refine Classical.byContradiction fun z => ?_
      have : bef (0 :: (m' + 1) :: List.range' 1 m') (i + 1 + k) i = true := bef_cons.mpr (.inr (bef_cons.mpr (.inl ⟨by omega, List.mem_range'_1.mpr ⟨by omega, by omega⟩⟩)))
      rw [this] at h
      cases h
theorem stair12 : cntF (List.replicate 12 0) 0 = 479001600 ∧ (extF (List.replicate 12 0) 0)[479001599]? = some [11, 10, 9, 8, 7, 6, 5, 4, 3, 2, 1, 0] := by
  have c : cntF (List.replicate 12 0) 0 = 479001600 := by
    rw [cnt_free 12 (Nat.two_pow_pos _) (left_zero 12)]
    decide
  refine ⟨c, ?_⟩
  have low : LowB (List.replicate 12 0) := fun w j hw hb => by
    have : (List.replicate 12 0).getD w 0 = 0 := by
      rw [List.getD_eq_getElem?_getD, List.getElem?_replicate]
      split <;> rfl
    rw [this] at hb
    simp at hb
  have h := ext_last low 12 (s := 0) (Nat.two_pow_pos _) (left_zero 12)
  have len := ext_len (ah := List.replicate 12 0) (s := 0) (Nat.two_pow_pos _)
  rw [c] at len
  rw [List.getLast?_eq_getElem?, len] at h
  have e : mostB (List.replicate 12 0) 12 0 = [11, 10, 9, 8, 7, 6, 5, 4, 3, 2, 1, 0] := by decide +kernel
  rw [e] at h
  exact h
theorem first_one {n : Nat} {ah : List Nat} (hn : ah.length = n) : ∀ (k w : Nat), w + k = n → numF ah (2 ^ w - 1) (List.range' w k) = 0
  | 0, _, _ => rfl
  | k + 1, w, h => by
    have em : (nextB ah (2 ^ w - 1)).filter (fun y => decide (y < w)) = [] := by
      rw [List.filter_eq_nil_iff]
      intro y hy z
      have z := of_decide_eq_true z
      obtain ⟨_, m2, _⟩ := mem_nextB.mp hy
      rw [Nat.testBit_two_pow_sub_one, decide_eq_false_iff_not] at m2
      exact m2 z
    have ep : putB (2 ^ w - 1) w = 2 ^ (w + 1) - 1 := by
      refine Nat.eq_of_testBit_eq fun j => ?_
      rw [put_bit, Nat.testBit_two_pow_sub_one, Nat.testBit_two_pow_sub_one, Bool.eq_iff_iff, Bool.or_eq_true, decide_eq_true_iff, decide_eq_true_iff, decide_eq_true_iff]
      omega
    rw [List.range'_succ]
    show (((nextB ah (2 ^ w - 1)).filter fun y => decide (y < w)).map fun y => cntF ah (putB (2 ^ w - 1) y)).sum + numF ah (putB (2 ^ w - 1) w) (List.range' (w + 1) k) = 0
    rw [em, ep, first_one hn k (w + 1) (by omega)]
    rfl
end HH
set_option maxHeartbeats 4000000
namespace HH
open PySem PySem.Spec PyProof.Rows L2 Evl RZ
theorem alike_4s {K : PySem.W.Frag} {H : Hp} {d : Nat} {a b : Addr} {x1 x2 x3 x4 y1 y2 y3 y4 : V} (h : SqL K H a [x1, x2, x3, x4]) (g : SqL K H b [y1, y2, y3, y4]) (h1 : Alike K H d x1 y1) (h2 : Alike K H d x2 y2) (h3 : Alike K H d x3 y3) (h4 : Alike K H d x4 y4) : Alike K H (d + 1) (.ref a) (.ref b) := .inr ⟨a, b, _, _, rfl, rfl, .inl ⟨h, g⟩, rfl, by show 4 ≤ 40000; decide, fun i u w hu hw => by
  match i, hu, hw with
  | 0, hu, hw => cases hu; cases hw; exact h1
  | 1, hu, hw => cases hu; cases hw; exact h2
  | 2, hu, hw => cases hu; cases hw; exact h3
  | 3, hu, hw => cases hu; cases hw; exact h4
  | i + 4, hu, _ => cases hu⟩
theorem alike_3s {K : PySem.W.Frag} {H : Hp} {d : Nat} {a b : Addr} {x1 x2 x3 y1 y2 y3 : V} (h : SqL K H a [x1, x2, x3]) (g : SqL K H b [y1, y2, y3]) (h1 : Alike K H d x1 y1) (h2 : Alike K H d x2 y2) (h3 : Alike K H d x3 y3) : Alike K H (d + 1) (.ref a) (.ref b) := .inr ⟨a, b, _, _, rfl, rfl, .inl ⟨h, g⟩, rfl, by show 3 ≤ 40000; decide, fun i u w hu hw => by
  match i, hu, hw with
  | 0, hu, hw => cases hu; cases hw; exact h1
  | 1, hu, hw => cases hu; cases hw; exact h2
  | 2, hu, hw => cases hu; cases hw; exact h3
  | i + 3, hu, _ => cases hu⟩
theorem alike_t2 {K : PySem.W.Frag} {H : Hp} {d : Nat} {a b : Addr} {i j : Int} (h : SqT K H a [.int i, .int j]) (g : SqT K H b [.int i, .int j]) : Alike K H (d + 2) (.ref a) (.ref b) := .inr ⟨a, b, _, _, rfl, rfl, .inr ⟨h, g⟩, rfl, by show 2 ≤ 40000; decide, fun k u w hu hw => by
  match k, hu, hw with
  | 0, hu, hw => cases hu; cases hw; exact .inl ⟨rfl, True.intro⟩
  | 1, hu, hw => cases hu; cases hw; exact .inl ⟨rfl, True.intro⟩
  | k + 2, hu, _ => cases hu⟩
theorem known_first {rs : HH.Row} {E B : List Cow} (tl : ∀ x ∈ rs, 0 ≤ x.2) (en : EndsOf rs E B) : (extF (ahOf E B rs) 0)[0]? = some (List.range rs.length) := by
  have hm : List.range rs.length ∈ extF (ahOf E B rs) 0 := by
    refine (ext_keeps tl en.sE en.nE en.sB en.nB).mpr ?_
    have := run_keeps tl (.nil : MRun (tag 0 rs) (tag 0 rs) [])
    rw [tag_ids] at this
    exact this
  obtain ⟨j, hj⟩ := List.getElem?_of_mem hm
  have al : (ahOf E B rs).length = rs.length := ahead_len _ _
  have h1 := num_at rs.length (ah := ahOf E B rs) (Nat.two_pow_pos _) (by rw [al]; exact left_zero _) hj
  have h2 := first_one al rs.length 0 (by omega)
  rw [← List.range_eq_range'] at h2
  have h2 : numF (ahOf E B rs) 0 (List.range rs.length) = 0 := h2
  rw [h2] at h1
  rw [← h1] at hj
  exact hj
def spKnownR (K : PySem.W.Frag) : Sp := fun vs H Q _ => ∃ (v : V) (rs : HH.Row) (n : Nat) (kt : HH.Row) (due l0 h0 l1 h1 : Nat) (fx sp a b : Addr) (fus : List V), vs = [v, .ref fx, .int (due : Int), .ref sp] ∧ RowAt K H v rs ∧ KnownR rs n kt due l0 h0 l1 h1 ∧ 0 < n ∧ n ≤ 9 ∧ 0 < due ∧ SqL K H fx fus ∧ Beasts K H fus kt ∧ SqL K H sp [.ref a, .ref b] ∧ SqT K H a [.int (l0 : Int), .int (h0 : Int)] ∧ SqT K H b [.int (l1 : Int), .int (h1 : Int)] ∧ ∀ H', Ex H H' → Q (.bl true) H'
end HH
set_option maxHeartbeats 4000000
namespace K26
open PySem PySem.Spec PyProof.Rows L2 Evl HH RZ
section
variable {P : Program} {w : World} {K : PySem.W.Frag} {mg : Str → Option Value} {base : Heap}
theorem ok_law_known {f f1 f2 f3 f4 f5 f6 f7 C1 : Addr} {fd fd1 fd2 fd3 fd4 fd5 fd6 fd7 : FuncData} (F : FnP K "_law_known" s_law_known f fd) (g : mg "_law_known" = some (.ref f)) (b : Binds K fd ["_law_pen", "_law_fixed", "_law_due", "_law_spans"] [])
    (h_kept_pairs : Has P w K mg base 4 "kept_pairs" ["row"] (spKept K) f1 fd1) (h_orders_many : Has P w K mg base 15 "orders_many" ["row"] (spMany K) f2 fd2) (h_span : Has P w K mg base 5 "span" ["row", "who"] (spSpan K) f3 fd3) (h_law_same : Has P w K mg base 4 "_law_same" ["_law_found", "_law_due"] (spSame K 4) f4 fd4) (h_order_at : HasX P w K mg base 15 "order_at" ["row", "number"] (spOrderX K C1) f5 fd5) (h_number_of : Has P w K mg base 15 "number_of" ["row", "order"] (spNumOf K) f6 fd6) (h_comes_to : Has P w K mg base 6 "comes_to" ["row", "order"] (spComes K) f7 fd7)
    (m_len : mg "len" = none) (m_range : mg "range" = none) (m_tuple : mg "tuple" = none) : Has P w K mg base 16 "_law_known" ["_law_pen", "_law_fixed", "_law_due", "_law_spans"] (spKnownR K) f fd := by
  refine ⟨F.ok sc_law_known (fun vs H Q E h => ?_) (fun cdv A outer s H vs Q E hr h => ?_), g, F.kp, b⟩
  · obtain ⟨v, rs, n, kt, due, l0, h0, l1, h1, fx, sp, a, b, fus, rfl, _⟩ := h
    rfl
  · obtain ⟨v, rs, n, kt, due, l0, h0, l1, h1, fx, sp, sa, sb, fus, rfl, hv, kn, n0, n9, d0, hfx, fbs, hsp, hsa, hsb, q⟩ := h
    refine ⟨_, PSs.nox (pss_cons (ps_set (i := 4) sc_law_known.nd rfl (.inl rfl) (pe_lst (pa_cons (pe_call h_kept_pairs.G (hr.mono (by decide)) (by rfl) h_kept_pairs.g h_kept_pairs.kp h_kept_pairs.b .nil pass0 (pa_cons (pv 0) pa_nil)) (pa_cons (pe_call h_orders_many.G (hr.mono (by decide)) (by rfl) h_orders_many.g h_orders_many.kp h_orders_many.b .nil pass0 (pa_cons (pv 0) pa_nil)) (pa_cons (pe_lst (pa_cons (pe_call h_span.G (hr.mono (by decide)) (by rfl) h_span.g h_span.kp h_span.b .nil pass0 (pa_cons (pv 0) (pa_cons pe_int pa_nil))) (pa_cons (pe_call h_span.G (hr.mono (by decide)) (by rfl) h_span.g h_span.kp h_span.b .nil pass0 (pa_cons (pv 0) (pa_cons (pe_op op_sub (pe_callB call_len_seq (by rfl) m_len PySem.boot_len (pa_cons (pv 0) pa_nil)) pe_int) pa_nil))) pa_nil))) pa_nil)))))
      (pss_cons (ps_if (pt_not (pt_val (pe_call h_law_same.G (hr.mono (by decide)) (by rfl) h_law_same.g h_law_same.kp h_law_same.b .nil pass0 (pa_cons (pv 4) (pa_cons (pe_lst (pa_cons (pv 1) (pa_cons (pv 2) (pa_cons (pv 3) pa_nil)))) pa_nil))))) (pss_one (ps_ret pe_bl)) pss_nil)
      (pss_cons (ps_set (i := 5) sc_law_known.nd rfl (.inl rfl) (pe_tupRgF rfl (by rfl) m_tuple (prg_1 (by rfl) m_range (pe_callB call_len_seq (by rfl) m_len PySem.boot_len (pa_cons (pv 0) pa_nil)))))
      (pss_cons (ps_set (i := 6) sc_law_known.nd rfl (.inl rfl) (pe_lst (pa_cons (pe_call h_order_at.G (hr.mono (by decide)) (by rfl) h_order_at.g h_order_at.kp h_order_at.b .nil _root_.L2.passL (pa_cons (pv 0) (pa_cons pe_int pa_nil))) (pa_cons (pe_call h_number_of.G (hr.mono (by decide)) (by rfl) h_number_of.g h_number_of.kp h_number_of.b .nil pass0 (pa_cons (pv 0) (pa_cons (pv 5) pa_nil))) (pa_cons (pe_call h_comes_to.G (hr.mono (by decide)) (by rfl) h_comes_to.g h_comes_to.kp h_comes_to.b .nil pass0 (pa_cons (pv 0) (pa_cons (pv 5) pa_nil))) (pa_cons (pe_call h_comes_to.G (hr.mono (by decide)) (by rfl) h_comes_to.g h_comes_to.kp h_comes_to.b .nil pass0 (pa_cons (pv 0) (pa_cons (pe_call h_order_at.G (hr.mono (by decide)) (by rfl) h_order_at.g h_order_at.kp h_order_at.b .nil _root_.L2.passL (pa_cons (pv 0) (pa_cons (pe_op op_sub (pv 2) pe_int) pa_nil))) pa_nil))) pa_nil))))))
      (pss_one (ps_ret (pe_call h_law_same.G (hr.mono (by decide)) (by rfl) h_law_same.g h_law_same.kp h_law_same.b .nil pass0 (pa_cons (pv 6) (pa_cons (pe_lst (pa_cons (pv 5) (pa_cons pe_int (pa_cons pe_bl (pa_cons pe_bl pa_nil))))) pa_nil))))))))), ?_⟩
    obtain ⟨ln, tl, ⟨E1, B1, en, ek⟩, cnt, s0, s1⟩ := kn
    subst ln
    have ek0 : keptT E1 B1 rs.length = kt := ek
    refine ⟨v, rfl, v, rs, rfl, hv, by omega, tl, fun kq us E2 B2 H1 sE2 nE2 sB2 nB2 hkq e1 gk bk => ?_⟩
    obtain ⟨rfl, rfl⟩ := kept_any tl en ⟨sE2, nE2, sB2, nB2⟩
    have bk : BeastsT H1 us kt := by rw [← ek0]; exact bk
    refine ⟨v, rfl, v, rs, E1, B1, rfl, hv.ex e1, by omega, tl, en, fun H2 e2 => ?_⟩
    have cnt' : cntF (ahOf E1 B1 rs) 0 = due := by
      show cntF (aheadF (keptT E1 B1 rs.length) rs.length) 0 = due
      rw [ek0]
      exact cnt
    rw [cnt']
    have e12 := e1.trans e2
    refine ⟨v, rfl, v, rs, E1, B1, 0, rfl, hv.ex e12, by omega, tl, en, n0, fun ta H3 hta e3 gta => ?_⟩
    have e13 := e12.trans e3
    refine ⟨v, rfl, ?_⟩
    refine (ev_is (ev_op (ev_lenR (K := K) (ev_var rfl) (hv.ex e13)) ev_c rv_I0) (by congr 1; omega) : Ev (tOp (rI0 fun i j => .int (i - j)) (tCB (rLenS K) (tCons (tVar 0) tNil)) (tC (.int 1))) [some v, some (.ref fx), some (.int (due : Int)), some (.ref sp), none, none, none] H3 (.int ((rs.length - 1 : Nat) : Int))) H3 (Ex.refl _) _ fun H4 e4 => ?_
    have e14 := e13.trans e4
    refine ⟨v, rs, E1, B1, rs.length - 1, rfl, hv.ex e14, by omega, tl, en, by omega, fun tb H5 htb e5 gtb => ?_⟩
    refine ⟨by show 2 ≤ sizeLine; decide, fun tc htc => ⟨by show 3 ≤ sizeLine; decide, fun td htd => ?_⟩⟩
    have n6 := Ex.new (o := .lst [V.ref ta, .ref tb]) htc
    have n7 := Ex.new (o := .lst [V.ref kq, .int (due : Int), .ref tc]) htd
    have g6 : (upd H5 tc (.lst [V.ref ta, .ref tb])) tc = some (.lst [V.ref ta, .ref tb]) := upd_same
    have g7 : (upd (upd H5 tc (.lst [V.ref ta, .ref tb])) td (.lst [V.ref kq, .int (due : Int), .ref tc])) td = some (.lst [V.ref kq, .int (due : Int), .ref tc]) := upd_same
    have e67 := n6.trans n7
    have g6 := n7 _ _ g6
    have gk7 := (((e2.trans e3).trans (e4.trans e5)).trans e67) _ _ gk
    have bk7 := BeastsT.ex' bk (((e2.trans e3).trans (e4.trans e5)).trans e67)
    have gta7 := ((e4.trans e5).trans e67) _ _ gta
    have gtb7 := e67 _ _ gtb
    have e17 : Ex H (upd (upd H5 tc (.lst [V.ref ta, .ref tb])) td (.lst [V.ref kq, .int (due : Int), .ref tc])) := (e14.trans e5).trans e67
    generalize upd (upd H5 tc (.lst [V.ref ta, .ref tb])) td (.lst [V.ref kq, .int (due : Int), .ref tc]) = H7 at g6 g7 gk7 bk7 gta7 gtb7 e17 ⊢
    try dsimp only
    refine g_at [some v, some (.ref fx), some (.int (due : Int)), some (.ref sp), some (.ref td), none, none] rfl ?_
    have lo0 : lowP E1 B1 rs.length 0 = l0 := by unfold lowP; rw [ek0]; exact s0.1
    have hi0 : highP E1 B1 rs.length 0 = h0 := by unfold highP; rw [ek0]; exact s0.2
    have lo1 : lowP E1 B1 rs.length (rs.length - 1) = l1 := by unfold lowP; rw [ek0]; exact s1.1
    have hi1 : highP E1 B1 rs.length (rs.length - 1) = h1 := by unfold highP; rw [ek0]; exact s1.2
    rw [lo0, hi0] at gta7
    rw [lo1, hi1] at gtb7
    have kl : kt.length ≤ 40000 := by
      have := kept_len E1 B1 (n := rs.length) (by omega)
      rw [ek0] at this
      omega
    have sm1 : Ev (tCall (spSame K 4) [] E0 (tCons (tVar 4) (tCons (tLst (tCons (tVar 1) (tCons (tVar 2) (tCons (tVar 3) tNil)))) tNil))) [some v, some (.ref fx), some (.int (due : Int)), some (.ref sp), some (.ref td), none, none] H7 (.bl true) := by
      intro H10 e10 Q10 k10
      refine ⟨_, rfl, _, rfl, _, rfl, _, rfl, by show 3 ≤ sizeLine; decide, fun c2 hc2 => ?_⟩
      have nn := Ex.new (o := .lst [V.ref fx, .int (due : Int), .ref sp]) hc2
      have eA := e10.trans nn
      have eB := e17.trans eA
      exact ⟨_, _, rfl, alike_3s (d := 3) (sq_of (eA _ _ g7)) (sq_of upd_same) (alike_pairs (sq_of (eA _ _ gk7)) (ex_l eB hfx) (BeastsT.be (BeastsT.ex' bk7 eA)) (fbs.ex eB) kl) (.inl ⟨rfl, True.intro⟩) (alike_two (d := 2) (sq_of (eA _ _ g6)) (ex_l eB hsp) (alike_t2 (d := 0) (st_of (eA _ _ gta7)) (ex_t eB hsa)) (alike_t2 (d := 0) (st_of (eA _ _ gtb7)) (ex_t eB hsb))), fun H12 e12 => k10 H12 (nn.trans e12)⟩
    refine q_when (b := false) (et_is (et_not (et_B sm1)) rfl) (fun z => by cases z) fun _ H8 e8 => ?_
    have e18 := e17.trans e8
    obtain ⟨a5, vs5, rfl, ta5, bs5⟩ := hv.ex e18
    have hv8 : RowAt K H8 (.ref a5) rs := ⟨a5, vs5, rfl, ta5, bs5⟩
    have erg : rgV 0 (vs5.length : Int) = natsV (List.range rs.length) := by
      rw [bs5.1]
      exact rg_nats _
    refine ⟨.ref a5, rfl, a5, vs5, rfl, .inr ta5, _, rfl, RgOk.of_le (by decide) (by rw [bs5.1]; omega) (by decide) (by omega), fun rt ro pt hrt => ?_⟩
    rw [erg]
    have n9' := Ex.new (o := .frz ro (.tup (natsV (List.range rs.length)))) hrt
    have gr9 : FrzT (upd H8 rt (.frz ro (.tup (natsV (List.range rs.length))))) rt (natsV (List.range rs.length)) := ⟨ro, pt, upd_same⟩
    have hv9 := hv8.ex n9'
    generalize upd H8 rt (.frz ro (.tup (natsV (List.range rs.length)))) = H9 at n9' gr9 hv9 ⊢
    try dsimp only
    refine g_at [some (.ref a5), some (.ref fx), some (.int (due : Int)), some (.ref sp), some (.ref td), some (.ref rt), none] rfl ?_
    have p0 : (0 : Nat) < 2 ^ (ahOf E1 B1 rs).length := Nat.two_pow_pos _
    have elen := ext_len p0
    rw [cnt'] at elen
    have hd0 := known_first tl en
    have hla : due - 1 < (extF (ahOf E1 B1 rs) 0).length := by omega
    have la0 := List.getElem?_eq_getElem hla
    have oe : ∀ {k k' : Nat} {l l' : List Nat}, (k : Int) = (k' : Int) → (extF (ahOf E1 B1 rs) 0)[k']? = some l' → (extF (ahOf E1 B1 rs) 0)[k]? = some l → l' = l := fun {k k' l l'} hk h h' => by
      have : k = k' := by omega
      subst this
      rw [h] at h'
      exact Option.some.inj h'
    have ox : ∀ {k : Nat} {l : List Nat}, (extF (ahOf E1 B1 rs) 0)[k]? = some l → (((k : Int) < 0 ∨ (cntF (ahOf E1 B1 rs) 0 : Int) ≤ (k : Int)) → False) := fun {k l} h z => by
      have := (List.getElem?_eq_some_iff.mp h).1
      rw [cnt'] at z
      omega
    have ids0 : (List.range rs.length).Perm (List.range rs.length) := .refl _
    have cO : ∀ {H : Hp} {o : Addr} {l : List Nat}, RowAt K H (.ref a5) rs → SqT K H o (natsV l) → l ∈ extF (ahOf E1 B1 rs) 0 → OrdAt K H (.ref a5) o rs l := fun {H o l} hr ho hl => ⟨hr, by omega, tl, ho, ((ext_keeps tl en.sE en.nE en.sB en.nB).mp hl).ids⟩
    have cB : ∀ {l : List Nat}, l ∈ extF (ahOf E1 B1 rs) 0 → (barF (E1.map (·.1)) (B1.map (·.1)) l rs.length).isNone = true := fun {l} hl => by
      rw [bar_none tl en ((ext_keeps tl en.sE en.nE en.sB en.nB).mp hl).ids]
      exact decide_eq_true hl
    refine ⟨.ref a5, rfl, .ref a5, rs, E1, B1, ((0 : Nat) : Int), rfl, hv9, by omega, tl, en, fun k' l' hk' hl' o1 H10 ho1 e10 g10 => ?_, fun z => (ox hd0 z).elim⟩
    have hl' := oe hk' hl' hd0
    subst hl'
    have hv10 := hv9.ex e10
    have gr10 := gr9.ex e10
    refine ⟨.ref a5, rfl, .ref rt, rfl, .ref a5, rt, rs, tag 0 rs, E1, B1, rfl, ⟨hv10, by omega, tl, by rw [tag_ids]; exact gr10.sq, [], .nil⟩, by omega, en, fun H11 e11 => ?_⟩
    have num0 : numF (ahOf E1 B1 rs) 0 ((tag 0 rs).map (·.1)) = 0 := by
      rw [tag_ids, List.range_eq_range']
      exact first_one (ahead_len _ _) rs.length 0 (by omega)
    rw [num0]
    have hv11 := hv10.ex e11
    have gr11 := gr10.ex e11
    refine ⟨.ref a5, rfl, .ref rt, rfl, .ref a5, rt, rs, _, E1, B1, rfl, cO hv11 gr11.sq (List.mem_of_getElem? hd0), en.sE, en.nE, en.sB, en.nB, fun H12 e12 => ?_⟩
    rw [cB (List.mem_of_getElem? hd0)]
    have hv12 := hv11.ex e12
    refine ⟨.ref a5, rfl, .ref a5, rfl, ?_⟩
    refine (ev_is (ev_op (ev_var rfl) ev_c rv_I0) (by congr 1; omega) : Ev (tOp (rI0 fun i j => .int (i - j)) (tVar 2) (tC (.int 1))) [some (.ref a5), some (.ref fx), some (.int (due : Int)), some (.ref sp), some (.ref td), some (.ref rt), none] H12 (.int ((due - 1 : Nat) : Int))) H12 (Ex.refl _) _ fun H13 e13' => ?_
    refine ⟨.ref a5, rs, E1, B1, ((due - 1 : Nat) : Int), rfl, hv12.ex e13', by omega, tl, en, fun k' l' hk' hl2 o2 H14 ho2 e14' g14 => ?_, fun z => (ox la0 z).elim⟩
    have hl3 := oe hk' hl2 la0
    subst hl3
    refine ⟨.ref a5, o2, rs, _, E1, B1, rfl, cO (hv12.ex (e13'.trans e14')) (st_of g14) (List.getElem_mem hla), en.sE, en.nE, en.sB, en.nB, fun H15 e15 => ?_⟩
    rw [cB (List.getElem_mem hla)]
    refine ⟨by show 4 ≤ sizeLine; decide, fun tz htz => ?_⟩
    have n16 := Ex.new (o := .lst [V.ref o1, .int ((0 : Nat) : Int), .bl true, .bl true]) htz
    have g16 : (upd H15 tz (.lst [V.ref o1, .int ((0 : Nat) : Int), .bl true, .bl true])) tz = some (.lst [V.ref o1, .int ((0 : Nat) : Int), .bl true, .bl true]) := upd_same
    have e1016 := (e11.trans e12).trans ((e13'.trans e14').trans (e15.trans n16))
    have g10' := e1016 _ _ g10
    have gr16 := gr10.ex e1016
    have e116 : Ex H _ := ((e18.trans n9').trans e10).trans e1016
    generalize upd H15 tz (.lst [V.ref o1, .int ((0 : Nat) : Int), .bl true, .bl true]) = H16 at g16 g10' gr16 e116 ⊢
    try dsimp only
    refine g_at [some (.ref a5), some (.ref fx), some (.int (due : Int)), some (.ref sp), some (.ref td), some (.ref rt), some (.ref tz)] rfl ?_
    refine s_ret (v := .bl true) (fun H17 e17' Q17 k17 => ?_) fun H17 e17' => q H17 (e116.trans e17')
    refine ⟨_, rfl, _, rfl, by show 4 ≤ sizeLine; decide, fun c2 hc2 => ?_⟩
    have nn := Ex.new (o := .lst [V.ref rt, .int 0, .bl true, .bl true]) hc2
    have eA := e17'.trans nn
    exact ⟨_, _, rfl, alike_4s (d := 3) (sq_of (eA _ _ g16)) (sq_of upd_same) (alike_ints (by rw [List.length_range]; omega) (st_of (eA _ _ g10')) (gr16.ex eA).sq).up (.inl ⟨rfl, True.intro⟩) (.inl ⟨rfl, True.intro⟩) (.inl ⟨rfl, True.intro⟩), fun H19 e19 => k17 H19 (nn.trans e19)⟩
end
end K26
set_option maxHeartbeats 4000000
namespace HH
open PySem PySem.Spec PyProof.Rows L2 Evl RZ
theorem go_yes {σ : L2.St} {H : Hp} {Q : Bool → Hp → Prop} (h : Q true H) : tYes σ H Q := h
theorem c_then2 {ta : TE} {k : V → Hp → VK → Prop} {σ : L2.St} {H : Hp} {Q : VK} (h : ta σ H fun x H1 => k x H1 Q) : tThen ta k σ H Q := h
section
variable {K : PySem.W.Frag} {σ : L2.St} {H : Hp}
theorem er_range {f g : Nat → Int} {ta : TA} {t1 t2 : TE} {n j : Nat} {vs : List Nat} (ha : EvA ta σ H [.int (n : Int)]) (hn : n ≤ 100) (hw : ∀ x, wipe ((wipe σ vs).set j (some x)) vs = wipe σ vs)
    (h1 : ∀ (i : Nat) (H1 : Hp), i < n → Ev t1 ((wipe σ vs).set j (some (.int (i : Int)))) H1 (.int (f i))) (h2 : ∀ (i : Nat) (H1 : Hp), i < n → Ev t2 ((wipe σ vs).set j (some (.int (i : Int)))) H1 (.int (g i))) :
    EvR K (tThen (tLc (iRng1 ta) (gName j) tYes (tTup (tCons t1 (tCons t2 tNil))) vs) (kTup K)) σ H (rowN n f g) := fun H0 e0 Q q => by
  refine c_then2 ?_
  refine ha H0 e0 _ fun H1 e1 => ⟨(n : Int), rfl, by omega, by omega, fun Dl hDl => ?_⟩
  refine in_it walk_range (fun i H4 => Ex H1 H4 ∧ ∃ us, H4 Dl = some (.lst us) ∧ BeastsT H4 us (rowN i f g)) ⟨Ex.new hDl, [], upd_same, All2.nil⟩ (fun _ _ _ _ => True.intro) (fun i x H4 H5 hi p y => ?_) (fun H4 p => ?_)
  · obtain ⟨rfl, hx⟩ := y
    have hx : x = V.int ((0 : Int) + (i : Int)) := hx
    rw [Int.zero_add] at hx
    subst hx
    have hi : i < n := by omega
    obtain ⟨r1, us, r2, r3⟩ := p
    refine ⟨hw _, ?_⟩
    refine go_yes ?_
    refine (h1 i H5 hi) H5 (Ex.refl _) _ fun H6 e6 => (h2 i H6 hi) H6 (Ex.refl _) _ fun H7 e7 => ⟨by show 2 ≤ sizeLine; decide, fun T hT => ?_⟩
    have n8 := Ex.new (o := .tup [V.int (f i), .int (g i)]) hT
    have gT : (upd H7 T (.tup [V.int (f i), .int (g i)])) T = some (.tup [V.int (f i), .int (g i)]) := upd_same
    have e58 := (e6.trans e7).trans n8
    generalize upd H7 T (.tup [V.int (f i), .int (g i)]) = H8 at n8 gT e58 ⊢
    have gD8 := e58 _ _ r2
    have ul := All2.len r3
    rw [rowN_len] at ul
    refine ⟨us, gD8, sz_lt (by omega), Ex.mut (r1.trans e58) hDl, us ++ [.ref T], upd_same, ?_⟩
    rw [rowN_succ]
    exact All2.app (BeastsT.exB' (BeastsT.ex' r3 e58) (ExB.refl _ _).upd gD8) (.cons ⟨T, rfl, (ExB.refl Dl H8).upd _ _ (fun z => by rw [z, gD8] at gT; cases gT) gT⟩ .nil)
  · obtain ⟨r1, us, r2, r3⟩ := p
    rw [Int.toNat_natCast] at r3
    refine .inl ⟨Dl, us, rfl, sq_of r2, fun T hT => ?_⟩
    have nT := Ex.new (o := .tup us) hT
    exact q _ _ ((e1.trans r1).trans nT) ⟨T, us, rfl, st_of upd_same, BeastsT.be (BeastsT.ex' r3 nT)⟩
theorem ev_spans {t1 t2 t3 t4 : TE} {a b c d : Int} (h1 : ∀ H1, Ev t1 σ H1 (.int a)) (h2 : ∀ H1, Ev t2 σ H1 (.int b)) (h3 : ∀ H1, Ev t3 σ H1 (.int c)) (h4 : ∀ H1, Ev t4 σ H1 (.int d)) : ∀ H0, Ex H H0 → ∀ Q : VK, (∀ (sp x y : Addr) (H2 : Hp), Ex H0 H2 → H2 sp = some (.lst [.ref x, .ref y]) → H2 x = some (.tup [.int a, .int b]) → H2 y = some (.tup [.int c, .int d]) → Q (.ref sp) H2) → (tLst (tCons (tTup (tCons t1 (tCons t2 tNil))) (tCons (tTup (tCons t3 (tCons t4 tNil))) tNil))) σ H0 Q := fun H0 e0 Q q =>
  (h1 H0) H0 (Ex.refl _) _ fun H1 e1 => (h2 H1) H1 (Ex.refl _) _ fun H2 e2 => ⟨by show 2 ≤ sizeLine; decide, fun x hx => (h3 _) _ (Ex.refl _) _ fun H3 e3 => (h4 H3) H3 (Ex.refl _) _ fun H4 e4 => ⟨by show 2 ≤ sizeLine; decide, fun y hy => ⟨by show 2 ≤ sizeLine; decide, fun sp hsp => by
    have n1 := Ex.new (o := .tup [V.int a, .int b]) hx
    have n2 := Ex.new (o := .tup [V.int c, .int d]) hy
    have n3 := Ex.new (o := .lst [V.ref x, .ref y]) hsp
    exact q sp x y _ ((e1.trans e2).trans (n1.trans ((e3.trans e4).trans (n2.trans n3)))) upd_same (((e3.trans e4).trans (n2.trans n3)) _ _ upd_same) (n3 _ _ upd_same)⟩⟩⟩
theorem ev_known {tp tf td t1 t2 t3 t4 : TE} {E : XK} {rs : HH.Row} {n : Nat} {kt : HH.Row} {due l0 h0 l1 h1 : Nat} (hp : ∀ H1, Ex H H1 → ∀ Q : VK, (∀ v H2, Ex H1 H2 → RowAt K H2 v rs → Q v H2) → tp σ H1 Q) (kn : KnownR rs n kt due l0 h0 l1 h1) (n0 : 0 < n) (n9 : n ≤ 9) (d0 : 0 < due)
    (hf : ∀ H1, Ex H H1 → Src K (BeastAt K) tf σ H1 kt) (hd : ∀ H1, Ev td σ H1 (.int (due : Int))) (e1 : ∀ H1, Ev t1 σ H1 (.int (l0 : Int))) (e2 : ∀ H1, Ev t2 σ H1 (.int (h0 : Int))) (e3 : ∀ H1, Ev t3 σ H1 (.int (l1 : Int))) (e4 : ∀ H1, Ev t4 σ H1 (.int (h1 : Int))) :
    Ev (tCall (spKnownR K) [] E (tCons tp (tCons tf (tCons td (tCons (tLst (tCons (tTup (tCons t1 (tCons t2 tNil))) (tCons (tTup (tCons t3 (tCons t4 tNil))) tNil))) tNil))))) σ H (.bl true) := fun H0 x0 Q q =>
  hp H0 x0 _ fun v H1 x1 hv => hf H1 (x0.trans x1) H1 (Ex.refl _) _ fun fx fus H2 x2 sq bs => (hd H2) H2 (Ex.refl _) _ fun H3 x3 => ev_spans (H := H3) e1 e2 e3 e4 H3 (Ex.refl _) _ fun sp a b H4 x4 gs ga gb =>
    ⟨v, rs, n, kt, due, l0, h0, l1, h1, fx, sp, a, b, fus, rfl, hv.ex ((x2.trans x3).trans x4), kn, n0, n9, d0, sq H4 (x3.trans x4), all2_b ((stb_B K).all (x3.trans x4) bs), sq_of gs, st_of ga, st_of gb, fun H5 x5 => q H5 ((x1.trans (x2.trans x3)).trans (x4.trans x5))⟩
theorem eb_pair {t1 t2 : TE} {a b : Int} (h1 : ∀ H1, Ev t1 σ H1 (.int a)) (h2 : ∀ H1, Ev t2 σ H1 (.int b)) : EvB K (tTup (tCons t1 (tCons t2 tNil))) σ H (a, b) := fun H0 e0 Q q =>
  (h1 H0) H0 (Ex.refl _) _ fun H1 e1 => (h2 H1) H1 (Ex.refl _) _ fun H2 e2 => ⟨by show 2 ≤ sizeLine; decide, fun x hx => q _ _ ((e1.trans e2).trans (Ex.new hx)) ⟨x, rfl, st_of upd_same⟩⟩
theorem er_four {t1 t2 t3 t4 : TE} {b1 b2 b3 b4 : Int × Int} (h1 : ∀ H1, EvB K t1 σ H1 b1) (h2 : ∀ H1, EvB K t2 σ H1 b2) (h3 : ∀ H1, EvB K t3 σ H1 b3) (h4 : ∀ H1, EvB K t4 σ H1 b4) : EvR K (tTup (tCons t1 (tCons t2 (tCons t3 (tCons t4 tNil))))) σ H [b1, b2, b3, b4] := fun H0 e0 Q q =>
  h1 H0 H0 (Ex.refl _) _ fun v1 H1 e1 g1 => h2 H1 H1 (Ex.refl _) _ fun v2 H2 e2 g2 => h3 H2 H2 (Ex.refl _) _ fun v3 H3 e3 g3 => h4 H3 H3 (Ex.refl _) _ fun v4 H4 e4 g4 => ⟨by show 4 ≤ sizeLine; decide, fun x hx => by
    have n := Ex.new (o := .tup [v1, v2, v3, v4]) hx
    have e23 := e2.trans (e3.trans (e4.trans n))
    refine q _ _ (e1.trans e23) ⟨x, _, rfl, st_of upd_same, all2_b (.cons (g1.ex e23) (.cons (g2.ex (e3.trans (e4.trans n))) (.cons (g3.ex (e4.trans n)) (.cons (g4.ex n) .nil))))⟩⟩
theorem er_repA {ta tb : TE} {b : Int × Int} {n : Nat} (h1 : EvR K ta σ H [b]) (h2 : ∀ H1, Ev tb σ H1 (.int (n : Int))) (h0 : 0 < n) (hn : n ≤ 1000) : EvR K (tOp (rRepA K) ta tb) σ H (List.replicate n b) := fun H1 e1 Q q =>
  h1 H1 e1 _ fun v H2 e2 hv => (h2 H2) H2 (Ex.refl _) _ fun H3 e3 => rep_row (hv.ex e3) h0 hn fun z H4 e4 hz => q z H4 ((e2.trans e3).trans e4) hz
theorem all_pairs4 : ∀ m, m ≤ 8 → 0 < m → (tabP (fun _ _ => true) m m ++ [((0 : Int), (m : Int))]).Perm (tabP (fun i k => decide (i + 1 + k < m) || decide (i = 0)) (m + 1) (m + 1)) := by decide +kernel
end
end HH
set_option maxHeartbeats 4000000
namespace K26
open PySem PySem.Spec PyProof.Rows L2 Evl HH RZ
section
variable {P : Program} {w : World} {K : PySem.W.Frag} {mg : Str → Option Value} {base : Heap}
theorem c_op0 {r : R2} {ta tb : TE} {σ : L2.St} {H : Hp} {Q : VK} (h : ta σ H fun x H1 => tb σ H1 fun y H2 => r x y H2 Q) : tOp r ta tb σ H Q := h
theorem ok_law_right {f f1 f2 f3 f4 : Addr} {fd fd1 fd2 fd3 fd4 : FuncData} (F : FnP K "_law_right" s_law_right f fd) (g : mg "_law_right" = some (.ref f)) (b : Binds K fd ["_law_box"] [])
    (h_law_take : Has P w K mg base 1 "_law_take" ["_law_box", "_law_many"] spTake f1 fd1) (h_law_of : Has P w K mg base 2 "_law_of" ["_law_box", "_law_pool"] (spOf K) f2 fd2) (h_law_known : Has P w K mg base 16 "_law_known" ["_law_pen", "_law_fixed", "_law_due", "_law_spans"] (spKnownR K) f3 fd3) (h_law_pairs : Has P w K mg base 1 "_law_pairs" ["_law_many"] (spAllPairs K) f4 fd4)
    (m_range : mg "range" = none) (m_tuple : mg "tuple" = none) (m_sorted : mg "sorted" = none) : Has P w K mg base 17 "_law_right" ["_law_box"] spRight f fd := by
  refine ⟨F.ok sc_law_right (fun vs H Q E h => ?_) (fun cdv A outer s H vs Q E hr h => ?_), g, F.kp, b⟩
  · obtain ⟨p, rfl, _⟩ := h
    rfl
  · obtain ⟨p, rfl, hb, q⟩ := h
    refine ⟨_, PSs.nox (pss_cons (ps_asg (pe_tup (pa_cons (pe_op op_add pe_int (pe_call h_law_take.G (hr.mono (by decide)) (by rfl) h_law_take.g h_law_take.kp h_law_take.b .nil pass0 (pa_cons (pv 0) (pa_cons pe_int pa_nil)))) (pa_cons (pe_call h_law_of.G (hr.mono (by decide)) (by rfl) h_law_of.g h_law_of.kp h_law_of.b .nil pass0 (pa_cons (pv 0) (pa_cons (pe_lst (pa_cons pe_int (pa_cons (pe_un un_neg pe_int) (pa_cons (pe_op op_pow pe_int pe_int) pa_nil)))) pa_nil))) (pa_cons (pe_call h_law_of.G (hr.mono (by decide)) (by rfl) h_law_of.g h_law_of.kp h_law_of.b .nil pass0 (pa_cons (pv 0) (pa_cons (pe_lst (pa_cons pe_int (pa_cons pe_int (pa_cons pe_int pa_nil)))) pa_nil))) pa_nil)))) (pg_tup rfl (pgs_cons (pg_name (i := 1) sc_law_right.nd rfl (Or.inl rfl)) (pgs_cons (pg_name (i := 2) sc_law_right.nd rfl (Or.inr rfl)) (pgs_cons (pg_name (i := 3) sc_law_right.nd rfl (Or.inr rfl)) pgs_nil)))))
      (pss_cons (ps_par (i := 4) (j := 5) (by rfl) sc_law_right.nd rfl rfl (by decide) rfl rfl (pa_cons (pe_op op_sub (pv 1) pe_int) (pa_cons pe_int pa_nil)) (by rfl))
      (pss_cons (ps_for PassesOwn.never rfl (pi_range1 (by rfl) m_range (pa_cons (pv 1) pa_nil)) (pg_name (i := 6) sc_law_right.nd rfl (Or.inl rfl))
        (pss_one (ps_set (i := 5) sc_law_right.nd rfl (.inl rfl) (pe_op op_mul (pv 5) (pe_op op_add (pv 6) pe_int)))))
      (pss_cons (ps_set (i := 7) sc_law_right.nd rfl (.inl rfl) (pe_tupleOf (by rfl) m_tuple (pe_lc (own := [("_law_k", 6)]) (g := gName 6) (by rfl) sc_law_right.nd (pi_range1 (by rfl) m_range (pa_cons (pv 1) pa_nil)) (blkOk_by (own := [("_law_k", 6)]) (N := ["_law_box", "_law_many", "_law_low", "_law_by", "_law_last_at", "_law_count", "_law_k", "_law_stair", "_law_asks", "_law_step", "_law_pen", "_law_fixed"]) (sc := defScope s_law_right) (by decide +kernel)) (fun _ _ _ _ _ => (pg_name (i := 6) sc_law_right.nd rfl (Or.inl rfl))) (fun _ _ _ _ _ => pts_nil) (fun _ _ _ _ _ => (pe_tup (pa_cons (pe_op op_add (pv 2) (pe_op op_mul (pv 3) (pv 6))) (pa_cons pe_int pa_nil)))))))
      (pss_cons (ps_if (pt_not (pt_val (pe_call h_law_known.G (hr.mono (by decide)) (by rfl) h_law_known.g h_law_known.kp h_law_known.b .nil pass0 (pa_cons (pv 7) (pa_cons (pe_lst pa_nil) (pa_cons (pv 5) (pa_cons (pe_lst (pa_cons (pe_tup (pa_cons pe_int (pa_cons (pv 4) pa_nil))) (pa_cons (pe_tup (pa_cons pe_int (pa_cons (pv 4) pa_nil))) pa_nil))) pa_nil))))))) (pss_one (ps_ret pe_bl)) pss_nil)
      (pss_cons (ps_for PassesOwn.never rfl (pi_tup (pe_tup (pa_cons (pe_tup (pa_cons pe_int (pa_cons pe_int pa_nil))) (pa_cons (pe_tup (pa_cons (pv 3) (pa_cons (pv 3) pa_nil))) (pa_cons (pe_tup (pa_cons (pe_op op_add (pv 3) pe_int) (pa_cons (pv 3) pa_nil))) (pa_cons (pe_tup (pa_cons (pe_op op_mul pe_int (pv 3)) (pa_cons (pv 3) pa_nil))) pa_nil)))))) (pg_tup rfl (pgs_cons (pg_name (i := 8) sc_law_right.nd rfl (Or.inr rfl)) (pgs_cons (pg_name (i := 9) sc_law_right.nd rfl (Or.inr rfl)) pgs_nil)))
        (pss_cons (ps_set (i := 10) sc_law_right.nd rfl (.inl rfl) (pe_tupleOf (by rfl) m_tuple (pe_lc (own := [("_law_k", 6)]) (g := gName 6) (by rfl) sc_law_right.nd (pi_range1 (by rfl) m_range (pa_cons (pv 1) pa_nil)) (blkOk_by (own := [("_law_k", 6)]) (N := ["_law_box", "_law_many", "_law_low", "_law_by", "_law_last_at", "_law_count", "_law_k", "_law_stair", "_law_asks", "_law_step", "_law_pen", "_law_fixed"]) (sc := defScope s_law_right) (by decide +kernel)) (fun _ _ _ _ _ => (pg_name (i := 6) sc_law_right.nd rfl (Or.inl rfl))) (fun _ _ _ _ _ => pts_nil) (fun _ _ _ _ _ => (pe_tup (pa_cons (pe_op op_add (pv 2) (pe_op op_mul (pv 9) (pv 6))) (pa_cons (pv 8) pa_nil)))))))
      (pss_one (ps_if (pt_not (pt_val (pe_call h_law_known.G (hr.mono (by decide)) (by rfl) h_law_known.g h_law_known.kp h_law_known.b .nil pass0 (pa_cons (pv 10) (pa_cons (pe_call h_law_pairs.G (hr.mono (by decide)) (by rfl) h_law_pairs.g h_law_pairs.kp h_law_pairs.b .nil pass0 (pa_cons (pv 1) pa_nil)) (pa_cons pe_int (pa_cons (pe_lst (pa_cons (pe_tup (pa_cons pe_int (pa_cons pe_int pa_nil))) (pa_cons (pe_tup (pa_cons (pv 4) (pa_cons (pv 4) pa_nil))) pa_nil))) pa_nil))))))) (pss_one (ps_ret pe_bl)) pss_nil))))
      (pss_cons (ps_set (i := 10) sc_law_right.nd rfl (.inl rfl) (pe_op op_catA (pe_op op_repA (pe_tup (pa_cons (pe_tup (pa_cons (pv 2) (pa_cons (pv 3) pa_nil))) pa_nil)) (pv 4)) (pe_tup (pa_cons (pe_tup (pa_cons (pe_op op_add (pe_op op_add (pv 2) (pe_op op_mul (pv 3) (pv 4))) pe_int) (pa_cons pe_int pa_nil))) pa_nil))))
      (pss_cons (ps_if (pt_not (pt_val (pe_call h_law_known.G (hr.mono (by decide)) (by rfl) h_law_known.g h_law_known.kp h_law_known.b .nil pass0 (pa_cons (pv 10) (pa_cons (pe_call h_law_pairs.G (hr.mono (by decide)) (by rfl) h_law_pairs.g h_law_pairs.kp h_law_pairs.b .nil pass0 (pa_cons (pv 4) pa_nil)) (pa_cons (pv 1) (pa_cons (pe_lst (pa_cons (pe_tup (pa_cons pe_int (pa_cons pe_int pa_nil))) (pa_cons (pe_tup (pa_cons pe_int (pa_cons (pv 4) pa_nil))) pa_nil))) pa_nil))))))) (pss_one (ps_ret pe_bl)) pss_nil)
      (pss_cons (ps_set (i := 10) sc_law_right.nd rfl (.inl rfl) (pe_op op_catA (pe_op op_repA (pe_tup (pa_cons (pe_tup (pa_cons (pv 2) (pa_cons (pv 3) pa_nil))) pa_nil)) (pv 4)) (pe_tup (pa_cons (pe_tup (pa_cons (pe_op op_add (pv 2) (pe_op op_mul (pv 3) (pv 4))) (pa_cons pe_int pa_nil))) pa_nil))))
      (pss_cons (ps_set (i := 11) sc_law_right.nd rfl (.inl rfl) (pe_callB cr_sortedPTK (by rfl) m_sorted (by decide +kernel) (pa_cons (pe_op op_cat (pe_call h_law_pairs.G (hr.mono (by decide)) (by rfl) h_law_pairs.g h_law_pairs.kp h_law_pairs.b .nil pass0 (pa_cons (pv 4) pa_nil)) (pe_lst (pa_cons (pe_tup (pa_cons pe_int (pa_cons (pv 4) pa_nil))) pa_nil))) pa_nil)))
      (pss_one (ps_ret (pe_call h_law_known.G (hr.mono (by decide)) (by rfl) h_law_known.g h_law_known.kp h_law_known.b .nil pass0 (pa_cons (pv 10) (pa_cons (pv 11) (pa_cons (pv 4) (pa_cons (pe_lst (pa_cons (pe_tup (pa_cons pe_int (pa_cons pe_int pa_nil))) (pa_cons (pe_tup (pa_cons pe_int (pa_cons (pv 4) pa_nil))) pa_nil))) pa_nil))))))))))))))))), ?_⟩
    have nlp : ∀ {H : Hp} {l : Addr} {n : Nat}, Bx H p n → H l = none → l ≠ p := fun {H l n} hb hl z => by
      obtain ⟨bl, hbl⟩ := hb.lst
      rw [z, hbl] at hl
      cases hl
    refine c_op0 ?_
    refine ⟨.ref p, rfl, p, 8, 0, rfl, by decide, by decide, hb, by show 0 < Lim; exact lim_ok (by decide), fun r H1 r0 r8 x1 b1 => ?_⟩
    refine ⟨_, _, rfl, rfl, ?_⟩
    obtain ⟨m, hm, m0, m8⟩ : ∃ m : Nat, (2 : Int) + r = ((m + 1 : Nat) : Int) ∧ 0 < m ∧ m ≤ 8 := ⟨(r + 1).toNat, by omega, by omega, by omega⟩
    try dsimp only
    rw [hm]
    refine ⟨.ref p, rfl, ?_⟩
    refine (el_lst (ea_cons ev_c (ea_cons (ev_un ev_c (fun H _ Q q => ⟨_, rfl, q H (Ex.refl _)⟩)) (ea_cons (ev_op ev_c ev_c (rv_I ⟨by decide, by decide, by decide⟩)) ea_nil))) (by show 3 ≤ 100000; decide) : EvL (tLst (tCons (tC (.int 0)) (tCons (tUn (rU fun i => .int (-i)) (tC (.int 7))) (tCons (tOp (rI CPow fun i j => .int (i ^ j.toNat)) (tC (.int 10)) (tC (.int 9))) tNil)))) (L2.start ["_law_box", "_law_many", "_law_low", "_law_by", "_law_last_at", "_law_count", "_law_k", "_law_stair", "_law_asks", "_law_step", "_law_pen", "_law_fixed"] [V.ref p]) H1 [.int 0, .int (-7), .int (10 ^ (9 : Int).toNat)]) H1 (Ex.refl _) _ fun la H2 hla e2 g2 => ?_
    refine ⟨p, la, _, 1, rfl, sq_of g2, by show 0 < 3; decide, by show 3 < 100000; decide, nlp b1 hla, b1.ex e2, lim_ok (by decide), fun k2 xl H3 hk2 x3 b3 => ?_⟩
    obtain ⟨low, rfl⟩ : ∃ low : Int, xl = .int low := by
      match k2, hk2 with
      | 0, hk2 => cases hk2; exact ⟨_, rfl⟩
      | 1, hk2 => cases hk2; exact ⟨_, rfl⟩
      | 2, hk2 => cases hk2; exact ⟨_, rfl⟩
      | k2 + 3, hk2 => cases hk2
    refine ⟨.ref p, rfl, ?_⟩
    refine (el_lst (ea_cons ev_c (ea_cons ev_c (ea_cons ev_c ea_nil))) (by show 3 ≤ 100000; decide) : EvL (tLst (tCons (tC (.int 1)) (tCons (tC (.int 3)) (tCons (tC (.int 1000)) tNil)))) (L2.start ["_law_box", "_law_many", "_law_low", "_law_by", "_law_last_at", "_law_count", "_law_k", "_law_stair", "_law_asks", "_law_step", "_law_pen", "_law_fixed"] [V.ref p]) H3 [.int 1, .int 3, .int 1000]) H3 (Ex.refl _) _ fun lb H4 hlb e4 g4 => ?_
    refine ⟨p, lb, _, 2, rfl, sq_of g4, by show 0 < 3; decide, by show 3 < 100000; decide, nlp b3 hlb, b3.ex e4, lim_ok (by decide), fun k3 xb H5 hk3 x5 b5 => ?_⟩
    obtain ⟨by', rfl, bp, bq⟩ : ∃ b' : Int, xb = .int b' ∧ 0 < b' ∧ b' ≤ 1000 := by
      match k3, hk3 with
      | 0, hk3 => cases hk3; exact ⟨_, rfl, by decide, by decide⟩
      | 1, hk3 => cases hk3; exact ⟨_, rfl, by decide, by decide⟩
      | 2, hk3 => cases hk3; exact ⟨_, rfl, by decide, by decide⟩
      | k3 + 3, hk3 => cases hk3
    refine ⟨by show 3 ≤ sizeLine; decide, fun tt htt => ?_⟩
    have n6 := Ex.new (o := .tup [V.int ((m + 1 : Nat) : Int), .int low, .int by']) htt
    have g6 : (upd H5 tt (.tup [V.int ((m + 1 : Nat) : Int), .int low, .int by'])) tt = some (.tup [V.int ((m + 1 : Nat) : Int), .int low, .int by']) := upd_same
    have x06 : ExB p H (upd H5 tt (.tup [V.int ((m + 1 : Nat) : Int), .int low, .int by'])) := (((x1.trans (.of e2)).trans x3).trans (.of e4)).trans (x5.trans (.of n6))
    generalize upd H5 tt (.tup [V.int ((m + 1 : Nat) : Int), .int low, .int by']) = H6 at n6 g6 x06 ⊢
    refine ⟨tt, _, rfl, st_of g6, rfl, _, _, rfl, _, _, rfl, _, _, rfl, rfl, ?_⟩
    try dsimp only
    refine s_at [some (.ref p), some (.int ((m + 1 : Nat) : Int)), some (.int low), some (.int by'), none, none, none, none, none, none, none, none] rfl ?_
    clear x5 x3 x1 b5 b3 b1 g2 g4 e2 e4 n6 g6 hb nlp
    refine q_par2 ?_
    refine ⟨_, rfl, _, _, rfl, rfl, _, _, rfl, ?_⟩
    try dsimp only
    refine s_at [some (.ref p), some (.int ((m + 1 : Nat) : Int)), some (.int low), some (.int by'), some (.int (m : Int)), some (.int ((1 : Nat) : Int)), none, none, none, none, none, none] (by show [some (V.ref p), some (V.int ((m + 1 : Nat) : Int)), some (V.int low), some (V.int by'), some (V.int (((m + 1 : Nat) : Int) - 1)), some (V.int 1), none, none, none, none, none, none] = _; rw [show ((m + 1 : Nat) : Int) - 1 = (m : Int) by omega]; rfl) ?_
    have fB : ∀ k, k ≤ 9 → facB k ≤ 362880 := by decide
    refine q_forR1 (n := ((m + 1 : Nat) : Int)) (ea_cons (ev_var rfl) ea_nil) (by omega) (fun i σ' H' => ∃ (y6 : Option V), σ' = [some (.ref p), some (.int ((m + 1 : Nat) : Int)), some (.int low), some (.int by'), some (.int (m : Int)), some (.int (facB i : Int)), y6, none, none, none, none, none] ∧ Ex H6 H') (fun H7 e7 => ⟨_, rfl, e7⟩) (fun i σ' H7 hi hW => ?_) (fun σ' H7 hW => ?_)
    · obtain ⟨y6, rfl, e7⟩ := hW
      refine s_at [some (.ref p), some (.int ((m + 1 : Nat) : Int)), some (.int low), some (.int by'), some (.int (m : Int)), some (.int (facB i : Int)), some (.int (i : Int)), none, none, none, none, none] rfl ?_
      have fi := fB i (by omega)
      refine s_asg (v := .int (facB (i + 1) : Int)) (ev_is (ev_op (ev_var rfl) (ev_op (ev_var rfl) ev_c rv_I0) (rv_I (.inl ⟨by omega, by omega⟩))) (by
        show V.int ((facB i : Int) * ((i : Int) + 1)) = V.int (((i + 1) * facB i : Nat) : Int)
        congr 1
        rw [Int.natCast_mul, Int.mul_comm]
        rfl)) fun H8 e8 => ⟨_, rfl, e7.trans e8⟩
    obtain ⟨y6, rfl, e7⟩ := hW
    rw [Int.toNat_natCast]
    have fP : ∀ k, k ≤ 9 → 0 < facB k := by decide
    have cI : ∀ (σ : _root_.L2.St) (H1 : Hp) (k : Nat), Ev (tC (.int (k : Int))) σ H1 (.int (k : Int)) := fun σ H1 k => ev_c
    have pairsE : ∀ (σ : _root_.L2.St) (j k : Nat), σ[j]? = some (some (.int (k : Int))) → k ≤ 9 → ∀ H1, EvPr PairT (tCall (spAllPairs K) [] E0 (tCons (tVar j) tNil)) σ H1 (tabP (fun _ _ => true) k k) := fun σ j k hj hk H1 H2 e2 Q q =>
      ⟨_, hj, k, rfl, by omega, fun a us H3 ha e3 g3 bs => q a us H3 ha e3 g3 bs⟩
    try dsimp only
    refine q_run ?_
    refine (er_range (K := K) (σ := [some (.ref p), some (.int ((m + 1 : Nat) : Int)), some (.int low), some (.int by'), some (.int (m : Int)), some (.int (facB (m + 1) : Int)), y6, none, none, none, none, none]) (j := 6) (vs := [6]) (n := m + 1) (f := fun i => low + by' * (i : Int)) (g := fun _ => 0) (ea_cons (ev_var rfl) ea_nil) (by omega) (fun x => rfl) (fun i H1 hi => ev_op (ev_var rfl) (ev_op (ev_var rfl) (ev_var rfl) (rv_I (.inl ⟨by omega, by omega⟩))) rv_I0) (fun i H1 hi => ev_c)) H7 (Ex.refl _) _ fun v7 H8 e8 hv8 => ?_
    refine s_at [some (.ref p), some (.int ((m + 1 : Nat) : Int)), some (.int low), some (.int by'), some (.int (m : Int)), some (.int (facB (m + 1) : Int)), y6, some v7, none, none, none, none] rfl ?_
    refine q_when (b := false) (et_is (et_not (et_B (ev_known (K := K) (rs := rowN (m + 1) (fun i => low + by' * (i : Int)) fun _ => 0) (n := m + 1) (kt := []) (due := facB (m + 1)) (l0 := 0) (h0 := m) (l1 := 0) (h1 := m) (er_val (ev_var rfl) hv8) (known1 bp (by omega)) (by omega) (by omega) (fP _ (by omega)) (fun H1 e1 => src_new fun H2 e2 Q q => ⟨by show 0 ≤ sizeLine; decide, fun l hl => q l [] _ hl (Ex.new hl) upd_same .nil⟩) (fun H1 => ev_var rfl) (fun H1 => cI _ H1 0) (fun H1 => ev_var rfl) (fun H1 => cI _ H1 0) (fun H1 => ev_var rfl)))) rfl) (fun z => by cases z) fun _ H9 e9 => ?_
    have e69 := e7.trans (e8.trans e9)
    have bb : ∀ (H1 : Hp), Ev (tVar 3) [some (.ref p), some (.int ((m + 1 : Nat) : Int)), some (.int low), some (.int by'), some (.int (m : Int)), some (.int (facB (m + 1) : Int)), y6, some v7, none, none, none, none] H1 (.int by') := fun H1 => ev_var rfl
    refine q_forT0 ?_
    refine (er_four (K := K) (σ := [some (.ref p), some (.int ((m + 1 : Nat) : Int)), some (.int low), some (.int by'), some (.int (m : Int)), some (.int (facB (m + 1) : Int)), y6, some v7, none, none, none, none]) (b1 := (0, 0)) (b2 := (by', by')) (b3 := (by' + 1, by')) (b4 := (5 * by', by')) (fun H1 => eb_pair (fun _ => ev_c) (fun _ => ev_c)) (fun H1 => eb_pair bb bb) (fun H1 => eb_pair (fun H2 => ev_op (bb H2) ev_c rv_I0) bb) (fun H1 => eb_pair (fun H2 => ev_op ev_c (bb H2) (rv_I (C := CMul) (g := fun i j => .int (i * j)) (i := 5) (j := by') (.inl ⟨by decide, by decide⟩))) bb) : EvR K (tTup (tCons (tTup (tCons (tC (.int 0)) (tCons (tC (.int 0)) tNil))) (tCons (tTup (tCons (tVar 3) (tCons (tVar 3) tNil))) (tCons (tTup (tCons (tOp (rI0 fun i j => .int (i + j)) (tVar 3) (tC (.int 1))) (tCons (tVar 3) tNil))) (tCons (tTup (tCons (tOp (rI CMul fun i j => .int (i * j)) (tC (.int 5)) (tVar 3)) (tCons (tVar 3) tNil))) tNil))))) [some (.ref p), some (.int ((m + 1 : Nat) : Int)), some (.int low), some (.int by'), some (.int (m : Int)), some (.int (facB (m + 1) : Int)), y6, some v7, none, none, none, none] H9 [(0, 0), (by', by'), (by' + 1, by'), (5 * by', by')]) H9 (Ex.refl _) _ fun v4 H10 e10 hv10 => ?_
    obtain ⟨tq, tvs, rfl, ttq, tbs⟩ := hv10
    have e610 := e69.trans e10
    refine ⟨tq, rfl, ⟨_, ttq⟩, ?_⟩
    refine for_tup (K := K) (xs := tvs) (fun i σ' H' => ∃ (y6 y8 y9 y10 : Option V), σ' = [some (.ref p), some (.int ((m + 1 : Nat) : Int)), some (.int low), some (.int by'), some (.int (m : Int)), some (.int (facB (m + 1) : Int)), y6, some v7, y8, y9, y10, none] ∧ Ex H10 H') ⟨_, _, _, _, rfl, Ex.refl _⟩ (fun i σ' H' _ hW => ?_) (fun i x σ' H11 hx hW => ?_) (fun σ' H11 hW => ?_)
    · obtain ⟨y6, y8, y9, y10, rfl, e⟩ := hW
      exact ex_t e ttq
    · obtain ⟨y6, y8, y9, y10, rfl, e11⟩ := hW
      obtain ⟨asks, st, q2, rfl, hq2, s0, s1, s2⟩ : ∃ (asks st : Int) (q2 : Addr), x = .ref q2 ∧ SqT K H10 q2 [.int asks, .int st] ∧ 0 ≤ st ∧ st ≤ asks ∧ asks ≤ 5000 := by
        have hi : i < 4 := by
          have h1 := (List.getElem?_eq_some_iff.mp hx).1
          have h2 := tbs.1
          simp at h2
          omega
        have all : ∀ bt : Int × Int, ([(0, 0), (by', by'), (by' + 1, by'), (5 * by', by')] : HH.Row)[i]? = some bt → 0 ≤ bt.2 ∧ bt.2 ≤ bt.1 ∧ bt.1 ≤ 5000 := by
          intro bt hbt
          match i, hi, hbt with
          | 0, _, hbt => cases hbt; exact ⟨by decide, by decide, by decide⟩
          | 1, _, hbt => cases hbt; exact ⟨by show 0 ≤ by'; omega, Int.le_refl _, by show by' ≤ 5000; omega⟩
          | 2, _, hbt => cases hbt; exact ⟨by show 0 ≤ by'; omega, by show by' ≤ by' + 1; omega, by show by' + 1 ≤ 5000; omega⟩
          | 3, _, hbt => cases hbt; exact ⟨by show 0 ≤ by'; omega, by show by' ≤ 5 * by'; omega, by show 5 * by' ≤ 5000; omega⟩
        obtain ⟨bt, hbt⟩ : ∃ bt, ([(0, 0), (by', by'), (by' + 1, by'), (5 * by', by')] : HH.Row)[i]? = some bt := ⟨_, List.getElem?_eq_getElem (by simpa using hi)⟩
        obtain ⟨u, hu, q2, rfl, hq2⟩ := tbs.2 i bt hbt
        rw [hx] at hu
        cases hu
        obtain ⟨a1, a2, a3⟩ := all bt hbt
        exact ⟨bt.1, bt.2, q2, rfl, hq2, a1, a2, a3⟩
      refine ⟨q2, _, rfl, ex_t e11 hq2, rfl, _, _, rfl, _, _, rfl, rfl, ?_⟩
      try dsimp only
      refine s_at [some (.ref p), some (.int ((m + 1 : Nat) : Int)), some (.int low), some (.int by'), some (.int (m : Int)), some (.int (facB (m + 1) : Int)), y6, some v7, some (.int asks), some (.int st), y10, none] rfl ?_
      try dsimp only
      refine q_run ?_
      refine (er_range (K := K) (σ := [some (.ref p), some (.int ((m + 1 : Nat) : Int)), some (.int low), some (.int by'), some (.int (m : Int)), some (.int (facB (m + 1) : Int)), y6, some v7, some (.int asks), some (.int st), y10, none]) (j := 6) (vs := [6]) (n := m + 1) (f := fun i => low + st * (i : Int)) (g := fun _ => asks) (ea_cons (ev_var rfl) ea_nil) (by omega) (fun x => rfl) (fun i H1 hi => ev_op (ev_var rfl) (ev_op (ev_var rfl) (ev_var rfl) (rv_I (.inl ⟨by omega, by omega⟩))) rv_I0) (fun i H1 hi => ev_var rfl)) H11 (Ex.refl _) _ fun vp H12 e12 hvp => ?_
      refine s_at [some (.ref p), some (.int ((m + 1 : Nat) : Int)), some (.int low), some (.int by'), some (.int (m : Int)), some (.int (facB (m + 1) : Int)), y6, some v7, some (.int asks), some (.int st), some vp, none] rfl ?_
      refine s_when (b := false) (et_is (et_not (et_B (ev_known (K := K) (rs := rowN (m + 1) (fun i => low + st * (i : Int)) fun _ => asks) (n := m + 1) (kt := tabP (fun _ _ => true) (m + 1) (m + 1)) (due := 1) (l0 := 0) (h0 := 0) (l1 := m) (h1 := m) (er_val (ev_var rfl) hvp) (known2 s0 s1 (by omega) (by omega)) (by omega) (by omega) (by decide) (fun H1 e1 => src_T (src_new (pairsE _ 1 (m + 1) rfl (by omega) H1))) (fun H1 => cI _ H1 1) (fun H1 => cI _ H1 0) (fun H1 => cI _ H1 0) (fun H1 => ev_var rfl) (fun H1 => ev_var rfl)))) rfl) (fun z => by cases z) fun _ H13 e13 => ⟨_, _, _, _, rfl, e11.trans (e12.trans e13)⟩
    · obtain ⟨y6, y8, y9, y10, rfl, e11⟩ := hW
      have smW : (low + by' * (m : Int)) = low + by' * (m : Int) := rfl
      try dsimp only
      refine q_run ?_
      refine (er_cat (K := K) (er_repA (n := m) (er_one (eb_pair (a := low) (b := by') (fun _ => ev_var (i := 2) rfl) (fun _ => ev_var (i := 3) rfl))) (fun _ => ev_var (i := 4) rfl) m0 (by omega)) (er_one (eb_pair (a := low + by' * (m : Int) + 1) (b := 3) (fun _ => ev_op (ev_op (ev_var (i := 2) rfl) (ev_op (ev_var (i := 3) rfl) (ev_var (i := 4) rfl) (rv_I (C := CMul) (g := fun i j => .int (i * j)) (i := by') (j := (m : Int)) (.inl ⟨by omega, by omega⟩))) rv_I0) ev_c rv_I0) (fun _ => ev_c))) (by rw [List.length_replicate]; show m + 1 ≤ 100000; omega) : EvR K _ [some (.ref p), some (.int ((m + 1 : Nat) : Int)), some (.int low), some (.int by'), some (.int (m : Int)), some (.int (facB (m + 1) : Int)), y6, some v7, y8, y9, y10, none] H11 _) H11 (Ex.refl _) _ fun vp H12 e12 hvp => ?_
      refine s_at [some (.ref p), some (.int ((m + 1 : Nat) : Int)), some (.int low), some (.int by'), some (.int (m : Int)), some (.int (facB (m + 1) : Int)), y6, some v7, y8, y9, some vp, none] rfl ?_
      rw [← rowW_app] at hvp
      refine q_when (b := false) (et_is (et_not (et_B (ev_known (K := K) (n := m + 1) (kt := tabP (fun _ _ => true) m m) (due := m + 1) (l0 := 0) (h0 := 1) (l1 := 0) (h1 := m) (er_val (ev_var rfl) hvp) (known3 bp m0 m8) (by omega) (by omega) (by omega) (fun H1 e1 => src_T (src_new (pairsE _ 4 m rfl (by omega) H1))) (fun H1 => ev_var rfl) (fun H1 => cI _ H1 0) (fun H1 => cI _ H1 1) (fun H1 => cI _ H1 0) (fun H1 => ev_var rfl)))) rfl) (fun z => by cases z) fun _ H13 e13 => ?_
      clear hvp
      try dsimp only
      refine q_run ?_
      refine (er_cat (K := K) (er_repA (n := m) (er_one (eb_pair (a := low) (b := by') (fun _ => ev_var (i := 2) rfl) (fun _ => ev_var (i := 3) rfl))) (fun _ => ev_var (i := 4) rfl) m0 (by omega)) (er_one (eb_pair (a := low + by' * (m : Int)) (b := 3) (fun _ => ev_op (ev_var (i := 2) rfl) (ev_op (ev_var (i := 3) rfl) (ev_var (i := 4) rfl) (rv_I (C := CMul) (g := fun i j => .int (i * j)) (i := by') (j := (m : Int)) (.inl ⟨by omega, by omega⟩))) rv_I0) (fun _ => ev_c))) (by rw [List.length_replicate]; show m + 1 ≤ 100000; omega) : EvR K _ [some (.ref p), some (.int ((m + 1 : Nat) : Int)), some (.int low), some (.int by'), some (.int (m : Int)), some (.int (facB (m + 1) : Int)), y6, some v7, y8, y9, some vp, none] H13 _) H13 (Ex.refl _) _ fun vp2 H14 e14 hvp => ?_
      refine s_at [some (.ref p), some (.int ((m + 1 : Nat) : Int)), some (.int low), some (.int by'), some (.int (m : Int)), some (.int (facB (m + 1) : Int)), y6, some v7, y8, y9, some vp2, none] rfl ?_
      rw [← rowW_app] at hvp
      have pw4 := pw_tabP (fun i k => decide (i + 1 + k < m) || decide (i = 0)) (m + 1) (m + 1)
      have kl : (tabP (fun _ _ => true) m m).length ≤ 900 := by
        have : ∀ m, m ≤ 8 → (tabP (fun _ _ => true) m m).length ≤ 900 := by decide +kernel
        exact this m m8
      have one1 : ∀ (σ : _root_.L2.St) (H1 : Hp), σ[4]? = some (some (.int (m : Int))) → EvPr PairT (tLst (tCons (tTup (tCons (tC (.int 0)) (tCons (tVar 4) tNil))) tNil)) σ H1 [((0 : Int), (m : Int))] := fun σ H1 h4 H2 e2 Q q =>
        ⟨_, h4, by show 2 ≤ sizeLine; decide, fun x hx => ⟨by show 1 ≤ sizeLine; decide, fun l hl => by
          have n1 := Ex.new (o := .tup [V.int 0, .int (m : Int)]) hx
          have n2 := Ex.new (o := .lst [V.ref x]) hl
          exact q l [.ref x] _ (fresh_back n1 hl) (n1.trans n2) upd_same (.cons ⟨x, rfl, n2 _ _ upd_same⟩ .nil)⟩⟩
      try dsimp only
      refine q_run ?_
      refine (ep_sorted (K := K) (σ := [some (.ref p), some (.int ((m + 1 : Nat) : Int)), some (.int low), some (.int by'), some (.int (m : Int)), some (.int (facB (m + 1) : Int)), y6, some v7, y8, y9, some vp2, none]) (H := H14) (src_T (src_new (epr_cat stb_T (pairsE _ 4 m rfl (by omega) H14) (fun H1 e1 => one1 _ H1 rfl) (by show (tabP (fun _ _ => true) m m).length + 1 ≤ 10000; omega)))) (all_pairs4 m m8 m0) pw4) H14 (Ex.refl _) _ fun fq fus H15 hfq e15 gfq fbs => ?_
      refine s_at [some (.ref p), some (.int ((m + 1 : Nat) : Int)), some (.int low), some (.int by'), some (.int (m : Int)), some (.int (facB (m + 1) : Int)), y6, some v7, y8, y9, some vp2, some (.ref fq)] rfl ?_
      refine s_ret (v := .bl true) (ev_known (K := K) (n := m + 1) (due := m) (l0 := 0) (h0 := 0) (l1 := 1) (h1 := m) (er_val (ev_var rfl) (hvp.ex e15)) (known4 bp m0 m8) (by omega) (by omega) m0 (fun H1 e1 => src_val (stb_B K) (ev_var rfl) (sq_of (e1 _ _ gfq)) ((stb_B K).all e1 fbs)) (fun H1 => ev_var rfl) (fun H1 => cI _ H1 0) (fun H1 => cI _ H1 0) (fun H1 => cI _ H1 1) (fun H1 => ev_var rfl)) fun H16 e16 => q H16 (x06.trans (.of ((e610.trans e11).trans ((e12.trans e13).trans ((e14.trans e15).trans e16)))))
theorem ok_law {f f1 f2 f3 f4 f5 f6 C1 : Addr} {fd fd1 fd2 fd3 fd4 fd5 fd6 : FuncData} (F : FnP K "law" s_law f fd) (h_law_folded : Has P w K mg base 1 "_law_folded" ["_law_script", "_law_many"] (spFolded K) f1 fd1) (h_law_dip : Has P w K mg base 1 "_law_dip" ["_law_script", "_law_k"] (spDip K) f2 fd2) (h_law_right : Has P w K mg base 17 "_law_right" ["_law_box"] spRight f3 fd3) (h_law_same : Has P w K mg base 4 "_law_same" ["_law_found", "_law_due"] (spSame K 4) f4 fd4) (h_orders_many : Has P w K mg base 15 "orders_many" ["row"] (spMany K) f5 fd5) (h_order_at : HasX P w K mg base 15 "order_at" ["row", "number"] (spOrderX K C1) f6 fd6)
    (m_range : mg "range" = none) (m_len : mg "len" = none) (m_all : mg "all" = none) (m_tuple : mg "tuple" = none) : FnOk P w K mg base CX0 18 f fd ["_law_script"] (spLaw K) := by
  refine F.ok sc_law (fun vs H Q E h => ?_) (fun cdv A outer s H vs Q E hr h => ?_)
  · obtain ⟨a, ns, rfl, _⟩ := h
    rfl
  · obtain ⟨a, ns, rfl, hS, hlen, q⟩ := h
    refine ⟨_, PSs.nox (pss_cons (ps_set (i := 1) sc_law.nd rfl (.inr rfl) (pe_call h_law_folded.G (hr.mono (by decide)) (by rfl) h_law_folded.g h_law_folded.kp h_law_folded.b .nil pass0 (pa_cons (pv 0) (pa_cons pe_int pa_nil))))
      (pss_cons (ps_set (i := 2) sc_law.nd rfl (.inl rfl) (pe_tupleOf (by rfl) m_tuple (pe_lc (own := [("_law_at", 3)]) (g := gName 3) (by rfl) sc_law.nd (pi_range1 (by rfl) m_range (pa_cons pe_int pa_nil)) (blkOk_by (own := [("_law_at", 3)]) (N := ["_law_script", "_law_cells", "_law_stair", "_law_at", "_law_k"]) (sc := defScope s_law) (by decide +kernel)) (fun _ _ _ _ _ => (pg_name (i := 3) sc_law.nd rfl (Or.inl rfl))) (fun _ _ _ _ _ => pts_nil) (fun _ _ _ _ _ => (pe_tup (pa_cons (pe_op op_sub (pe_op op_mul pe_int (pv 3)) pe_int) (pa_cons pe_int pa_nil)))))))
      (pss_cons (ps_if (pt_not (pt_val (pe_call h_law_same.G (hr.mono (by decide)) (by rfl) h_law_same.g h_law_same.kp h_law_same.b .nil pass0 (pa_cons (pe_lst (pa_cons (pe_call h_orders_many.G (hr.mono (by decide)) (by rfl) h_orders_many.g h_orders_many.kp h_orders_many.b .nil pass0 (pa_cons (pv 2) pa_nil)) (pa_cons (pe_call h_order_at.G (hr.mono (by decide)) (by rfl) h_order_at.g h_order_at.kp h_order_at.b .nil _root_.L2.passL (pa_cons (pv 2) (pa_cons pe_int pa_nil))) pa_nil))) (pa_cons (pe_lst (pa_cons pe_int (pa_cons (pe_tupRg3 rfl (by rfl) m_tuple (by rfl) m_range (pa_cons pe_int (pa_cons (pe_un un_neg pe_int) (pa_cons (pe_un un_neg pe_int) pa_nil)))) pa_nil))) pa_nil))))) (pss_one (ps_ret pe_bl)) pss_nil)
      (pss_one (ps_ret (pe_callB (cr_all rfl) (by rfl) m_all (by decide +kernel) (pa_cons (pe_lc (own := [("_law_k", 4)]) (g := gName 4) (by rfl) sc_law.nd (pi_range1 (by rfl) m_range (pa_cons (pe_op op_add pe_int (pe_callB call_len_seq (by rfl) m_len PySem.boot_len (pa_cons (pv 1) pa_nil))) pa_nil)) (blkOk_by (own := [("_law_k", 4)]) (N := ["_law_script", "_law_cells", "_law_stair", "_law_at", "_law_k"]) (sc := defScope s_law) (by decide +kernel)) (fun _ _ _ _ _ => (pg_name (i := 4) sc_law.nd rfl (Or.inl rfl))) (fun _ _ _ _ _ => pts_nil) (fun _ _ _ _ _ => (pe_call h_law_right.G (hr.mono (by decide)) (by rfl) h_law_right.g h_law_right.kp h_law_right.b .nil pass0 (pa_cons (pe_call h_law_dip.G (hr.mono (by decide)) (by rfl) h_law_dip.g h_law_dip.kp h_law_dip.b .nil pass0 (pa_cons (pv 1) (pa_cons (pv 4) pa_nil))) pa_nil)))) pa_nil))))))), ?_⟩
    refine q_call ⟨.ref a, rfl, a, 3, ns, rfl, by decide, by decide, hS, hlen, fun l H1 ms hl e1 hm h1 => ?_⟩
    refine s_at [some (.ref a), some (.ref l), none, none, none] rfl ?_
    try dsimp only
    refine q_run ?_
    refine (er_range (K := K) (σ := [some (.ref a), some (.ref l), none, none, none]) (j := 3) (vs := [3]) (n := 12) (f := fun i => -9 + 3 * (i : Int)) (g := fun _ => 0) (ea_cons ev_c ea_nil) (by decide) (fun x => rfl) (fun i H1 hi => ev_is (ev_op (ev_op ev_c (ev_var rfl) (rv_I (.inl ⟨by decide, by decide⟩))) ev_c rv_I0) (by first | (congr 1; done) | (congr 1; omega))) (fun i H1 hi => ev_c)) H1 (Ex.refl _) _ fun v2 H2 e2 hv2 => ?_
    refine s_at [some (.ref a), some (.ref l), some v2, none, none] rfl ?_
    obtain ⟨ln, tl, ⟨E1, B1, en, ek⟩, _, _, _⟩ := known1 (n := 12) (low := -9) (b := 3) (by decide) (by decide)
    generalize rowN 12 (fun i => -9 + 3 * (i : Int)) (fun _ => 0) = rs at hv2 ln tl en
    have ah : ahOf E1 B1 rs = List.replicate 12 0 := by
      show aheadF (keptT E1 B1 rs.length) rs.length = _
      rw [ln, ek]
      rfl
    obtain ⟨c12, l12⟩ := stair12
    have sm1 : Ev (tCall (spSame K 4) [] E0 (tCons (tLst (tCons (tCall (spMany K) [] E0 (tCons (tVar 2) tNil)) (tCons (tCall (spOrderX K C1) [] E0 (tCons (tVar 2) (tCons (tC (.int 479001599)) tNil))) tNil))) (tCons (tLst (tCons (tC (.int 479001600)) (tCons (tTupRg3 (tCons (tC (.int 11)) (tCons (tUn (rU fun i => .int (-i)) (tC (.int 1))) (tCons (tUn (rU fun i => .int (-i)) (tC (.int 1))) tNil)))) tNil))) tNil))) [some (.ref a), some (.ref l), some v2, none, none] H2 (.bl true) := by
      intro H3 e3 Q3 k3
      refine ⟨v2, rfl, v2, rs, E1, B1, rfl, hv2.ex e3, by omega, tl, en, fun H4 e4 => ?_⟩
      rw [ah, c12]
      refine ⟨v2, rfl, v2, rs, E1, B1, ((479001599 : Nat) : Int), rfl, hv2.ex (e3.trans e4), by omega, tl, en, fun k' l' hk' hl' o1 H5 ho1 e5 g5 => ?_, fun z => ?_⟩
      · have ek' : k' = 479001599 := by omega
        rw [ah, ek', l12] at hl'
        cases hl'
        refine ⟨by show 2 ≤ sizeLine; decide, fun c1 hc1 => ⟨_, rfl, _, rfl, 11, -1, -1, 12, rfl, ?_, by decide, fun tq htq => ⟨by show 2 ≤ sizeLine; decide, fun c2 hc2 => ?_⟩⟩⟩
        · have z := RgC.neg (i := 11) (j := -1) (by omega) (by omega) (by omega) (by omega)
          exact z
        · have n1 := Ex.new (o := .lst [V.int ((479001600 : Nat) : Int), .ref o1]) hc1
          have n2 := Ex.new (o := .tup (rgC 11 (-1) 12)) htq
          have n3 := Ex.new (o := .lst [V.int 479001600, .ref tq]) hc2
          have er : rgC 11 (-1) 12 = natsV [11, 10, 9, 8, 7, 6, 5, 4, 3, 2, 1, 0] := by rfl
          have gtq : (upd (upd (upd H5 c1 (.lst [V.int ((479001600 : Nat) : Int), .ref o1])) tq (.tup (rgC 11 (-1) 12))) c2 (.lst [V.int 479001600, .ref tq])) tq = some (.tup (natsV [11, 10, 9, 8, 7, 6, 5, 4, 3, 2, 1, 0])) := by
            rw [← er]
            exact n3 _ _ upd_same
          exact ⟨.ref c1, .ref c2, rfl, alike_two (d := 3) (sq_of ((n2.trans n3) _ _ upd_same)) (sq_of upd_same) (.inl ⟨rfl, True.intro⟩) (alike_ints (by decide) (st_of ((n1.trans (n2.trans n3)) _ _ g5)) (st_of gtq)).up, fun H9 e9 => k3 H9 ((e4.trans e5).trans ((n1.trans (n2.trans n3)).trans e9))⟩
      · rw [ah, c12] at z
        omega
    refine q_when (b := false) (et_is (et_not (et_B sm1)) rfl) (fun z => by cases z) fun _ H6 e6 => ?_
    exact law_all (K := K) (c := 10) (j := 4) (il := 1) (vs := [4]) ((e2.trans e6) _ _ h1) (by omega) (fun i => rfl) (fun _ => rfl) (fun _ => rfl) rfl q
end
end K26
set_option maxHeartbeats 0
namespace K26
open PySem PySem.Spec PyProof.Rows L2 Evl HH RZ
def d_pass_all : He.DefD := ⟨("pass_all", none), "pass_all", "pass_all", defArgs s_pass_all, defBody s_pass_all, defScope s_pass_all, [], []⟩
def d_fall_all : He.DefD := ⟨("fall_all", none), "fall_all", "fall_all", defArgs s_fall_all, defBody s_fall_all, defScope s_fall_all, [], []⟩
def d_row_and_order : He.DefD := ⟨("row_and_order", none), "row_and_order", "row_and_order", defArgs s_row_and_order, defBody s_row_and_order, defScope s_row_and_order, [], []⟩
def d_last : He.DefD := ⟨("last", none), "last", "last", defArgs s_last, defBody s_last, defScope s_last, [], []⟩
def d_first : He.DefD := ⟨("first", none), "first", "first", defArgs s_first, defBody s_first, defScope s_first, [], []⟩
def d_places_of : He.DefD := ⟨("places_of", none), "places_of", "places_of", defArgs s_places_of, defBody s_places_of, defScope s_places_of, [], []⟩
def d_turned_about : He.DefD := ⟨("turned_about", none), "turned_about", "turned_about", defArgs s_turned_about, defBody s_turned_about, defScope s_turned_about, [], []⟩
def d_passings : He.DefD := ⟨("passings", none), "passings", "passings", defArgs s_passings, defBody s_passings, defScope s_passings, [], []⟩
def d_fallings : He.DefD := ⟨("fallings", none), "fallings", "fallings", defArgs s_fallings, defBody s_fallings, defScope s_fallings, [], []⟩
def d_kept_pairs : He.DefD := ⟨("kept_pairs", none), "kept_pairs", "kept_pairs", defArgs s_kept_pairs, defBody s_kept_pairs, defScope s_kept_pairs, [], []⟩
def d_first_not_kept : He.DefD := ⟨("first_not_kept", none), "first_not_kept", "first_not_kept", defArgs s_first_not_kept, defBody s_first_not_kept, defScope s_first_not_kept, [], []⟩
def d_comes_to : He.DefD := ⟨("comes_to", none), "comes_to", "comes_to", defArgs s_comes_to, defBody s_comes_to, defScope s_comes_to, [], []⟩
def d_refuse_not_kept : He.DefD := ⟨("refuse_not_kept", none), "refuse_not_kept", "refuse_not_kept", defArgs s_refuse_not_kept, defBody s_refuse_not_kept, defScope s_refuse_not_kept, [], []⟩
def d_kept_ahead : He.DefD := ⟨("kept_ahead", none), "kept_ahead", "kept_ahead", defArgs s_kept_ahead, defBody s_kept_ahead, defScope s_kept_ahead, [], []⟩
def d_next_ones : He.DefD := ⟨("next_ones", none), "next_ones", "next_ones", defArgs s_next_ones, defBody s_next_ones, defScope s_next_ones, [], []⟩
def d_orders_behind : He.DefD := ⟨("orders_behind", none), "orders_behind", "orders_behind", defArgs s_orders_behind, defBody s_orders_behind, defScope s_orders_behind, [], []⟩
def d_picked : He.DefD := ⟨("picked", none), "picked", "picked", defArgs s_picked, defBody s_picked, defScope s_picked, [], []⟩
def d_orders_many : He.DefD := ⟨("orders_many", none), "orders_many", "orders_many", defArgs s_orders_many, defBody s_orders_many, defScope s_orders_many, [], []⟩
def d_order_at : He.DefD := ⟨("order_at", none), "order_at", "order_at", defArgs s_order_at, defBody s_order_at, defScope s_order_at, [], []⟩
def d_number_of : He.DefD := ⟨("number_of", none), "number_of", "number_of", defArgs s_number_of, defBody s_number_of, defScope s_number_of, [], []⟩
def d_span : He.DefD := ⟨("span", none), "span", "span", defArgs s_span, defBody s_span, defScope s_span, [], []⟩
def d_law_dip : He.DefD := ⟨("_law_dip", none), "_law_dip", "_law_dip", defArgs s_law_dip, defBody s_law_dip, defScope s_law_dip, [], []⟩
def d_law_take : He.DefD := ⟨("_law_take", none), "_law_take", "_law_take", defArgs s_law_take, defBody s_law_take, defScope s_law_take, [], []⟩
def d_law_folded : He.DefD := ⟨("_law_folded", none), "_law_folded", "_law_folded", defArgs s_law_folded, defBody s_law_folded, defScope s_law_folded, [], []⟩
def d_law_same : He.DefD := ⟨("_law_same", none), "_law_same", "_law_same", defArgs s_law_same, defBody s_law_same, defScope s_law_same, [], []⟩
def d_law_of : He.DefD := ⟨("_law_of", none), "_law_of", "_law_of", defArgs s_law_of, defBody s_law_of, defScope s_law_of, [], []⟩
def d_law_pairs : He.DefD := ⟨("_law_pairs", none), "_law_pairs", "_law_pairs", defArgs s_law_pairs, defBody s_law_pairs, defScope s_law_pairs, [], []⟩
def d_law_known : He.DefD := ⟨("_law_known", none), "_law_known", "_law_known", defArgs s_law_known, defBody s_law_known, defScope s_law_known, [], []⟩
def d_law_right : He.DefD := ⟨("_law_right", none), "_law_right", "_law_right", defArgs s_law_right, defBody s_law_right, defScope s_law_right, [], []⟩
def d_law : He.DefD := ⟨("law", none), "law", "law", defArgs s_law, defBody s_law, defScope s_law, [], []⟩
def d_ini_NoOrder : He.DefD := ⟨("NoOrder", some "__init__"), "__init__", "NoOrder.__init__", defArgs s_ini_NoOrder, defBody s_ini_NoOrder, defScope s_ini_NoOrder, [], []⟩
def fnsL : List He.DefD := [d_pass_all, d_fall_all, d_row_and_order, d_last, d_first, d_places_of, d_turned_about, d_passings, d_fallings, d_kept_pairs, d_first_not_kept, d_comes_to, d_refuse_not_kept, d_kept_ahead, d_next_ones, d_orders_behind, d_picked, d_orders_many, d_order_at, d_number_of, d_span, d_law_dip, d_law_take, d_law_folded, d_law_same, d_law_of, d_law_pairs, d_law_known, d_law_right, d_law, d_ini_NoOrder]
def faL : List He.Fa := [.glo "pass_all", .glo "fall_all", .glo "row_and_order", .glo "last", .glo "first", .glo "places_of", .glo "turned_about", .glo "passings", .glo "fallings", .glo "kept_pairs", .glo "first_not_kept", .glo "comes_to", .glo "refuse_not_kept", .glo "kept_ahead", .glo "next_ones", .glo "orders_behind", .glo "picked", .glo "orders_many", .glo "order_at", .glo "number_of", .glo "span", .glo "_law_dip", .glo "_law_take", .glo "_law_folded", .glo "_law_same", .glo "_law_of", .glo "_law_pairs", .glo "_law_known", .glo "_law_right", .glo "law", .free "LookupError", .free "abs", .free "all", .free "bool", .free "enumerate", .free "int", .free "isinstance", .free "len", .free "list", .free "range", .free "reversed", .free "sorted", .free "str", .free "tuple", .free "zip", .glo "NoOrder"]
def exK (K : PySem.W.Frag) : Bool := exTyB K .look "number" (He.ga K "NoOrder") (He.ma K (He.ga K "NoOrder") "__init__")
abbrev R : PySem.W.OpenRow := PySem.W.OpenLaw.row PySem.Challenge.rw_hayherd_k26_known_kept_ones
abbrev hk : PySem.W.Hook := He.hookX 4 faL fnsL [] [] exK
def ob (s : PySem.W.SharedT) : He.AlX := He.obsX 4 faL fnsL [] [] exK (HandSHeadRun.getT s)
theorem ob_eq (s : PySem.W.SharedT) : ob s = hk.obs s.abs := He.obsX_eq (HandSHeadRun.getT_eq s)
def loose0 : List PySem.Str := ["NotKept", "NoOrder", "pass_all", "fall_all", "row_and_order", "last", "first", "places_of", "turned_about", "passings", "fallings", "kept_pairs", "first_not_kept", "comes_to", "refuse_not_kept", "kept_ahead", "next_ones", "orders_behind", "picked", "orders_many", "order_at", "number_of"]
def loose1 : List PySem.Str := ["span", "_law_dip", "_law_take", "_law_folded", "_law_same", "_law_of", "_law_pairs", "_law_known", "_law_right"]
def loose : List PySem.Str := loose0 ++ loose1
theorem run (w : World) : HandSHeadRun.RunEq R (PySem.W.view R.prog [35]) hk ob 3000 loose w := by
  intro os
  kernel_rfl
end K26
set_option maxHeartbeats 0
namespace K26
open PySem PySem.Spec PyProof.Rows L2 Evl HH RZ
theorem facts {P : Program} {w : World} {K : PySem.W.Frag} {h : Heap} {mg : Str → Option Value} {f : Addr} (X : K.In h) (G : h.Ns mainGlobals mg) (hfa : mg ("law" : Str) = some (.ref f)) {h0 : Heap} (cx : He.SaysX faL fnsL [] [] exK w h0 K) :
    ∃ fd : FuncData, (∀ (s : Shared) (v : Value), BindsTo s fd ⟨[v], []⟩ [("_law_script", v)]) ∧ ∀ base : Heap, K.In base → base.Ns mainGlobals mg → FnOk P w K mg base CX0 18 f fd ["_law_script"] (spLaw K) := by
  have c := cx.t.d
  obtain ⟨fd_pass_all, F_pass_all⟩ := c.def_ 0 (d := d_pass_all) rfl
  have g_pass_all := He.glo_ok X G (c.fact 0 (f := .glo "pass_all") rfl)
  have b_pass_all : Binds K fd_pass_all ["line", "strengths", "tolls", "who"] [] := F_pass_all.bindsN fun _ _ _ _ _ _ us hl => match us, hl with | [_, _, _, _], _ => rfl
  obtain ⟨fd_fall_all, F_fall_all⟩ := c.def_ 1 (d := d_fall_all) rfl
  have g_fall_all := He.glo_ok X G (c.fact 1 (f := .glo "fall_all") rfl)
  have b_fall_all : Binds K fd_fall_all ["line", "strengths", "tolls", "who"] [] := F_fall_all.bindsN fun _ _ _ _ _ _ us hl => match us, hl with | [_, _, _, _], _ => rfl
  obtain ⟨fd_row_and_order, F_row_and_order⟩ := c.def_ 2 (d := d_row_and_order) rfl
  have g_row_and_order := He.glo_ok X G (c.fact 2 (f := .glo "row_and_order") rfl)
  have b_row_and_order : Binds K fd_row_and_order ["line", "strengths", "tolls"] [] := F_row_and_order.bindsN fun _ _ _ _ _ _ us hl => match us, hl with | [_, _, _], _ => rfl
  obtain ⟨fd_last, F_last⟩ := c.def_ 3 (d := d_last) rfl
  have g_last := He.glo_ok X G (c.fact 3 (f := .glo "last") rfl)
  have b_last : Binds K fd_last ["row"] [] := F_last.bindsN fun _ _ _ _ _ _ us hl => match us, hl with | [_], _ => rfl
  obtain ⟨fd_first, F_first⟩ := c.def_ 4 (d := d_first) rfl
  have g_first := He.glo_ok X G (c.fact 4 (f := .glo "first") rfl)
  have b_first : Binds K fd_first ["row"] [] := F_first.bindsN fun _ _ _ _ _ _ us hl => match us, hl with | [_], _ => rfl
  obtain ⟨fd_places_of, F_places_of⟩ := c.def_ 5 (d := d_places_of) rfl
  have g_places_of := He.glo_ok X G (c.fact 5 (f := .glo "places_of") rfl)
  have b_places_of : Binds K fd_places_of ["order"] [] := F_places_of.bindsN fun _ _ _ _ _ _ us hl => match us, hl with | [_], _ => rfl
  obtain ⟨fd_turned_about, F_turned_about⟩ := c.def_ 6 (d := d_turned_about) rfl
  have g_turned_about := He.glo_ok X G (c.fact 6 (f := .glo "turned_about") rfl)
  have b_turned_about : Binds K fd_turned_about ["order"] [] := F_turned_about.bindsN fun _ _ _ _ _ _ us hl => match us, hl with | [_], _ => rfl
  obtain ⟨fd_passings, F_passings⟩ := c.def_ 7 (d := d_passings) rfl
  have g_passings := He.glo_ok X G (c.fact 7 (f := .glo "passings") rfl)
  have b_passings : Binds K fd_passings ["row"] [] := F_passings.bindsN fun _ _ _ _ _ _ us hl => match us, hl with | [_], _ => rfl
  obtain ⟨fd_fallings, F_fallings⟩ := c.def_ 8 (d := d_fallings) rfl
  have g_fallings := He.glo_ok X G (c.fact 8 (f := .glo "fallings") rfl)
  have b_fallings : Binds K fd_fallings ["row"] [] := F_fallings.bindsN fun _ _ _ _ _ _ us hl => match us, hl with | [_], _ => rfl
  obtain ⟨fd_kept_pairs, F_kept_pairs⟩ := c.def_ 9 (d := d_kept_pairs) rfl
  have g_kept_pairs := He.glo_ok X G (c.fact 9 (f := .glo "kept_pairs") rfl)
  have b_kept_pairs : Binds K fd_kept_pairs ["row"] [] := F_kept_pairs.bindsN fun _ _ _ _ _ _ us hl => match us, hl with | [_], _ => rfl
  obtain ⟨fd_first_not_kept, F_first_not_kept⟩ := c.def_ 10 (d := d_first_not_kept) rfl
  have g_first_not_kept := He.glo_ok X G (c.fact 10 (f := .glo "first_not_kept") rfl)
  have b_first_not_kept : Binds K fd_first_not_kept ["row", "order"] [] := F_first_not_kept.bindsN fun _ _ _ _ _ _ us hl => match us, hl with | [_, _], _ => rfl
  obtain ⟨fd_comes_to, F_comes_to⟩ := c.def_ 11 (d := d_comes_to) rfl
  have g_comes_to := He.glo_ok X G (c.fact 11 (f := .glo "comes_to") rfl)
  have b_comes_to : Binds K fd_comes_to ["row", "order"] [] := F_comes_to.bindsN fun _ _ _ _ _ _ us hl => match us, hl with | [_, _], _ => rfl
  obtain ⟨fd_refuse_not_kept, F_refuse_not_kept⟩ := c.def_ 12 (d := d_refuse_not_kept) rfl
  have g_refuse_not_kept := He.glo_ok X G (c.fact 12 (f := .glo "refuse_not_kept") rfl)
  have b_refuse_not_kept : Binds K fd_refuse_not_kept ["row", "order"] [] := F_refuse_not_kept.bindsN fun _ _ _ _ _ _ us hl => match us, hl with | [_, _], _ => rfl
  obtain ⟨fd_kept_ahead, F_kept_ahead⟩ := c.def_ 13 (d := d_kept_ahead) rfl
  have g_kept_ahead := He.glo_ok X G (c.fact 13 (f := .glo "kept_ahead") rfl)
  have b_kept_ahead : Binds K fd_kept_ahead ["row"] [] := F_kept_ahead.bindsN fun _ _ _ _ _ _ us hl => match us, hl with | [_], _ => rfl
  obtain ⟨fd_next_ones, F_next_ones⟩ := c.def_ 14 (d := d_next_ones) rfl
  have g_next_ones := He.glo_ok X G (c.fact 14 (f := .glo "next_ones") rfl)
  have b_next_ones : Binds K fd_next_ones ["ahead", "stood"] [] := F_next_ones.bindsN fun _ _ _ _ _ _ us hl => match us, hl with | [_, _], _ => rfl
  obtain ⟨fd_orders_behind, F_orders_behind⟩ := c.def_ 15 (d := d_orders_behind) rfl
  have g_orders_behind := He.glo_ok X G (c.fact 15 (f := .glo "orders_behind") rfl)
  have b_orders_behind : Binds K fd_orders_behind ["ahead", "stood", "known"] [] := F_orders_behind.bindsN fun _ _ _ _ _ _ us hl => match us, hl with | [_, _, _], _ => rfl
  obtain ⟨fd_picked, F_picked⟩ := c.def_ 16 (d := d_picked) rfl
  have g_picked := He.glo_ok X G (c.fact 16 (f := .glo "picked") rfl)
  have b_picked : Binds K fd_picked ["shares", "number"] [] := F_picked.bindsN fun _ _ _ _ _ _ us hl => match us, hl with | [_, _], _ => rfl
  obtain ⟨fd_orders_many, F_orders_many⟩ := c.def_ 17 (d := d_orders_many) rfl
  have g_orders_many := He.glo_ok X G (c.fact 17 (f := .glo "orders_many") rfl)
  have b_orders_many : Binds K fd_orders_many ["row"] [] := F_orders_many.bindsN fun _ _ _ _ _ _ us hl => match us, hl with | [_], _ => rfl
  obtain ⟨fd_order_at, F_order_at⟩ := c.def_ 18 (d := d_order_at) rfl
  have g_order_at := He.glo_ok X G (c.fact 18 (f := .glo "order_at") rfl)
  have b_order_at : Binds K fd_order_at ["row", "number"] [] := F_order_at.bindsN fun _ _ _ _ _ _ us hl => match us, hl with | [_, _], _ => rfl
  obtain ⟨fd_number_of, F_number_of⟩ := c.def_ 19 (d := d_number_of) rfl
  have g_number_of := He.glo_ok X G (c.fact 19 (f := .glo "number_of") rfl)
  have b_number_of : Binds K fd_number_of ["row", "order"] [] := F_number_of.bindsN fun _ _ _ _ _ _ us hl => match us, hl with | [_, _], _ => rfl
  obtain ⟨fd_span, F_span⟩ := c.def_ 20 (d := d_span) rfl
  have g_span := He.glo_ok X G (c.fact 20 (f := .glo "span") rfl)
  have b_span : Binds K fd_span ["row", "who"] [] := F_span.bindsN fun _ _ _ _ _ _ us hl => match us, hl with | [_, _], _ => rfl
  obtain ⟨fd_law_dip, F_law_dip⟩ := c.def_ 21 (d := d_law_dip) rfl
  have g_law_dip := He.glo_ok X G (c.fact 21 (f := .glo "_law_dip") rfl)
  have b_law_dip : Binds K fd_law_dip ["_law_script", "_law_k"] [] := F_law_dip.bindsN fun _ _ _ _ _ _ us hl => match us, hl with | [_, _], _ => rfl
  obtain ⟨fd_law_take, F_law_take⟩ := c.def_ 22 (d := d_law_take) rfl
  have g_law_take := He.glo_ok X G (c.fact 22 (f := .glo "_law_take") rfl)
  have b_law_take : Binds K fd_law_take ["_law_box", "_law_many"] [] := F_law_take.bindsN fun _ _ _ _ _ _ us hl => match us, hl with | [_, _], _ => rfl
  obtain ⟨fd_law_folded, F_law_folded⟩ := c.def_ 23 (d := d_law_folded) rfl
  have g_law_folded := He.glo_ok X G (c.fact 23 (f := .glo "_law_folded") rfl)
  have b_law_folded : Binds K fd_law_folded ["_law_script", "_law_many"] [] := F_law_folded.bindsN fun _ _ _ _ _ _ us hl => match us, hl with | [_, _], _ => rfl
  obtain ⟨fd_law_same, F_law_same⟩ := c.def_ 24 (d := d_law_same) rfl
  have g_law_same := He.glo_ok X G (c.fact 24 (f := .glo "_law_same") rfl)
  have b_law_same : Binds K fd_law_same ["_law_found", "_law_due"] [] := F_law_same.bindsN fun _ _ _ _ _ _ us hl => match us, hl with | [_, _], _ => rfl
  obtain ⟨fd_law_of, F_law_of⟩ := c.def_ 25 (d := d_law_of) rfl
  have g_law_of := He.glo_ok X G (c.fact 25 (f := .glo "_law_of") rfl)
  have b_law_of : Binds K fd_law_of ["_law_box", "_law_pool"] [] := F_law_of.bindsN fun _ _ _ _ _ _ us hl => match us, hl with | [_, _], _ => rfl
  obtain ⟨fd_law_pairs, F_law_pairs⟩ := c.def_ 26 (d := d_law_pairs) rfl
  have g_law_pairs := He.glo_ok X G (c.fact 26 (f := .glo "_law_pairs") rfl)
  have b_law_pairs : Binds K fd_law_pairs ["_law_many"] [] := F_law_pairs.bindsN fun _ _ _ _ _ _ us hl => match us, hl with | [_], _ => rfl
  obtain ⟨fd_law_known, F_law_known⟩ := c.def_ 27 (d := d_law_known) rfl
  have g_law_known := He.glo_ok X G (c.fact 27 (f := .glo "_law_known") rfl)
  have b_law_known : Binds K fd_law_known ["_law_pen", "_law_fixed", "_law_due", "_law_spans"] [] := F_law_known.bindsN fun _ _ _ _ _ _ us hl => match us, hl with | [_, _, _, _], _ => rfl
  obtain ⟨fd_law_right, F_law_right⟩ := c.def_ 28 (d := d_law_right) rfl
  have g_law_right := He.glo_ok X G (c.fact 28 (f := .glo "_law_right") rfl)
  have b_law_right : Binds K fd_law_right ["_law_box"] [] := F_law_right.bindsN fun _ _ _ _ _ _ us hl => match us, hl with | [_], _ => rfl
  obtain ⟨fd_law, F_law⟩ := c.def_ 29 (d := d_law) rfl
  have m_LookupError := He.free_ok X G (c.fact 30 (f := .free "LookupError") rfl)
  have m_abs := He.free_ok X G (c.fact 31 (f := .free "abs") rfl)
  have m_all := He.free_ok X G (c.fact 32 (f := .free "all") rfl)
  have m_bool := He.free_ok X G (c.fact 33 (f := .free "bool") rfl)
  have m_enumerate := He.free_ok X G (c.fact 34 (f := .free "enumerate") rfl)
  have m_int := He.free_ok X G (c.fact 35 (f := .free "int") rfl)
  have m_isinstance := He.free_ok X G (c.fact 36 (f := .free "isinstance") rfl)
  have m_len := He.free_ok X G (c.fact 37 (f := .free "len") rfl)
  have m_list := He.free_ok X G (c.fact 38 (f := .free "list") rfl)
  have m_range := He.free_ok X G (c.fact 39 (f := .free "range") rfl)
  have m_reversed := He.free_ok X G (c.fact 40 (f := .free "reversed") rfl)
  have m_sorted := He.free_ok X G (c.fact 41 (f := .free "sorted") rfl)
  have m_str := He.free_ok X G (c.fact 42 (f := .free "str") rfl)
  have m_tuple := He.free_ok X G (c.fact 43 (f := .free "tuple") rfl)
  have m_zip := He.free_ok X G (c.fact 44 (f := .free "zip") rfl)
  have mm : exK K = true := cx.more
  unfold exK at mm
  have T0_NoOrder := mm
  obtain ⟨fd_ini_NoOrder, F_ini_NoOrder⟩ := c.def_ 30 (d := d_ini_NoOrder) rfl
  have g_NoOrder := He.glo_ok X G (c.fact 45 (f := .glo "NoOrder") rfl)
  have b_ini_NoOrder : Binds K fd_ini_NoOrder ["self", "number"] [] := F_ini_NoOrder.bindsN fun _ _ _ _ _ _ us hl => match us, hl with | [_, _], _ => rfl
  have T_NoOrder := exTyB_ok T0_NoOrder (by kernel_rfl)
  have e := hfa.symm.trans (He.glo_ok X G (c.fact 29 (f := .glo "law") rfl))
  cases e
  have bl := FunD.bindsA (ps := ["_law_script"]) F_law fun _ _ _ _ _ _ us hl => match us, hl with | [_], _ => rfl
  refine ⟨fd_law, fun s v => bl s [v] rfl, fun base _ _ => ?_⟩
  have x_NoOrder := ok_ini_NoOrder (P := P) (w := w) (mg := mg) (base := base) F_ini_NoOrder T_NoOrder g_NoOrder b_ini_NoOrder m_LookupError
  have h_pass_all := ok_pass_all (P := P) (w := w) (mg := mg) (base := base) F_pass_all g_pass_all b_pass_all m_len
  have h_fall_all := ok_fall_all (P := P) (w := w) (mg := mg) (base := base) F_fall_all g_fall_all b_fall_all m_len
  have h_row_and_order := ok_row_and_order (P := P) (w := w) (mg := mg) (base := base) F_row_and_order g_row_and_order b_row_and_order m_tuple
  have h_last := ok_last (P := P) (w := w) (mg := mg) (base := base) F_last g_last b_last h_pass_all h_row_and_order m_range m_len
  have h_first := ok_first (P := P) (w := w) (mg := mg) (base := base) F_first g_first b_first h_fall_all h_row_and_order m_range m_len m_reversed
  have h_places_of := ok_places_of (P := P) (w := w) (mg := mg) (base := base) F_places_of g_places_of b_places_of m_enumerate
  have h_turned_about := ok_turned_about (P := P) (w := w) (mg := mg) (base := base) F_turned_about g_turned_about b_turned_about h_places_of m_len m_range
  have h_passings := ok_passings (P := P) (w := w) (mg := mg) (base := base) F_passings g_passings b_passings h_turned_about h_last
  have h_fallings := ok_fallings (P := P) (w := w) (mg := mg) (base := base) F_fallings g_fallings b_fallings h_turned_about h_first
  have h_kept_pairs := ok_kept_pairs (P := P) (w := w) (mg := mg) (base := base) F_kept_pairs g_kept_pairs b_kept_pairs h_passings h_fallings m_len m_range
  have h_first_not_kept := ok_first_not_kept (P := P) (w := w) (mg := mg) (base := base) F_first_not_kept g_first_not_kept b_first_not_kept h_places_of h_kept_pairs
  have h_comes_to := ok_comes_to (P := P) (w := w) (mg := mg) (base := base) F_comes_to g_comes_to b_comes_to h_first_not_kept
  have h_refuse_not_kept := ok_refuse_not_kept (P := P) (w := w) (mg := mg) (base := base) F_refuse_not_kept g_refuse_not_kept b_refuse_not_kept h_first_not_kept
  have h_kept_ahead := ok_kept_ahead (P := P) (w := w) (mg := mg) (base := base) F_kept_ahead g_kept_ahead b_kept_ahead h_kept_pairs m_len
  have h_next_ones := ok_next_ones (P := P) (w := w) (mg := mg) (base := base) F_next_ones g_next_ones b_next_ones m_range m_len
  have h_orders_behind := ok_orders_behind (P := P) (w := w) (mg := mg) (base := base) F_orders_behind g_orders_behind b_orders_behind h_next_ones m_len
  have h_picked := ok_picked (P := P) (w := w) (mg := mg) (base := base) F_picked g_picked b_picked
  have h_orders_many := ok_orders_many (P := P) (w := w) (mg := mg) (base := base) F_orders_many g_orders_many b_orders_many h_kept_ahead h_orders_behind
  have h_order_at := ok_order_at (P := P) (w := w) (mg := mg) (base := base) F_order_at g_order_at b_order_at x_NoOrder h_kept_ahead h_next_ones h_orders_behind h_picked m_len m_tuple
  have h_number_of := ok_number_of (P := P) (w := w) (mg := mg) (base := base) F_number_of g_number_of b_number_of h_refuse_not_kept h_kept_ahead h_next_ones h_orders_behind
  have h_span := ok_span (P := P) (w := w) (mg := mg) (base := base) F_span g_span b_span h_kept_pairs m_len
  have h_law_dip := ok_law_dip (P := P) (w := w) (mg := mg) (base := base) F_law_dip g_law_dip b_law_dip m_len m_abs m_int
  have h_law_take := ok_law_take (P := P) (w := w) (mg := mg) (base := base) F_law_take g_law_take b_law_take
  have h_law_folded := ok_law_folded (P := P) (w := w) (mg := mg) (base := base) F_law_folded g_law_folded b_law_folded m_list m_enumerate
  have h_law_same := ok_law_same (P := P) (w := w) (mg := mg) (base := base) F_law_same g_law_same b_law_same m_isinstance m_list m_tuple m_bool m_str m_int m_len m_all m_zip 4
  have h_law_of := ok_law_of (P := P) (w := w) (mg := mg) (base := base) F_law_of g_law_of b_law_of h_law_take m_len
  have h_law_pairs := ok_law_pairs (P := P) (w := w) (mg := mg) (base := base) F_law_pairs g_law_pairs b_law_pairs m_range
  have h_law_known := ok_law_known (P := P) (w := w) (mg := mg) (base := base) F_law_known g_law_known b_law_known h_kept_pairs h_orders_many h_span h_law_same h_order_at h_number_of h_comes_to m_len m_range m_tuple
  have h_law_right := ok_law_right (P := P) (w := w) (mg := mg) (base := base) F_law_right g_law_right b_law_right h_law_take h_law_of h_law_known h_law_pairs m_range m_tuple m_sorted
  exact ok_law F_law h_law_folded h_law_dip h_law_right h_law_same h_orders_many h_order_at m_range m_len m_all m_tuple
end K26
open PySem PySem.W PySem.Calls PyProof.Rows
theorem PySem.Challenge.cw_hayherd_k26_known_kept_ones_holds : PySem.Challenge.rw_hayherd_k26_known_kept_ones.Holds := by
  w_on; o_law
  refine HandSHeadRun.head_any (r := OpenLaw.row PySem.Challenge.rw_hayherd_k26_known_kept_ones) (q := view (OpenLaw.row PySem.Challenge.rw_hayherd_k26_known_kept_ones).prog [35]) (H := K26.hk) (ob := K26.ob) (M := 3000) (loose := K26.loose) (d := HandSHeadRun.topDef (OpenLaw.row PySem.Challenge.rw_hayherd_k26_known_kept_ones).prog 35) (kwd := []) K26.ob_eq
    (by kernel_rfl) (fun s => by kernel_rfl) K26.run (by kernel_rfl) (by kernel_rfl) (by kernel_rfl) (by rfl) (by first | assumption | decide +kernel) (by decide +kernel) ⟨rfl, rfl, rfl, rfl, rfl, by decide +kernel⟩ ?hw ?hc
  case hw => w_witness2
  case hc =>
    refine L2.walk_ofE (l := PySem.Challenge.rw_hayherd_k26_known_kept_ones) (n := 63) (k := 18) (x := "_law_script") (CX := L2.CX0) rfl (by decide) (by kernel_rfl) ⟨rfl, by decide, by decide⟩ ?F (fun _ _ _ _ z => z)
    intro w mg fa h Y G hmg0
    obtain ⟨K, KX, c⟩ := Y
    have hmg : mg ("law" : PySem.Str) = some (.ref fa) := by
      have e : (HandSHeadRun.topDef (OpenLaw.row PySem.Challenge.rw_hayherd_k26_known_kept_ones).prog 35).name = ("law" : PySem.Str) := by kernel_rfl
      rw [← e]
      exact hmg0
    obtain ⟨fd, hb, hF⟩ := K26.facts (P := (PySem.Challenge.rw_hayherd_k26_known_kept_ones).prog) (w := w) KX G hmg c
    exact ⟨K, fd, HH.spLaw K, KX, hb, fun H a ns hl _ hS => ⟨a, ns, rfl, hS, hl, fun _ => rfl⟩, hF⟩
