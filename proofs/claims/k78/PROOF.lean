import PyProof.Rows.All
import Wide.All
import OpenK.AllK
import Wide.FinOn
import KE.KStateDown
import HandS.ForMost
import HandS.Conv
import HandS.Flow
import HandS.Style
import HandS.TupAny
import HandS.TupMul
import HandS.IsInst
import HandS.Wide
import HandS.Defaults
import HandS.Zip
import HandS.Evl
import HandS.More
import HandS.WordsExc
import HandS.Head2
import HandS.HeadEnd
import HandS.HeadHook2
import HandS.Walk
import HandS.ExcInit
import HandS.HeadHook4
import KE.KExcIs
import KE.KTryMore
import KE.KExcInit
import PyProof.ReprRoads
import PyProof.ReprText
import PyProof.ReprLen
import HandS.RevRange
import HandS.SortInts
import KE.GoesMore
import HandS.DictComp
import HandS.Dict
import HandS.SortRule
import HandS.Deep
import HandS.Strs
import KE.GoesZip
import KE.GoesEnum
import HandS.DictTup
import KE.KDictZip
import HandS.SetFor
import HandS.Small
import KE.KSortTupAny
import HandS.CallLocal
import KE.DataMinMax
import PyProof.SumAnyB
import HandS.TupLe
import PySem.Challenge.RW_hayherd_k78_whole_lots_beside_each_one
set_option Elab.async false
set_option linter.all false
set_option maxRecDepth 100000
set_option maxHeartbeats 4000000
namespace HH
open PySem PySem.Spec PyProof.Rows L2
section
variable {X : Cx}
def CPowW (i j : Int) : Prop := 0 ≤ j ∧ (Builtin.Int.intBits i : Int) * j ≤ 2 ^ 27
theorem op_powW : OpR X (binaryOp .Pow) (rI CPowW fun i j => .int (i ^ j.toNat)) := opI fun _ _ _ _ _ _ _ hc q => pow_int hc.1 hc.2 q
theorem ix_tupK {K : PySem.W.Frag} (h : X.K = K := by rfl) : IxR X (rIxT K) := by
  subst h
  exact ix_tup
theorem ix_listK {K : PySem.W.Frag} (h : X.K = K := by rfl) : IxR X (rIxL K) := by
  subst h
  exact ix_list
end
end HH
set_option maxHeartbeats 4000000
namespace HH
open PySem PySem.Spec PyProof.Rows L2 Evl
abbrev FnP (K : PySem.W.Frag) (x : Str) (st : Stmt) (f : Addr) (fd : FuncData) : Prop := FunD K x x (defArgs st) (defBody st) (defScope st) [] [] f fd
structure Has (P : Program) (w : World) (K : PySem.W.Frag) (mg : Str → Option Value) (base : Heap) (k : Nat) (x : Str) (ps : List Str) (sp : Sp) (f : Addr) (fd : FuncData) : Prop where
  G : FnOk P w K mg base CX0 k f fd ps sp
  g : mg x = some (.ref f)
  kp : PySem.W.keepIn K (.ref f) = true
  b : Binds K fd ps []
def ExB (b : Addr) (H H' : Hp) : Prop := ∀ a o, a ≠ b → H a = some o → H' a = some o
theorem ExB.refl (b : Addr) (H : Hp) : ExB b H H := fun _ _ _ h => h
theorem ExB.trans {b : Addr} {H H1 H2 : Hp} (x : ExB b H H1) (y : ExB b H1 H2) : ExB b H H2 := fun a o n h => y a o n (x a o n h)
theorem ExB.of {b : Addr} {H H' : Hp} (e : Ex H H') : ExB b H H' := fun a o _ h => e a o h
theorem ExB.new {b p : Addr} {H H' : Hp} {o : HO} (e : ExB b H H') (h : H' p = none) : ExB b H (upd H' p o) := e.trans (.of (Ex.new h))
theorem ExB.upd {b : Addr} {H H' : Hp} {o : HO} (e : ExB b H H') : ExB b H (upd H' b o) := fun a u n h => by
  rw [upd_ne n]
  exact e a u n h
theorem ExB.mut {b p : Addr} {H H' : Hp} {o : HO} (e : ExB b H H') (h : H p = none) : ExB b H (L2.upd H' p o) := fun a u n ha => by
  rw [upd_ne (ne_of_none ha h)]
  exact e a u n ha
theorem ExB.rd {b a : Addr} {H H' : Hp} {u : HO} (e : ExB b H H') (n : a ≠ b) (h : Rd H a u) : Rd H' a u := by
  rcases h with h | ⟨o, h⟩
  · exact .inl (e a _ n h)
  · exact .inr ⟨o, e a _ n h⟩
theorem ExB.l {K : PySem.W.Frag} {b a : Addr} {H H' : Hp} {xs : List V} (e : ExB b H H') (n : a ≠ b) (h : SqL K H a xs) : SqL K H' a xs := by
  rcases h with h | h
  · exact .inl (e.rd n h)
  · exact .inr h
theorem ExB.t {K : PySem.W.Frag} {b a : Addr} {H H' : Hp} {xs ys : List V} (e : ExB b H H') (hb : H b = some (.lst ys)) (h : SqT K H a xs) : SqT K H' a xs := by
  rcases h with h | h
  · refine .inl (e.rd (fun z => ?_) h)
    subst z
    rcases h with h | ⟨o, h⟩
    · rw [hb] at h
      cases h
    · rw [hb] at h
      cases h
  · exact .inr h
def Lim : Nat := 2 ^ 4000
def Bx (H : Hp) (p : Addr) (n : Nat) : Prop := ∃ a b c : Int, H p = some (.lst [.int a, .int b, .int c]) ∧ 0 ≤ a ∧ 0 ≤ b ∧ b < 2 ^ 62 ∧ 0 ≤ c ∧ c ≤ n
theorem Bx.ex {H H' : Hp} {p : Addr} {n : Nat} (h : Bx H p n) (e : Ex H H') : Bx H' p n := by
  obtain ⟨a, b, c, h1, h2⟩ := h
  exact ⟨a, b, c, e _ _ h1, h2⟩
theorem Bx.mut {H : Hp} {p q : Addr} {n : Nat} {o : HO} (h : Bx H p n) (e : p ≠ q) : Bx (upd H q o) p n := by
  obtain ⟨a, b, c, h1, h2⟩ := h
  exact ⟨a, b, c, by rw [upd_ne e]; exact h1, h2⟩
theorem Bx.le {H : Hp} {p : Addr} {n m : Nat} (h : Bx H p n) (e : n ≤ m) : Bx H p m := by
  obtain ⟨a, b, c, h1, h2, h3, h4, h5, h6⟩ := h
  exact ⟨a, b, c, h1, h2, h3, h4, h5, by omega⟩
theorem Bx.lst {H : Hp} {p : Addr} {n : Nat} (h : Bx H p n) : ∃ xs, H p = some (.lst xs) := by
  obtain ⟨a, b, c, h1, _⟩ := h
  exact ⟨_, h1⟩
theorem Bx.ne {H : Hp} {p q : Addr} {n : Nat} (h : Bx H p n) (hq : H q = none) : p ≠ q := by
  obtain ⟨xs, h⟩ := h.lst
  exact ne_of_none h hq
abbrev Row := List (Int × Int)
def BeastAt (K : PySem.W.Frag) (H : Hp) (v : V) (b : Int × Int) : Prop := ∃ p, v = .ref p ∧ SqT K H p [.int b.1, .int b.2]
def Beasts (K : PySem.W.Frag) (H : Hp) (vs : List V) (rs : Row) : Prop := vs.length = rs.length ∧ ∀ (i : Nat) (b : Int × Int), rs[i]? = some b → ∃ u, vs[i]? = some u ∧ BeastAt K H u b
def RowAt (K : PySem.W.Frag) (H : Hp) (v : V) (rs : Row) : Prop := ∃ a vs, v = .ref a ∧ SqT K H a vs ∧ Beasts K H vs rs
theorem BeastAt.ex {K : PySem.W.Frag} {H H' : Hp} {v : V} {b : Int × Int} (e : Ex H H') (h : BeastAt K H v b) : BeastAt K H' v b := by
  obtain ⟨p, h1, h2⟩ := h
  exact ⟨p, h1, ex_t e h2⟩
theorem BeastAt.exB {K : PySem.W.Frag} {H H' : Hp} {v : V} {b : Int × Int} {q : Addr} {ys : List V} (e : ExB q H H') (hq : H q = some (.lst ys)) (h : BeastAt K H v b) : BeastAt K H' v b := by
  obtain ⟨p, h1, h2⟩ := h
  exact ⟨p, h1, e.t hq h2⟩
theorem Beasts.ex {K : PySem.W.Frag} {H H' : Hp} {vs : List V} {rs : Row} (e : Ex H H') (h : Beasts K H vs rs) : Beasts K H' vs rs := ⟨h.1, fun i b hi => by
  obtain ⟨u, h1, h2⟩ := h.2 i b hi
  exact ⟨u, h1, h2.ex e⟩⟩
theorem Beasts.exB {K : PySem.W.Frag} {H H' : Hp} {vs : List V} {rs : Row} {q : Addr} {ys : List V} (e : ExB q H H') (hq : H q = some (.lst ys)) (h : Beasts K H vs rs) : Beasts K H' vs rs := ⟨h.1, fun i b hi => by
  obtain ⟨u, h1, h2⟩ := h.2 i b hi
  exact ⟨u, h1, h2.exB e hq⟩⟩
theorem RowAt.ex {K : PySem.W.Frag} {H H' : Hp} {v : V} {rs : Row} (h : RowAt K H v rs) (e : Ex H H') : RowAt K H' v rs := by
  obtain ⟨a, vs, h1, h2, h3⟩ := h
  exact ⟨a, vs, h1, ex_t e h2, h3.ex e⟩
theorem RowAt.exB {K : PySem.W.Frag} {H H' : Hp} {v : V} {rs : Row} {q : Addr} {n : Nat} (h : RowAt K H v rs) (e : ExB q H H') (hb : Bx H q n) : RowAt K H' v rs := by
  obtain ⟨a, vs, h1, h2, h3⟩ := h
  obtain ⟨ys, hy⟩ := hb.lst
  exact ⟨a, vs, h1, e.t hy h2, h3.exB e hy⟩
theorem Beasts.nil {K : PySem.W.Frag} {H : Hp} : Beasts K H [] [] := ⟨rfl, fun i b h => by simp at h⟩
theorem Beasts.app {K : PySem.W.Frag} {H : Hp} {vs us : List V} {rs ss : Row} (h : Beasts K H vs rs) (g : Beasts K H us ss) : Beasts K H (vs ++ us) (rs ++ ss) := by
  refine ⟨by rw [List.length_append, List.length_append, h.1, g.1], fun i b hi => ?_⟩
  by_cases hl : i < rs.length
  · rw [List.getElem?_append_left hl] at hi
    rw [List.getElem?_append_left (by rw [h.1]; exact hl)]
    exact h.2 i b hi
  · rw [List.getElem?_append_right (by omega)] at hi
    rw [List.getElem?_append_right (by rw [h.1]; omega), h.1]
    exact g.2 _ b hi
theorem Beasts.one {K : PySem.W.Frag} {H : Hp} {v : V} {b : Int × Int} (h : BeastAt K H v b) : Beasts K H [v] [b] := by
  refine ⟨rfl, fun i c hi => ?_⟩
  cases i with
  | zero =>
    cases hi
    exact ⟨v, rfl, h⟩
  | succ i => simp at hi
theorem Beasts.take {K : PySem.W.Frag} {H : Hp} {vs : List V} {rs : Row} (n : Nat) (h : Beasts K H vs rs) : Beasts K H (vs.take n) (rs.take n) := by
  refine ⟨by rw [List.length_take, List.length_take, h.1], fun i b hi => ?_⟩
  rw [List.getElem?_take] at hi ⊢
  by_cases hl : i < n
  · rw [if_pos hl] at hi ⊢
    exact h.2 i b hi
  · rw [if_neg hl] at hi
    cases hi
theorem Beasts.drop {K : PySem.W.Frag} {H : Hp} {vs : List V} {rs : Row} (n : Nat) (h : Beasts K H vs rs) : Beasts K H (vs.drop n) (rs.drop n) := by
  refine ⟨by rw [List.length_drop, List.length_drop, h.1], fun i b hi => ?_⟩
  rw [List.getElem?_drop] at hi ⊢
  exact h.2 _ b hi
theorem cut_to (xs : List V) (j : Nat) : cutV xs none (some (j : Int)) = xs.take j := by
  unfold cutV
  rw [HT.sIx_none, HT.sIx_nat, Nat.sub_zero, List.drop_zero]
  by_cases h : j ≤ xs.length
  · rw [Nat.min_eq_left h]
  · rw [Nat.min_eq_right (by omega), List.take_of_length_le (Nat.le_refl _), List.take_of_length_le (by omega)]
theorem cut_all {xs : List V} {lo hi : Option Int} (h : HT.sIx xs.length 0 lo = 0 ∧ HT.sIx xs.length xs.length hi = xs.length) : cutV xs lo hi = xs := by
  unfold cutV
  rw [h.1, h.2, Nat.sub_zero, List.drop_zero]
  exact List.take_of_length_le (Nat.le_refl _)
end HH
set_option maxHeartbeats 4000000
namespace HH
open PySem PySem.Spec PyProof.Rows L2 Evl
section
variable {K : PySem.W.Frag} {σ : L2.St} {H H' : Hp} {ta tb te tx : TE} {x y z v : V}
def EvR (K : PySem.W.Frag) (te : TE) (σ : L2.St) (H : Hp) (rs : Row) : Prop := ∀ H1, Ex H H1 → ∀ Q : VK, (∀ v H2, Ex H1 H2 → RowAt K H2 v rs → Q v H2) → te σ H1 Q
theorem er_val {rs : Row} (h : Ev te σ H v) (hr : RowAt K H v rs) : EvR K te σ H rs := fun H1 e Q q => h H1 e Q fun H2 e2 => q v H2 e2 (hr.ex (e.trans e2))
theorem er_cat {rs ss : Row} (ha : EvR K ta σ H rs) (hb : EvR K tb σ H ss) (hl : rs.length + ss.length ≤ 100000) : EvR K (tOp (rCatA K) ta tb) σ H (rs ++ ss) := fun H1 e Q q =>
  ha H1 e _ fun v H2 e2 hv => hb H2 (e.trans e2) _ fun u H3 e3 hu => by
    obtain ⟨a, vs, rfl, h1, h2⟩ := hv.ex e3
    obtain ⟨b, us, rfl, g1, g2⟩ := hu
    refine ⟨a, b, vs, us, rfl, rfl, h1, g1, by rw [h2.1, g2.1]; exact sz_of hl, fun z => ?_, fun _ z => ?_, fun _ _ p hp => ?_⟩
    · subst z
      have e0 : rs = [] := List.length_eq_zero_iff.mp h2.1.symm
      subst e0
      exact q _ H3 (e2.trans e3) ⟨b, us, rfl, g1, g2⟩
    · subst z
      have e0 : ss = [] := List.length_eq_zero_iff.mp g2.1.symm
      subst e0
      rw [List.append_nil] at q
      exact q _ H3 (e2.trans e3) ⟨a, vs, rfl, h1, h2⟩
    · exact q _ _ ((e2.trans e3).trans (Ex.new hp)) ⟨p, _, rfl, st_of upd_same, (h2.app g2).ex (Ex.new hp)⟩
theorem ev_lenR {rs : Row} (h : Ev te σ H v) (hr : RowAt K H v rs) : Ev (tCB (rLenS K) (tCons te tNil)) σ H (.int (rs.length : Int)) := fun H1 e Q q => by
  obtain ⟨a, vs, rfl, hs, hb⟩ := hr
  refine h H1 e _ fun H2 e2 => ⟨a, vs, rfl, Or.inr (ex_t (e.trans e2) hs), ?_⟩
  rw [hb.1]
  exact q H2 e2
end
def sS (rs : Row) (i : Nat) : Int := (rs[i]?.getD (0, 0)).1
def tS (rs : Row) (i : Nat) : Int := (rs[i]?.getD (0, 0)).2
theorem row_get {rs : Row} {i : Nat} (h : i < rs.length) : rs[i]? = some (sS rs i, tS rs i) := by
  unfold sS tS
  rw [List.getElem?_eq_getElem h] <;> rfl
end HH
set_option maxHeartbeats 4000000
namespace HH
open PySem PySem.Spec PyProof.Rows L2 Evl
section
variable {K : PySem.W.Frag} {σ : L2.St} {H H' : Hp} {ta tb te tx : TE} {x y z v : V} {D : Ends} {tz : TS}
theorem q_asgT2 {i j : Nat} {p : Addr} (h : Ev te σ H (.ref p)) (hp : SqT K H p [x, y]) (k : ∀ H1, Ex H H1 → tz D ((σ.set i (some x)).set j (some y)) H1) : tSeq (tAsg te (gTup K 2 (gCons (gName i) (gCons (gName j) gNil)))) tz D σ H :=
  h H (Ex.refl H) _ fun H1 e => ⟨p, [x, y], rfl, ex_t e hp, rfl, x, [y], rfl, y, [], rfl, rfl, k H1 e⟩
end
end HH
set_option maxHeartbeats 4000000
namespace HH
open PySem PySem.Spec PyProof.Rows L2 Evl
theorem bits_le {i : Int} {n : Nat} (h : i.natAbs < 2 ^ n) : Builtin.Int.intBits i ≤ n := by
  unfold Builtin.Int.intBits
  split
  · exact Nat.zero_le _
  · rename_i z
    have hz : i.natAbs ≠ 0 := by
      intro e
      apply z
      have : i = 0 := by omega
      rw [this]
      rfl
    have := (Nat.log2_lt hz).mpr h
    omega
theorem pow_ok {i : Int} (h : i.natAbs < 2 ^ 4100) : CPowW i 5 := by
  refine ⟨by decide, ?_⟩
  have h1 := bits_le h
  have h2 : (Builtin.Int.intBits i : Int) ≤ 4100 := by omega
  have h3 : (2 : Int) ^ 27 = 134217728 := by decide
  rw [h3]
  omega
theorem mulW_ok {i j : Int} (h : i.natAbs < 2 ^ 4100) (g : j.natAbs < 2 ^ 4100) : CMulW i j := wide_mul h g (by decide) (by decide) (by decide)
theorem two_split : (2 : Nat) ^ 4100 = 2 ^ 4000 * 2 ^ 100 := by rw [← Nat.pow_add]
theorem big_of {c : Int} (h0 : 0 ≤ c) (h : c ≤ (Lim : Int) + 1) (k b : Int) (hk : 0 ≤ k) (hk2 : k ≤ 40000) (hb : 0 ≤ b) (hb2 : b ≤ 2 ^ 63) : (b + k * c).natAbs < 2 ^ 4100 := by
  have hl : Lim = 2 ^ 4000 := rfl
  have hp : 0 < (2 : Nat) ^ 4000 := Nat.pow_pos (by decide)
  rw [two_split]
  generalize (2 : Nat) ^ 4000 = L at *
  have h2 : c.toNat ≤ L + 1 := by omega
  have h3 : k.toNat * c.toNat ≤ 40000 * (L + 1) := Nat.mul_le_mul (by omega) h2
  have h4 : (b + k * c) = ((b.toNat + k.toNat * c.toNat : Nat) : Int) := by
    rw [Int.natCast_add, Int.natCast_mul, Int.toNat_of_nonneg hb, Int.toNat_of_nonneg hk, Int.toNat_of_nonneg h0]
  rw [h4, Int.natAbs_natCast]
  have h5 : b.toNat ≤ 2 ^ 63 := by omega
  have h6 : (2 : Nat) ^ 100 = 1267650600228229401496703205376 := by decide
  have h7 : (2 : Nat) ^ 63 = 9223372036854775808 := by decide
  rw [h6]
  rw [h7] at h5
  have h8 : L * 1267650600228229401496703205376 ≥ L * 40000 + L * 9223372036854775808 + L * 50000 := by omega
  omega
def spTake : Sp := fun vs H Q _ => ∃ (p : Addr) (m : Int) (n : Nat), vs = [.ref p, .int m] ∧ 0 < m ∧ m < 1073741824 ∧ Bx H p n ∧ n < Lim ∧ ∀ (r : Int) H', 0 ≤ r → r < m → ExB p H H' → Bx H' p (n + 1) → Q (.int r) H'
theorem divW_ok {i m : Int} (h : 0 < m) (g : m < 1073741824) : CDivW i m := wide_div h (show m.natAbs < 2 ^ 30 by
  have : (2 : Nat) ^ 30 = 1073741824 := by decide
  omega) (by decide) (by decide)
theorem fmod_lo {a m : Int} (h : 0 < m) : 0 ≤ a.fmod m := Int.fmod_nonneg_of_pos a h
theorem fmod_hi {a m : Int} (h : 0 < m) : a.fmod m < m := Int.fmod_lt_of_pos a h
end HH
set_option maxHeartbeats 4000000
namespace HH
open PySem PySem.Spec PyProof.Rows L2 Evl RZ
inductive TyN (K : PySem.W.Frag) (H : Hp) : V → String → Prop where
  | non : TyN K H .non "NoneType"
  | bl (b : Bool) : TyN K H (.bl b) "bool"
  | int (i : Int) : TyN K H (.int i) "int"
  | str (s : Str) : TyN K H (.str s) "str"
  | lst {a : Addr} {xs : List V} (e : SqL K H a xs) : TyN K H (.ref a) "list"
  | tup {a : Addr} {xs : List V} (e : SqT K H a xs) : TyN K H (.ref a) "tuple"
theorem TyN.ex {K : PySem.W.Frag} {H H' : Hp} {x : V} {t : String} (h : TyN K H x t) (e : Ex H H') : TyN K H' x t := by
  cases h with
  | non => exact .non
  | bl b => exact .bl b
  | int i => exact .int i
  | str s => exact .str s
  | lst h => exact .lst (ex_l e h)
  | tup h => exact .tup (ex_t e h)
theorem TyN.x {K : PySem.W.Frag} {H : Hp} {x : V} {t : String} (h : TyN K H x t) : TyX K H x (.type t) := by
  cases h with
  | non => exact .base .non
  | bl b => exact .base (.bl b)
  | int i => exact .base (.int i)
  | str s => exact .base (.str s)
  | lst h =>
    rcases h with (h | ⟨o, h⟩) | h
    · exact .base (.lst h)
    · exact .base (.frz h)
    · obtain ⟨o, _, _, h1, h2, _⟩ := h
      exact .kList h1 h2
  | tup h =>
    rcases h with (h | ⟨o, h⟩) | h
    · exact .base (.tup h)
    · exact .fTuple h
    · obtain ⟨o, _, _, h1, h2, _⟩ := h
      exact .kTuple h1 h2
section
variable {K : PySem.W.Frag} {σ : L2.St} {H H' : Hp} {ta tb te tx : TE} {x y z v : V} {D : Ends} {tz : TS}
theorem ev_isi {T C : String} {b : Bool} (h : Ev te σ H x) (ht : TyN K H x T) (k : kitB T C = some b) : Ev (tCB (rIsi K) (tCons te (tCons (tC (.ty C)) tNil))) σ H (.bl b) := fun H1 e Q q =>
  h H1 e _ fun H2 e2 => ⟨x, .ty C, .type T, .type C, b, rfl, .ty C, (ht.ex (e.trans e2)).x, kit_ty k, q H2 e2⟩
theorem ev_isiT {T C C2 : String} {b : Bool} (h : Ev te σ H x) (ht : TyN K H x T) (k : PySem.W.kitAny K (.type T) [.type C, .type C2] = some b) : Ev (tCB (rIsiT K) (tCons te (tCons (tTup (tCons (tC (.ty C)) (tCons (tC (.ty C2)) tNil))) tNil))) σ H (.bl b) := fun H1 e Q q =>
  h H1 e _ fun H2 e2 => ⟨by show 2 ≤ sizeLine; decide, fun p hp => ⟨x, p, [.ty C, .ty C2], .type T, [.type C, .type C2], b, rfl, upd_same, .cons (.ty C) (.cons (.ty C2) .nil), (ht.ex ((e.trans e2).trans (Ex.new hp))).x, k, q _ (e2.trans (Ex.new hp))⟩⟩
theorem rv_isN2 {b : Bool} (h : decide (x = V.non) = b) : RV (fun x y H Q => y = .non ∧ Q (.bl (decide (x = .non))) H) x .non H (.bl b) := fun H1 _ _ q => ⟨rfl, by rw [h]; exact q H1 (Ex.refl H1)⟩
end
theorem walk_zipT {K : PySem.W.Frag} {a b : Addr} {xs ys : List V} {n : Nat} (hn : n = min xs.length ys.length) : Walk (ItzT K a b) n (fun H => SqT K H a xs ∧ SqT K H b ys) (YPair (fun i => xs[i]?) (fun i => ys[i]?)) := by
  subst hn
  refine ⟨fun i _ hi q => ?_, fun _ q => ⟨xs, ys, q.1, q.2, by omega⟩, fun i H v H' _ q y => ?_⟩
  · have g1 : i < xs.length := by omega
    have g2 : i < ys.length := by omega
    exact ⟨xs, ys, xs[i], ys[i], q.1, q.2, by simp [g1], by simp [g2]⟩
  · obtain ⟨T, x, z, h1, h2, h3, h4, h5⟩ := y
    exact ⟨T, x, z, h1, h2, h3, h4 xs q.1, h5 ys q.2⟩
def Flat : V → Prop
  | .int _ => True
  | .bl _ => True
  | .str _ => True
  | .non => True
  | _ => False
def Alike (K : PySem.W.Frag) (H : Hp) : Nat → V → V → Prop
  | 0, _, _ => False
  | d + 1, x, y => (x = y ∧ Flat x) ∨ ∃ (a b : Addr) (xs ys : List V), x = .ref a ∧ y = .ref b ∧ ((SqL K H a xs ∧ SqL K H b ys) ∨ (SqT K H a xs ∧ SqT K H b ys)) ∧ xs.length = ys.length ∧ xs.length ≤ 40000 ∧
    ∀ (i : Nat) (u v : V), xs[i]? = some u → ys[i]? = some v → Alike K H d u v
theorem Alike.ex {K : PySem.W.Frag} {H H' : Hp} (e : Ex H H') : ∀ {d : Nat} {x y : V}, Alike K H d x y → Alike K H' d x y
  | 0, _, _, h => h
  | d + 1, x, y, h => by
    rcases h with h | ⟨a, b, xs, ys, h1, h2, h3, h4, h5, h6⟩
    · exact .inl h
    · refine .inr ⟨a, b, xs, ys, h1, h2, ?_, h4, h5, fun i u v hu hv => Alike.ex e (h6 i u v hu hv)⟩
      rcases h3 with h3 | h3
      · exact .inl ⟨ex_l e h3.1, ex_l e h3.2⟩
      · exact .inr ⟨ex_t e h3.1, ex_t e h3.2⟩
def spSame (K : PySem.W.Frag) (d : Nat) : Sp := fun vs H Q _ => ∃ x y, vs = [x, y] ∧ Alike K H d x y ∧ RetV (.bl true) H Q
theorem has_none {P : Program} {w : World} {K : PySem.W.Frag} {mg : Str → Option Value} {base : Heap} {f : Addr} {fd : FuncData} {ps : List Str} : FnOk P w K mg base CX0 0 f fd ps (spSame K 0) :=
  ⟨fun _ _ _ _ h => by obtain ⟨_, _, _, h, _⟩ := h; exact h.elim, fun _ _ _ _ _ _ _ _ _ _ _ _ _ h => by obtain ⟨_, _, _, h, _⟩ := h; exact h.elim⟩
section
variable {K : PySem.W.Frag} {σ : L2.St} {H H' : Hp}
theorem el_same {d : Nat} {a b : Addr} {xs ys : List V} (hl : xs.length = ys.length) (hz : xs.length ≤ 40000) (h3 : (SqL K H a xs ∧ SqL K H b ys) ∨ (SqT K H a xs ∧ SqT K H b ys)) (h6 : ∀ (i : Nat) (u v : V), xs[i]? = some u → ys[i]? = some v → Alike K H d u v) :
    EvL (tLc (iZipA K (tCons (tVar 0) (tCons (tVar 1) tNil))) (gTup K 2 (gCons (gName 2) (gCons (gName 3) gNil))) tYes (tCall (spSame K d) [] E0 (tCons (tVar 2) (tCons (tVar 3) tNil))) [2, 3]) [some (.ref a), some (.ref b), none, none] H ((List.replicate xs.length true).map V.bl) := fun H0 e Q q => by
  have turn : ∀ (Dl : Addr) (i : Nat) (x : V) (H1 H2 : Hp), H0 Dl = none → i < xs.length → (Ex H0 H1 ∧ H1 Dl = some (.lst ((List.replicate i true).map V.bl))) → YPair (fun i => xs[i]?) (fun i => ys[i]?) i H1 x H2 →
      gTup K 2 (gCons (gName 2) (gCons (gName 3) gNil)) x (wipe [some (.ref a), some (.ref b), none, none] [2, 3]) H2 fun σ2 H3 => wipe σ2 [2, 3] = wipe [some (.ref a), some (.ref b), none, none] [2, 3] ∧ tYes σ2 H3 fun b H4 =>
      if b = true then tCall (spSame K d) [] E0 (tCons (tVar 2) (tCons (tVar 3) tNil)) σ2 H4 fun y H5 => ∃ acc, H5 Dl = some (.lst acc) ∧ acc.length < sizeLine ∧ (Ex H0 (upd H5 Dl (.lst (acc ++ [y]))) ∧ (upd H5 Dl (.lst (acc ++ [y]))) Dl = some (.lst ((List.replicate (i + 1) true).map V.bl))) else (Ex H0 H4 ∧ H4 Dl = some (.lst ((List.replicate (i + 1) true).map V.bl))) := by
    intro Dl i x H1 H2 hD hi p y
    obtain ⟨T, u, v, rfl, nT, rfl, hu, hv⟩ := y
    refine ⟨T, [u, v], rfl, st_of upd_same, rfl, u, [v], rfl, v, [], rfl, rfl, rfl, ?_⟩
    show tCall (spSame K d) [] E0 (tCons (tVar 2) (tCons (tVar 3) tNil)) _ _ _
    have e2 : Ex H0 (upd H1 T (.tup [u, v])) := p.1.trans (Ex.new nT)
    refine ⟨u, rfl, v, rfl, u, v, rfl, (h6 i u v hu hv).ex (e.trans e2), fun H5 e5 => ⟨_, e5 _ _ ((Ex.new nT) _ _ p.2), ?_, ?_, ?_⟩⟩
    · rw [List.length_map, List.length_replicate]
      exact sz_lt (by omega)
    · exact Ex.mut (e2.trans e5) hD
    · rw [upd_same, List.replicate_succ', List.map_append]
      rfl
  rcases h3 with ⟨ha, hb⟩ | ⟨ha, hb⟩
  · refine ⟨.ref a, rfl, .ref b, rfl, a, b, xs, ys, rfl, .inl ⟨ex_l e ha, ex_l e hb, fun Dl hD => ?_⟩⟩
    refine lc_it (walk_zip (n := xs.length) (xs := xs) (ys := ys) (by omega)) (fun i H1 => Ex H0 H1 ∧ H1 Dl = some (.lst ((List.replicate i true).map V.bl))) ⟨Ex.new hD, upd_same⟩ (fun i H1 _ p => ⟨ex_l (e.trans p.1) ha, ex_l (e.trans p.1) hb⟩) (fun i x H1 H2 hi p y => turn Dl i x H1 H2 hD hi p y) (fun H1 p => q Dl H1 hD p.1 p.2)
  · refine ⟨.ref a, rfl, .ref b, rfl, a, b, xs, ys, rfl, .inr ⟨ex_t e ha, ex_t e hb, fun Dl hD => ?_⟩⟩
    refine lc_it (walk_zipT (n := xs.length) (xs := xs) (ys := ys) (by omega)) (fun i H1 => Ex H0 H1 ∧ H1 Dl = some (.lst ((List.replicate i true).map V.bl))) ⟨Ex.new hD, upd_same⟩ (fun i H1 _ p => ⟨ex_t (e.trans p.1) ha, ex_t (e.trans p.1) hb⟩) (fun i x H1 H2 hi p y => turn Dl i x H1 H2 hD hi p y) (fun H1 p => q Dl H1 hD p.1 p.2)
theorem ev_allT {n : Nat} {te : TE} (h : EvL te σ H ((List.replicate n true).map V.bl)) : Ev (tCB (rAll K) (tCons te tNil)) σ H (.bl true) := fun H1 e Q q =>
  h H1 e _ fun p H2 hp e2 h2 => ⟨p, List.replicate n true, rfl, sq_of h2, by
    have e3 : (List.replicate n true).all id = true := by
      rw [List.all_eq_true]
      intro x hx
      rw [(List.mem_replicate.mp hx).2]
      rfl
    rw [e3]
    exact q H2 e2⟩
theorem ev_lenA {a : Addr} {xs : List V} {te : TE} (h : Ev te σ H (.ref a)) (h3 : SqL K H a xs ∨ SqT K H a xs) : Ev (tCB (rLenS K) (tCons te tNil)) σ H (.int (xs.length : Int)) := fun H1 e Q q =>
  h H1 e _ fun H2 e2 => ⟨a, xs, rfl, by
    rcases h3 with h3 | h3
    · exact .inl (ex_l (e.trans e2) h3)
    · exact .inr (ex_t (e.trans e2) h3), q H2 e2⟩
end
theorem kit_list {K : PySem.W.Frag} : PySem.W.kitAny K (.type "list") [.type "list", .type "tuple"] = some true := kitAny_cons (b := true) (kit_ty (by decide +kernel)) (fun h => by cases h) (fun _ => rfl)
theorem kit_tuple {K : PySem.W.Frag} : PySem.W.kitAny K (.type "tuple") [.type "list", .type "tuple"] = some true := kitAny_cons (b := false) (kit_ty (by decide +kernel)) (fun _ => kitAny_cons (b := true) (kit_ty (by decide +kernel)) (fun h => by cases h) (fun _ => rfl)) (fun h => by cases h)
theorem kit_int {K : PySem.W.Frag} : PySem.W.kitAny K (.type "int") [.type "list", .type "tuple"] = some false := kitAny_cons (b := false) (kit_ty (by decide +kernel)) (fun _ => kitAny_cons (b := false) (kit_ty (by decide +kernel)) (fun _ => kitAny_nil) (fun h => by cases h)) (fun h => by cases h)
theorem kit_bool {K : PySem.W.Frag} : PySem.W.kitAny K (.type "bool") [.type "list", .type "tuple"] = some false := kitAny_cons (b := false) (kit_ty (by decide +kernel)) (fun _ => kitAny_cons (b := false) (kit_ty (by decide +kernel)) (fun _ => kitAny_nil) (fun h => by cases h)) (fun h => by cases h)
theorem kit_str {K : PySem.W.Frag} : PySem.W.kitAny K (.type "str") [.type "list", .type "tuple"] = some false := kitAny_cons (b := false) (kit_ty (by decide +kernel)) (fun _ => kitAny_cons (b := false) (kit_ty (by decide +kernel)) (fun _ => kitAny_nil) (fun h => by cases h)) (fun h => by cases h)
theorem kit_non {K : PySem.W.Frag} : PySem.W.kitAny K (.type "NoneType") [.type "list", .type "tuple"] = some false := kitAny_cons (b := false) (kit_ty (by decide +kernel)) (fun _ => kitAny_cons (b := false) (kit_ty (by decide +kernel)) (fun _ => kitAny_nil) (fun h => by cases h)) (fun h => by cases h)
end HH
set_option maxHeartbeats 4000000
namespace HH
open PySem PySem.Spec PyProof.Rows L2 Evl RZ
def spOf (K : PySem.W.Frag) : Sp := fun vs H Q _ => ∃ (p l : Addr) (xs : List V) (n : Nat), vs = [.ref p, .ref l] ∧ SqL K H l xs ∧ 0 < xs.length ∧ xs.length < 100000 ∧ l ≠ p ∧ Bx H p n ∧ n < Lim ∧ ∀ (r : Nat) (x : V) H', xs[r]? = some x → ExB p H H' → Bx H' p (n + 1) → Q x H'
def spDip (K : PySem.W.Frag) : Sp := fun vs H Q _ => ∃ (a : Addr) (k : Nat) (ns : List Int), vs = [.ref a, .int (k : Int)] ∧ SqL K H a (ns.map V.int) ∧ k ≤ 100 ∧ ∀ p H', H p = none → Ex H H' → Bx H' p 0 → Q (.ref p) H'
def spFolded (K : PySem.W.Frag) : Sp := fun vs H Q _ => ∃ (a : Addr) (m : Nat) (ns : List Int), vs = [.ref a, .int (m : Int)] ∧ 0 < m ∧ m ≤ 10 ∧ SqL K H a (ns.map V.int) ∧ ns.length ≤ 63 ∧ ∀ p H' (ms : List Int), H p = none → Ex H H' → ms.length ≤ m → H' p = some (.lst (ms.map V.int)) → Q (.ref p) H'
def Tame (b : Int × Int) : Prop := -(10 ^ 12) < b.1 ∧ b.1 < 10 ^ 12 ∧ 0 ≤ b.2 ∧ b.2 < 10 ^ 12
def spRow (K : PySem.W.Frag) : Sp := fun vs H Q _ => ∃ (p : Addr) (m : Nat) (n : Nat), vs = [.ref p, .int (m : Int)] ∧ 0 < m ∧ m ≤ 30 ∧ Bx H p n ∧ n + 100 < Lim ∧ ∀ v H' (rs : Row), ExB p H H' → Bx H' p (n + 100) → RowAt K H' v rs → 0 < rs.length → rs.length ≤ m → (∀ b ∈ rs, Tame b) → Q v H'
section
variable {K : PySem.W.Frag} {σ : L2.St} {H H' : Hp} {ta tb te tx : TE} {x y z v : V} {D : Ends} {tz : TS}
theorem el_listN {xs : List V} (ha : EvL ta σ H xs) : EvL (tCB (rListS K) (tCons ta tNil)) σ H xs := fun H1 e Q q =>
  ha H1 e _ fun p H2 hp e2 h2 => ⟨p, xs, rfl, .inl (sq_of h2), fun l hl => q l _ (fresh_back e2 hl) (e2.trans (Ex.new hl)) upd_same⟩
theorem rc_abs {i : Int} : RC (fun xs H Q => ∃ i, xs = [.int i] ∧ Q (.int (if i < 0 then -i else i)) H) [.int i] H (.int (if i < 0 then -i else i)) := fun H1 _ _ q => ⟨i, rfl, q H1 (Ex.refl H1)⟩
theorem rc_intB {b : Bool} : RC (fun xs H Q => (∃ i, xs = [.int i] ∧ Q (.int i) H) ∨ ∃ k, xs = [.bl k] ∧ Q (.int (if k then 1 else 0)) H) [.bl b] H (.int (if b then 1 else 0)) := fun H1 _ _ q => .inr ⟨b, rfl, q H1 (Ex.refl H1)⟩
end
theorem at_ints {zs : List Int} {w : Int} (h0 : 0 ≤ w) (h1 : w < zs.length) : ∃ z, z ∈ zs ∧ atI (zs.map V.int) w = some (.int z) := by
  obtain ⟨k, rfl⟩ := Int.eq_ofNat_of_zero_le h0
  have hk : k < zs.length := by omega
  refine ⟨zs[k], List.getElem_mem hk, atI_nat ?_⟩
  rw [List.getElem?_map, List.getElem?_eq_getElem hk] <;> rfl
theorem b01 (b : Bool) : -(2 ^ 64) < (if b = true then (1 : Int) else 0) ∧ (if b = true then (1 : Int) else 0) < 2 ^ 64 := by
  cases b <;> decide
theorem b01n (b : Bool) : 0 ≤ (if b = true then (1 : Int) else 0) := by
  cases b <;> decide
theorem cut_ints (ns : List Int) (lo hi : Option Int) : ∃ ms : List Int, cutV (ns.map V.int) lo hi = ms.map V.int ∧ ms.length ≤ ns.length - HT.sIx ns.length 0 lo := by
  refine ⟨(ns.drop (HT.sIx ns.length 0 lo)).take (HT.sIx ns.length ns.length hi - HT.sIx ns.length 0 lo), ?_, ?_⟩
  · unfold cutV
    rw [List.length_map, List.map_take, List.map_drop]
  · rw [List.length_take, List.length_drop]
    omega
section
variable {K : PySem.W.Frag} {σ : L2.St} {H H' : Hp} {D : Ends} {tz tu : TS} {g : TG}
theorem q_forE {xs : List V} {tl : TE} (h : EvL tl σ H xs) (Pv : Addr → Nat → L2.St → Hp → Prop) (h0 : ∀ c H1, H c = none → Ex H H1 → H1 c = some (.lst xs) → Pv c 0 σ H1) (hl : ∀ c i σ' H', i ≤ xs.length → Pv c i σ' H' → SqL K H' c xs)
    (hs : ∀ c i x σ' H' T, xs[i]? = some x → Pv c i σ' H' → H' T = none → g (.ref T) σ' (upd H' T (.tup [.int (i : Nat), x])) fun σ2 H2 => tu { D with nx := Pv c (i + 1), ct := Pv c (i + 1), bk := tz D } σ2 H2) (hd : ∀ c σ' H', Pv c xs.length σ' H' → tz D σ' H') : tSeq (tFor (iEnum K (tCons tl tNil)) g tu) tz D σ H :=
  h H (Ex.refl H) _ fun c H1 hc e h1 => ⟨c, xs, rfl, sq_of h1, for_it (walk_enum (xs := xs)) (D := { D with nx := tz D }) (Pv c) (h0 c H1 hc e h1) (hl c) (fun i x σ' H' H2 hi p y => by
    obtain ⟨T, u, z, rfl, nT, rfl, hu, hz⟩ := y
    cases hu
    exact hs c i z σ' H' T hz p nT) (hd c)⟩
end
theorem fmod_nat (i m : Nat) : ((i : Nat) : Int).fmod ((m : Nat) : Int) = ((i % m : Nat) : Int) := by
  rw [Int.fmod_eq_emod_of_nonneg _ (Int.natCast_nonneg m)]
  rfl
theorem ExB.back {b p : Addr} {H H' : Hp} (e : ExB b H H') (h : H' p = none) (n : p ≠ b) : H p = none := by
  cases z : H p with
  | none => rfl
  | some o =>
    rw [e p o n z] at h
    cases h
theorem mul_bd {r i : Int} (h0 : 0 ≤ r) (h1 : r ≤ 3) (g0 : 0 ≤ i) (g1 : i ≤ 40) : 0 ≤ r * i ∧ r * i ≤ 120 :=
  ⟨Int.mul_nonneg h0 g0, Int.le_trans (Int.mul_le_mul h1 g1 g0 (by decide)) (by decide)⟩
end HH
set_option maxHeartbeats 4000000
namespace HH
open PySem PySem.Spec PyProof.Rows L2 Evl RZ
def Nice (k : Nat) (d : PyData) : Prop := d.canLay0 = true ∧ d.depth ≤ k
theorem nice_all {k : Nat} : ∀ {ds : List PyData}, (∀ d ∈ ds, Nice k d) → PyData.canLayAll0 ds = true ∧ PyData.depthAll ds ≤ k
  | [], _ => ⟨by simp [PyData.canLayAll0], by simp [PyData.depthAll]⟩
  | d :: ds, h => by
    have h1 := h d (List.mem_cons_self ..)
    have h2 := nice_all (fun e he => h e (List.mem_cons_of_mem _ he))
    refine ⟨by simp [PyData.canLayAll0, h1.1, h2.1], ?_⟩
    have e : PyData.depthAll (d :: ds) = max d.depth (PyData.depthAll ds) := by simp [PyData.depthAll]
    rw [e]
    have := h1.2
    have := h2.2
    omega
theorem nice_int (k : Nat) (i : Int) : Nice k (.int i) := ⟨by simp [PyData.canLay0], by simp [PyData.depth]⟩
theorem nice_list {k : Nat} {ds : List PyData} (h : ∀ d ∈ ds, Nice k d) : Nice (k + 1) (.list ds) := ⟨by simp [PyData.canLay0, (nice_all h).1], by
  have := (nice_all h).2
  simp [PyData.depth]
  omega⟩
theorem nice_tuple {k : Nat} {ds : List PyData} (h : ∀ d ∈ ds, Nice k d) : Nice (k + 1) (.tuple ds) := ⟨by simp [PyData.canLay0, (nice_all h).1], by
  have := (nice_all h).2
  simp [PyData.depth]
  omega⟩
theorem Nice.shaped {k : Nat} {d : PyData} (h : Nice k d) (hk : k ≤ 64) : SeqAt.shaped d = true := by
  unfold SeqAt.shaped
  rw [h.1, decide_eq_true (Nat.le_trans h.2 hk)]
  rfl
theorem dp_ints {K : PySem.W.Frag} {H : Hp} : ∀ ns : List Int, DpAll K H (ns.map V.int) (ns.map PyData.int)
  | [] => .nil
  | n :: ns => .cons (.int n) (dp_ints ns)
theorem nice_ints (ns : List Int) : ∀ d ∈ ns.map PyData.int, Nice 0 d := fun d hd => by
  obtain ⟨i, _, rfl⟩ := List.mem_map.mp hd
  exact nice_int 0 i
mutual
theorem dp_ex {K : PySem.W.Frag} {H H' : Hp} (e : Ex H H') : ∀ {v : V} {d : PyData}, Dp K H v d → Dp K H' v d
  | _, _, .non => .non
  | _, _, .bl b => .bl b
  | _, _, .int i => .int i
  | _, _, .str x => .str x
  | _, _, .lst h g => .lst (ex_l e h) (dps_ex e g)
  | _, _, .tup h g => .tup (ex_t e h) (dps_ex e g)
theorem dps_ex {K : PySem.W.Frag} {H H' : Hp} (e : Ex H H') : ∀ {v : List V} {d : List PyData}, DpAll K H v d → DpAll K H' v d
  | _, _, .nil => .nil
  | _, _, .cons h g => .cons (dp_ex e h) (dps_ex e g)
end
theorem dps_len {K : PySem.W.Frag} {H : Hp} : ∀ {v : List V} {d : List PyData}, DpAll K H v d → v.length = d.length
  | _, _, .nil => rfl
  | _, _, .cons h g => by
    rw [List.length_cons, List.length_cons, dps_len g]
section
variable {K : PySem.W.Frag} {σ : L2.St} {H H' : Hp} {te : TE}
theorem et_neNil {k : Nat} {a : Addr} {xs : List V} {ds : List PyData} (h : Ev te σ H (.ref a)) (ha : SqL K H a xs) (hd : DpAll K H xs ds) (hn : ∀ d ∈ ds, Nice k d) (hk : k < 64) : EvT (tTest (tOp (rNeD K) te (tLst tNil))) σ H (!xs.isEmpty) := fun H1 e Q q =>
  h H1 e _ fun H2 e2 => ⟨by show 0 ≤ sizeLine; decide, fun p hp => by
    have e3 := (e.trans e2).trans (Ex.new (o := .lst []) hp)
    refine ⟨.list ds, .list [], .lst (ex_l e3 ha) (dps_ex e3 hd), .lst (sq_of upd_same) .nil, (nice_list hn).shaped (by omega), (nice_list (k := 0) (fun d h => by cases h)).shaped (by omega), _, rfl, ?_⟩
    have e4 : PyData.eqv (.list ds) (.list []) = xs.isEmpty := by
      have hl := dps_len hd
      cases ds with
      | nil =>
        have : xs = [] := List.length_eq_zero_iff.mp hl
        subst this
        simp [PyData.eqv, PyData.eqvAll]
      | cons d ds =>
        cases xs with
        | nil => cases hl
        | cons x xs => simp [PyData.eqv, PyData.eqvAll]
    rw [e4]
    exact q _ (e2.trans (Ex.new hp))⟩
end
def tsum : Row → Int
  | [] => 0
  | b :: r => b.2 + tsum r
end HH
set_option maxHeartbeats 4000000
namespace HH
abbrev Cow := Nat × (Int × Int)
def Chk (id : Nat) : Int → List Cow → Prop
  | _, [] => True
  | c, y :: r => (y.1 < id → y.2.1 < c) ∧ Chk id (if y.1 < id then c + y.2.2 else c) r
def PInv : List Cow → Prop
  | [] => True
  | x :: r => Chk x.1 (x.2.1 + x.2.2) r ∧ PInv r
def FChk (id : Nat) : Int → List Cow → Prop
  | _, [] => True
  | c, y :: r => (y.1 < id → c < y.2.1) ∧ FChk id (if id < y.1 then c + y.2.2 else c) r
def FInv : List Cow → Prop
  | [] => True
  | x :: r => FChk x.1 x.2.1 r ∧ FInv r
def tag : Nat → Row → List Cow
  | _, [] => []
  | k, b :: r => (k, b) :: tag (k + 1) r
theorem tag_snd : ∀ (k : Nat) (rs : Row), (tag k rs).map (·.2) = rs
  | _, [] => rfl
  | k, b :: r => by
    show b :: (tag (k + 1) r).map (·.2) = b :: r
    rw [tag_snd]
theorem tag_fst : ∀ (k : Nat) (rs : Row), (tag k rs).map (·.1) = (List.range rs.length).map (k + ·)
  | _, [] => rfl
  | k, b :: r => by
    show k :: (tag (k + 1) r).map (·.1) = (List.range (r.length + 1)).map (k + ·)
    rw [tag_fst, List.range_succ_eq_map, List.map_cons, List.map_map]
    have e : (List.range r.length).map (fun x => k + 1 + x) = (List.range r.length).map ((fun x => k + x) ∘ Nat.succ) := List.map_congr_left fun i _ => by
      show k + 1 + i = k + (i + 1)
      omega
    rw [e]
    rfl
theorem tag_len (k : Nat) (rs : Row) : (tag k rs).length = rs.length := by
  have := congrArg List.length (tag_snd k rs)
  rw [List.length_map] at this
  exact this
theorem chk_tag : ∀ (id k : Nat) (c : Int) (rs : Row), id ≤ k → Chk id c (tag k rs)
  | _, _, _, [], _ => True.intro
  | id, k, c, b :: r, h => by
    refine ⟨fun h1 => ?_, ?_⟩
    · have h2 : k < id := h1
      omega
    · rw [if_neg (show ¬ k < id by omega)]
      exact chk_tag id (k + 1) c r (by omega)
theorem fchk_tag : ∀ (id k : Nat) (c : Int) (rs : Row), id ≤ k → FChk id c (tag k rs)
  | _, _, _, [], _ => True.intro
  | id, k, c, b :: r, h => by
    refine ⟨fun h1 => ?_, fchk_tag id (k + 1) _ r (by omega)⟩
    have h2 : k < id := h1
    omega
theorem pinv_tag : ∀ (k : Nat) (rs : Row), PInv (tag k rs)
  | _, [] => True.intro
  | k, b :: r => ⟨chk_tag k (k + 1) _ r (by omega), pinv_tag (k + 1) r⟩
theorem finv_tag : ∀ (k : Nat) (rs : Row), FInv (tag k rs)
  | _, [] => True.intro
  | k, b :: r => ⟨fchk_tag k (k + 1) _ r (by omega), finv_tag (k + 1) r⟩
theorem pinv_tail : ∀ {pre post : List Cow}, PInv (pre ++ post) → PInv post
  | [], _, h => h
  | _ :: pre, _, h => pinv_tail (pre := pre) h.2
theorem finv_tail : ∀ {pre post : List Cow}, FInv (pre ++ post) → FInv post
  | [], _, h => h
  | _ :: pre, _, h => finv_tail (pre := pre) h.2
theorem pinv_lt {pre post : List Cow} {a b : Cow} (h : PInv (pre ++ a :: b :: post)) (hp : b.2.1 - a.2.2 > a.2.1) (hne : a.1 ≠ b.1) : a.1 < b.1 := by
  have h1 := (pinv_tail h).1.1
  rcases Nat.lt_or_ge a.1 b.1 with h2 | h2
  · exact h2
  · have := h1 (by omega)
    omega
theorem finv_lt {pre post : List Cow} {a b : Cow} (h : FInv (pre ++ a :: b :: post)) (hp : a.2.1 > b.2.1) (hne : a.1 ≠ b.1) : a.1 < b.1 := by
  have h1 := (finv_tail h).1.1
  rcases Nat.lt_or_ge a.1 b.1 with h2 | h2
  · exact h2
  · have := h1 (by omega)
    omega
theorem chk_pass {id : Nat} {a b : Cow} {post : List Cow} (hab : a.1 < b.1) (ht : 0 ≤ b.2.2) (hp : b.2.1 - a.2.2 > a.2.1) : ∀ {pre : List Cow} {c : Int}, Chk id c (pre ++ a :: b :: post) → Chk id c (pre ++ (b.1, (b.2.1 - a.2.2, b.2.2)) :: a :: post)
  | [], c, h => by
    obtain ⟨h1, h2, h3⟩ := h
    show (b.1 < id → b.2.1 - a.2.2 < c) ∧ (a.1 < id → a.2.1 < if b.1 < id then c + b.2.2 else c) ∧ Chk id _ post
    by_cases hb : b.1 < id
    · have ha : a.1 < id := by omega
      rw [if_pos ha] at h2 h3
      rw [if_pos hb] at h3 ⊢
      have g1 := h1 ha
      have g2 := h2 hb
      refine ⟨fun _ => by omega, fun _ => by omega, ?_⟩
      rw [if_pos ha]
      have e : c + b.2.2 + a.2.2 = c + a.2.2 + b.2.2 := by omega
      show Chk id (c + b.2.2 + a.2.2) post
      rw [e]
      exact h3
    · rw [if_neg hb] at h3 ⊢
      refine ⟨fun z => absurd z hb, h1, ?_⟩
      exact h3
  | x :: pre, c, h => ⟨h.1, chk_pass hab ht hp (pre := pre) h.2⟩
theorem fchk_fall {id : Nat} {a b : Cow} {post : List Cow} (hab : a.1 < b.1) (ht : 0 ≤ b.2.2) (hp : a.2.1 > b.2.1) : ∀ {pre : List Cow} {c : Int}, FChk id c (pre ++ a :: b :: post) → FChk id c (pre ++ b :: (a.1, (a.2.1 + b.2.2, a.2.2)) :: post)
  | [], c, h => by
    obtain ⟨h1, h2, h3⟩ := h
    show (b.1 < id → c < b.2.1) ∧ (a.1 < id → (if id < b.1 then c + b.2.2 else c) < a.2.1 + b.2.2) ∧ FChk id (if id < a.1 then (if id < b.1 then c + b.2.2 else c) + a.2.2 else (if id < b.1 then c + b.2.2 else c)) post
    by_cases ha : id < a.1
    · have hb : id < b.1 := by omega
      rw [if_pos ha] at h2 h3
      rw [if_pos hb] at h3
      rw [if_pos ha, if_pos hb]
      refine ⟨fun z => by omega, fun z => by omega, ?_⟩
      have e : c + b.2.2 + a.2.2 = c + a.2.2 + b.2.2 := by omega
      rw [e]
      exact h3
    · rw [if_neg ha] at h2 h3
      rw [if_neg ha]
      by_cases hb : id < b.1
      · rw [if_pos hb] at h3
        rw [if_pos hb]
        refine ⟨fun z => by omega, fun z => ?_, h3⟩
        have := h1 z
        omega
      · rw [if_neg hb] at h3
        rw [if_neg hb]
        refine ⟨h2, fun z => ?_, h3⟩
        have := h1 z
        omega
  | x :: pre, c, h => ⟨h.1, fchk_fall hab ht hp (pre := pre) h.2⟩
theorem pinv_pass {a b : Cow} {post : List Cow} (hab : a.1 < b.1) (ht : 0 ≤ b.2.2) (hp : b.2.1 - a.2.2 > a.2.1) : ∀ {pre : List Cow}, PInv (pre ++ a :: b :: post) → PInv (pre ++ (b.1, (b.2.1 - a.2.2, b.2.2)) :: a :: post)
  | [], h => by
    obtain ⟨⟨_, h1⟩, h2, h3⟩ := h
    rw [if_neg (show ¬ b.1 < a.1 by omega)] at h1
    refine ⟨⟨fun _ => ?_, ?_⟩, h1, h3⟩
    · show a.2.1 < b.2.1 - a.2.2 + b.2.2
      omega
    · show Chk b.1 (if a.1 < b.1 then b.2.1 - a.2.2 + b.2.2 + a.2.2 else _) post
      rw [if_pos hab]
      have e : b.2.1 - a.2.2 + b.2.2 + a.2.2 = b.2.1 + b.2.2 := by omega
      rw [e]
      exact h2
  | x :: pre, h => ⟨chk_pass hab ht hp h.1, pinv_pass hab ht hp (pre := pre) h.2⟩
theorem finv_fall {a b : Cow} {post : List Cow} (hab : a.1 < b.1) (ht : 0 ≤ b.2.2) (hp : a.2.1 > b.2.1) : ∀ {pre : List Cow}, FInv (pre ++ a :: b :: post) → FInv (pre ++ b :: (a.1, (a.2.1 + b.2.2, a.2.2)) :: post)
  | [], h => by
    obtain ⟨⟨_, h1⟩, h2, h3⟩ := h
    rw [if_pos hab] at h1
    refine ⟨⟨fun _ => ?_, ?_⟩, h1, h3⟩
    · show b.2.1 < a.2.1 + b.2.2
      omega
    · show FChk b.1 (if b.1 < a.1 then b.2.1 + a.2.2 else b.2.1) post
      rw [if_neg (by omega)]
      exact h2
  | x :: pre, h => ⟨fchk_fall hab ht hp h.1, finv_fall hab ht hp (pre := pre) h.2⟩
def cnt (a : Nat) : List Nat → Nat
  | [] => 0
  | y :: r => (if a < y then 1 else 0) + cnt a r
def asc : List Nat → Nat
  | [] => 0
  | a :: r => cnt a r + asc r
theorem cnt_swap {x a b : Nat} {post : List Nat} : ∀ pre : List Nat, cnt x (pre ++ a :: b :: post) = cnt x (pre ++ b :: a :: post)
  | [] => by
    show (if x < a then 1 else 0) + ((if x < b then 1 else 0) + cnt x post) = (if x < b then 1 else 0) + ((if x < a then 1 else 0) + cnt x post)
    omega
  | y :: pre => by
    show (if x < y then 1 else 0) + cnt x (pre ++ a :: b :: post) = (if x < y then 1 else 0) + cnt x (pre ++ b :: a :: post)
    rw [cnt_swap pre]
theorem asc_swap {a b : Nat} {post : List Nat} (h : a < b) : ∀ pre : List Nat, asc (pre ++ a :: b :: post) = asc (pre ++ b :: a :: post) + 1
  | [] => by
    show ((if a < b then 1 else 0) + cnt a post) + (cnt b post + asc post) = ((if b < a then 1 else 0) + cnt b post) + (cnt a post + asc post) + 1
    rw [if_pos h, if_neg (by omega)]
    omega
  | x :: pre => by
    show cnt x (pre ++ a :: b :: post) + asc (pre ++ a :: b :: post) = cnt x (pre ++ b :: a :: post) + asc (pre ++ b :: a :: post) + 1
    rw [cnt_swap pre, asc_swap h pre]
    omega
theorem cnt_le (a : Nat) : ∀ l : List Nat, cnt a l ≤ l.length
  | [] => Nat.le_refl _
  | y :: r => by
    show (if a < y then 1 else 0) + cnt a r ≤ r.length + 1
    have := cnt_le a r
    split <;> omega
theorem asc_le : ∀ l : List Nat, asc l ≤ l.length * l.length
  | [] => Nat.le_refl _
  | a :: r => by
    show cnt a r + asc r ≤ (r.length + 1) * (r.length + 1)
    have h1 := cnt_le a r
    have h2 := asc_le r
    have e : (r.length + 1) * (r.length + 1) = r.length * r.length + 2 * r.length + 1 := by
      rw [Nat.add_mul, Nat.mul_add]
      omega
    omega
inductive PRun (L0 : List Cow) : List Cow → List (Int × Int) → Prop
  | nil : PRun L0 L0 []
  | step {pre post : List Cow} {a b : Cow} {ps : List (Int × Int)} : PRun L0 (pre ++ a :: b :: post) ps → b.2.1 - a.2.2 > a.2.1 → PRun L0 (pre ++ (b.1, (b.2.1 - a.2.2, b.2.2)) :: a :: post) (ps ++ [((a.1 : Int), (b.1 : Int))])
inductive FRun (L0 : List Cow) : List Cow → List (Int × Int) → Prop
  | nil : FRun L0 L0 []
  | step {pre post : List Cow} {a b : Cow} {ps : List (Int × Int)} : FRun L0 (pre ++ a :: b :: post) ps → a.2.1 > b.2.1 → FRun L0 (pre ++ b :: (a.1, (a.2.1 + b.2.2, a.2.2)) :: post) (ps ++ [((a.1 : Int), (b.1 : Int))])
structure Facts (n : Nat) (L : List Cow) (ps : List (Int × Int)) : Prop where
  len : L.length = n
  tl : ∀ x ∈ L, 0 ≤ x.2.2
  nd : (L.map (·.1)).Nodup
  few : ps.length + asc (L.map (·.1)) ≤ n * n
theorem nd_ne {pre post : List Cow} {a b : Cow} (h : ((pre ++ a :: b :: post).map (·.1)).Nodup) : a.1 ≠ b.1 := by
  rw [List.map_append] at h
  have h1 := (List.nodup_append.mp h).2.1
  intro e
  have h2 := (List.nodup_cons.mp h1).1
  apply h2
  show a.1 ∈ b.1 :: post.map (·.1)
  rw [e]
  exact List.mem_cons_self ..
theorem nd_swap {pre post : List Cow} {a b : Cow} {u v : Int × Int} (h : ((pre ++ a :: b :: post).map (·.1)).Nodup) : ((pre ++ (b.1, u) :: (a.1, v) :: post).map (·.1)).Nodup := by
  rw [List.map_append] at h ⊢
  refine (List.Perm.nodup_iff ?_).mp h
  exact List.Perm.append_left _ (List.Perm.swap ..)
theorem asc_step {pre post : List Cow} {a b : Cow} {u v : Int × Int} (h : a.1 < b.1) : asc ((pre ++ a :: b :: post).map (·.1)) = asc ((pre ++ (b.1, u) :: (a.1, v) :: post).map (·.1)) + 1 := by
  rw [List.map_append, List.map_append]
  exact asc_swap h (pre.map (·.1))
theorem facts_tag {rs : Row} (h : ∀ b ∈ rs, 0 ≤ b.2) : Facts rs.length (tag 0 rs) [] := by
  refine ⟨tag_len 0 rs, fun x hx => ?_, ?_, ?_⟩
  · apply h
    rw [← tag_snd 0 rs]
    exact List.mem_map_of_mem (f := (·.2)) hx
  · rw [tag_fst]
    have e : (fun x => 0 + x) = (id : Nat → Nat) := by
      funext x
      exact Nat.zero_add x
    rw [e, List.map_id]
    exact List.nodup_range
  · have := asc_le ((tag 0 rs).map (·.1))
    rw [List.length_map, tag_len] at this
    show 0 + asc _ ≤ _
    omega
theorem facts_pass {n : Nat} {pre post : List Cow} {a b : Cow} {ps : List (Int × Int)} {q : Int × Int} (f : Facts n (pre ++ a :: b :: post) ps) (i : PInv (pre ++ a :: b :: post)) (hp : b.2.1 - a.2.2 > a.2.1) :
    Facts n (pre ++ (b.1, (b.2.1 - a.2.2, b.2.2)) :: a :: post) (ps ++ [q]) ∧ PInv (pre ++ (b.1, (b.2.1 - a.2.2, b.2.2)) :: a :: post) ∧ asc ((pre ++ (b.1, (b.2.1 - a.2.2, b.2.2)) :: a :: post).map (·.1)) < asc ((pre ++ a :: b :: post).map (·.1)) := by
  have hab := pinv_lt i hp (nd_ne f.nd)
  have hs := asc_step (pre := pre) (post := post) (a := a) (b := b) (u := (b.2.1 - a.2.2, b.2.2)) (v := a.2) hab
  have hb := f.tl b (by simp)
  have ha := f.tl a (by simp)
  refine ⟨⟨?_, fun x hx => ?_, nd_swap (v := a.2) f.nd, ?_⟩, pinv_pass hab hb hp i, ?_⟩
  · rw [← f.len, List.length_append, List.length_append]
    rfl
  · rcases List.mem_append.mp hx with h | h
    · exact f.tl x (List.mem_append_left _ h)
    · rcases List.mem_cons.mp h with rfl | h
      · exact hb
      · rcases List.mem_cons.mp h with rfl | h
        · exact ha
        · exact f.tl x (by simp [h])
  · have := f.few
    rw [List.length_append]
    show ps.length + 1 + asc ((pre ++ (b.1, (b.2.1 - a.2.2, b.2.2)) :: (a.1, a.2) :: post).map (·.1)) ≤ n * n
    omega
  · show asc ((pre ++ (b.1, (b.2.1 - a.2.2, b.2.2)) :: (a.1, a.2) :: post).map (·.1)) < _
    omega
theorem facts_fall {n : Nat} {pre post : List Cow} {a b : Cow} {ps : List (Int × Int)} {q : Int × Int} (f : Facts n (pre ++ a :: b :: post) ps) (i : FInv (pre ++ a :: b :: post)) (hp : a.2.1 > b.2.1) :
    Facts n (pre ++ b :: (a.1, (a.2.1 + b.2.2, a.2.2)) :: post) (ps ++ [q]) ∧ FInv (pre ++ b :: (a.1, (a.2.1 + b.2.2, a.2.2)) :: post) ∧ asc ((pre ++ b :: (a.1, (a.2.1 + b.2.2, a.2.2)) :: post).map (·.1)) < asc ((pre ++ a :: b :: post).map (·.1)) := by
  have hab := finv_lt i hp (nd_ne f.nd)
  have hs := asc_step (pre := pre) (post := post) (a := a) (b := b) (u := b.2) (v := (a.2.1 + b.2.2, a.2.2)) hab
  have hb := f.tl b (by simp)
  have ha := f.tl a (by simp)
  refine ⟨⟨?_, fun x hx => ?_, nd_swap (u := b.2) f.nd, ?_⟩, finv_fall hab hb hp i, ?_⟩
  · rw [← f.len, List.length_append, List.length_append]
    rfl
  · rcases List.mem_append.mp hx with h | h
    · exact f.tl x (List.mem_append_left _ h)
    · rcases List.mem_cons.mp h with rfl | h
      · exact hb
      · rcases List.mem_cons.mp h with rfl | h
        · exact ha
        · exact f.tl x (by simp [h])
  · have := f.few
    rw [List.length_append]
    show ps.length + 1 + asc ((pre ++ (b.1, b.2) :: (a.1, (a.2.1 + b.2.2, a.2.2)) :: post).map (·.1)) ≤ n * n
    omega
  · show asc ((pre ++ (b.1, b.2) :: (a.1, (a.2.1 + b.2.2, a.2.2)) :: post).map (·.1)) < _
    omega
end HH
set_option maxHeartbeats 4000000
namespace HH
open PySem PySem.Spec PyProof.Rows L2 Evl RZ
def rowsOf (L : List Cow) : HH.Row := L.map (·.2)
def ordL (L : List Cow) : List V := L.map fun x => V.int (x.1 : Int)
theorem RowAt.exL {K : PySem.W.Frag} {H H' : Hp} {v : V} {rs : HH.Row} {q : Addr} {ys : List V} (h : RowAt K H v rs) (e : ExB q H H') (hy : H q = some (.lst ys)) : RowAt K H' v rs := by
  obtain ⟨a, vs, h1, h2, h3⟩ := h
  exact ⟨a, vs, h1, e.t hy h2, h3.exB e hy⟩
theorem cow_len (L : List Cow) : (rowsOf L).length = L.length := List.length_map ..
section
variable {K : PySem.W.Frag} {σ : L2.St} {H H' : Hp} {te to ta tc : TE} {D : Ends} {tz : TS}
end
structure EndAt (K : PySem.W.Frag) (H H' : Hp) (p : Addr) (q : Addr) (v' : V) (ot lp : Addr) (pvs : List V) (L : List Cow) (ps : List (Int × Int)) (n : Nat) : Prop where
  ex : ExB p H H'
  bx : Bx H' p (n + 1000)
  q : H' q = some (.tup [v', .ref ot, .ref lp])
  row : RowAt K H' v' (rowsOf L)
  ord : H' ot = some (.tup (ordL L))
  lst : H' lp = some (.lst pvs)
  prs : Beasts K H' pvs ps
end HH
set_option maxHeartbeats 4000000
namespace HH
open PySem PySem.Spec PyProof.Rows L2 Evl RZ
inductive All2 {α : Type} (R : V → α → Prop) : List V → List α → Prop
  | nil : All2 R [] []
  | cons {v : V} {x : α} {vs : List V} {xs : List α} : R v x → All2 R vs xs → All2 R (v :: vs) (x :: xs)
theorem All2.mono {α : Type} {R S : V → α → Prop} (h : ∀ v x, R v x → S v x) : ∀ {vs : List V} {xs : List α}, All2 R vs xs → All2 S vs xs
  | _, _, .nil => .nil
  | _, _, .cons a b => .cons (h _ _ a) (All2.mono h b)
theorem All2.app {α : Type} {R : V → α → Prop} : ∀ {vs : List V} {xs : List α} {us : List V} {ys : List α}, All2 R vs xs → All2 R us ys → All2 R (vs ++ us) (xs ++ ys)
  | _, _, _, _, .nil, h => h
  | _, _, _, _, .cons a b, h => .cons a (All2.app b h)
theorem All2.len {α : Type} {R : V → α → Prop} : ∀ {vs : List V} {xs : List α}, All2 R vs xs → vs.length = xs.length
  | _, _, .nil => rfl
  | _, _, .cons a b => by rw [List.length_cons, List.length_cons, All2.len b]
theorem All2.get {α : Type} {R : V → α → Prop} : ∀ {vs : List V} {xs : List α} {i : Nat} {v : V}, All2 R vs xs → vs[i]? = some v → ∃ x, xs[i]? = some x ∧ R v x
  | _, _, _, _, .nil, h => by simp at h
  | _, _, 0, _, .cons a b, h => by
    cases h
    exact ⟨_, rfl, a⟩
  | _, _, i + 1, _, .cons a b, h => All2.get (i := i) b h
abbrev Deed := Bool × Nat
def wordOf (b : Bool) : Str := if b then "pass" else "fall"
def DeedAt (K : PySem.W.Frag) (H : Hp) (v : V) (d : Deed) : Prop := ∃ p, v = .ref p ∧ SqT K H p [.str (wordOf d.1), .int (d.2 : Int)]
section
variable {K : PySem.W.Frag} {σ : L2.St} {H H' : Hp} {t : TT}
end
inductive MRun (L0 : List Cow) : List Cow → List Deed → Prop
  | nil : MRun L0 L0 []
  | pass {pre post : List Cow} {a b : Cow} {ds : List Deed} : MRun L0 (pre ++ a :: b :: post) ds → b.2.1 - a.2.2 > a.2.1 → MRun L0 (pre ++ (b.1, (b.2.1 - a.2.2, b.2.2)) :: a :: post) (ds ++ [(true, pre.length + 1)])
  | fall {pre post : List Cow} {a b : Cow} {ds : List Deed} : MRun L0 (pre ++ a :: b :: post) ds → a.2.1 > b.2.1 → MRun L0 (pre ++ b :: (a.1, (a.2.1 + b.2.2, a.2.2)) :: post) (ds ++ [(false, pre.length)])
structure WanAt (K : PySem.W.Frag) (H H' : Hp) (p : Addr) (q : Addr) (v' : V) (ot lp : Addr) (us : List V) (L : List Cow) (ds : List Deed) (n m : Nat) : Prop where
  ex : ExB p H H'
  bx : Bx H' p (n + m)
  q : H' q = some (.tup [v', .ref ot, .ref lp])
  row : RowAt K H' v' (rowsOf L)
  ord : H' ot = some (.tup (ordL L))
  lst : H' lp = some (.lst us)
  prs : All2 (DeedAt K H') us ds
end HH
set_option maxHeartbeats 4000000
namespace HH
open PySem PySem.Spec PyProof.Rows L2 Evl RZ
section
variable {X : Cx}
end
section
variable {K : PySem.W.Frag} {σ : L2.St} {H H' : Hp} {te : TE} {D : Ends} {tz tu : TS} {g : TG}
theorem et_yes : EvT tYes σ H true := fun H1 _ _ q => q H1 (Ex.refl H1)
theorem given_all (n : Nat) (f : Nat → Bool) : given n (fun _ => true) (fun i => V.bl (f i)) = ((List.range n).map f).map V.bl := by
  unfold given
  rw [List.filter_eq_self.mpr (fun _ _ => rfl), List.map_map]
  rfl
end
def spRight : Sp := fun vs H Q _ => ∃ (p : Addr), vs = [.ref p] ∧ Bx H p 0 ∧ ∀ H', ExB p H H' → Q (.bl true) H'
def spLaw (K : PySem.W.Frag) : Sp := fun vs H Q _ => ∃ (a : Addr) (ns : List Int), vs = [.ref a] ∧ SqL K H a (ns.map V.int) ∧ ns.length ≤ 63 ∧ ∀ H', Q (.bl true) H'
section
variable {K : PySem.W.Frag} {σ : L2.St} {H H' : Hp} {te t1 t2 : TE}
end
theorem q_call {sp : Sp} {dvs : List V} {E : XK} {ta : TA} {i : Nat} {D : Ends} {tz : TS} {σ : L2.St} {H : Hp} (h : ta σ H fun vs H1 => sp (vs ++ dvs) H1 (fun x H2 => tz D (σ.set i (some x)) H2) E) : tSeq (tAsg (tCall sp dvs E ta) (gName i)) tz D σ H := h
end HH
set_option maxHeartbeats 4000000
namespace HH
open PySem PySem.Spec PyProof.Rows L2 Evl RZ
inductive Bk where
  | val
  | run
  | look
  | over
namespace Bk
def nm : Bk → String
  | val => "ValueError"
  | run => "RuntimeError"
  | look => "LookupError"
  | over => "OverflowError"
def st : Bk → Str
  | val => "ValueError"
  | run => "RuntimeError"
  | look => "LookupError"
  | over => "OverflowError"
def nw : Bk → String
  | val => "ValueError.__new__"
  | run => "RuntimeError.__new__"
  | look => "LookupError.__new__"
  | over => "OverflowError.__new__"
def ini : Bk → String
  | val => "ValueError.__init__"
  | run => "RuntimeError.__init__"
  | look => "LookupError.__init__"
  | over => "OverflowError.__init__"
def mro : Bk → List Value
  | val => [.type "ValueError", .type "Exception", .type "BaseException", .type "object"]
  | run => [.type "RuntimeError", .type "Exception", .type "BaseException", .type "object"]
  | look => [.type "LookupError", .type "Exception", .type "BaseException", .type "object"]
  | over => [.type "OverflowError", .type "ArithmeticError", .type "Exception", .type "BaseException", .type "object"]
theorem base : (b : Bk) → ExcBaseFacts b.nm b.nw b.ini b.mro
  | val => F.excBase_ValueError
  | run => F.excBase_RuntimeError
  | look => F.excBase_LookupError
  | over => F.excBase_OverflowError
end Bk
structure ExcTy (K : PySem.W.Frag) (b : Bk) (f : Str) (C fI : Addr) : Prop where
  ok : PySem.W.excInitIn K C b.mro b.nw = true
  ov : PySem.W.excOver K C b.mro = true
  tk : PySem.W.takerIn K C f = some none
  hd : PySem.W.hasDictIn K C = true
  sa : PySem.W.findIn K (.ref C) "__setattr__" = some (some (.builtin "object.__setattr__"))
  ga : PySem.W.findIn K (.ref C) "__getattribute__" = some (some (.builtin "BaseException.__getattribute__"))
  gg : PySem.W.findIn K (.ref C) "__getattr__" = some none
  no : PySem.W.findIn K (.ref C) f = some none
  iC : PySem.W.findIn K (.ref C) "__init__" = some (some (.ref fI))
  ca : PySem.W.findIn K (.ref C) "__class__" = some (some (.builtin "object.__class__"))
  gs : PySem.W.specialIn K (.builtin "object.__class__") "__get__" = some (some (.builtin "getset_descriptor.__get__"))
  tI : PySem.W.typeIn K (.ref fI) = some (.type "function")
  kC : PySem.W.keepIn K (.ref C) = true
  ex : PySem.W.subIn K (.ref C) (.type "BaseException") = some true
  ty : PySem.W.typeIn K (.ref C) = some (.type "type")
  ts : PySem.W.takesIn K (.builtin "object.__class__") = some true
  mo : PySem.W.mroIn K C (.type "object") = some true
  bi : PySem.W.findCls K (.type b.nm) (.type "type") "__init__" = some (.val (.builtin b.ini))
section
variable {X : Cx} {pins : List (Addr × Obj)} {σ : L2.St} {H : Hp} {s : Shared} {a C fI : Addr} {f : Str} {b : Bk} {y : V} {u : Value} {A : Around} {E : Value → Shared → Prop}
end
def spIni (C : Addr) (f : Str) : Sp := fun vs H Q _ => ∃ (a : Addr) (v : V), vs = [.ref a, v] ∧ H a = some (exo a C none) ∧ ∀ dx, H dx = none → dx ≠ a → Q .non (upd (upd H dx (exd dx [(f, v)])) a (exo a C (some dx)))
section
variable {X : Cx} {C fI : Addr} {f : Str} {b : Bk}
end
end HH
set_option maxHeartbeats 4000000
namespace HH
open PySem PySem.Spec PyProof.Rows L2 Evl RZ
section
variable {X : Cx} {pins : List (Addr × Obj)} {σ : L2.St} {H : Hp} {s : Shared} {a : Addr} {oe : Obj} {cls : Value} {d : Option Addr} {vs : Array Value}
end
section
variable {X : Cx} {x1 x2 x3 x4 : Str} {c1 c2 c3 c4 : Value} {p1 p2 p3 p4 tp : Pos} {kk : Nat}
end
section
variable {X : Cx} {t : Expr} {n : Str} {i : Nat} {m : Value → Prop} {body suite : List Stmt} {b0 : Stmt} {pos pos' : Pos} {tb : WX → TS} {ts : Addr → Value → Option Addr → TS}
end
section
variable {X : Cx} {C fI : Addr} {f : Str} {b : Bk}
end
end HH
set_option maxHeartbeats 4000000
namespace HH
open PySem PySem.Spec PyProof.Rows L2 Evl RZ
structure FnG (P : Program) (w : World) (K : PySem.W.Frag) (mg : Str → Option Value) (base : Heap) (k : Nat) (f : Addr) (fd : FuncData) (ps : List Str) (sp : Sp) : Prop where
  len : ∀ vs H Q E, sp vs H Q E → vs.length = ps.length
  run : ∀ (A : Around) (outer : List Env) (s : Shared) (H : Hp) (args : Args) (us : List Value) (vs : List V) (Q : VK) (E : XK), A.guards = some [] → Room k A → Env0 P w K mg base A outer s H → BindsTo s fd args (ps.zip us) → Vals vs us → sp vs H Q E →
    codeAny (model P w) A (.call (.ref f) args) (CR CX0 outer P w H s Q E) s
theorem FnG.of {P : Program} {w : World} {K : PySem.W.Frag} {mg : Str → Option Value} {base : Heap} {k : Nat} {f : Addr} {x qual : Str} {params : Arguments} {body : List Stmt} {scope : Scope} {kws : List (Str × V)} {fd : FuncData} {N ps : List Str} {sp : Sp}
    (F : FunD K x qual params body scope [] kws f fd) (S : FnScope N ps scope) (len : ∀ vs H Q E, sp vs H Q E → vs.length = ps.length)
    (hbody : ∀ (cdv : Value) (A : Around) (outer : List Env) (s : Shared) (H : Hp) (vs : List V) (Q : VK) (E : XK), (A.deeper (envOfC qual scope s.heap.objs.size f cdv)).guards = some [] → Room k (A.deeper (envOfC qual scope s.heap.objs.size f cdv)) → sp vs H Q E →
      ∃ t, PSs (cxOf CX0 P w K mg base N qual scope f cdv A outer s H E) body t ∧ t { nx := fun _ H' => Q .non H', rt := Q } (start N vs) H) : FnG P w K mg base (k + 1) f fd ps sp := by
  obtain ⟨oc, od, dV, kV, doc, pm, an, cdv, ct, osl, rfl, lk, hcd, _, _⟩ := F.ex
  refine ⟨len, fun A outer s H args us vs Q E hg hr e0 hb r hsp => ?_⟩
  have inK : K.In s.heap := e0.mod.kin.keeps fun c o z => (e0.bs c o z).1
  have noL : s.heap.NoLimit := e0.mod.nolimit.keeps fun c o z => (e0.bs c o z).1
  have kinds : ∀ y ∈ ps.zip us, scope.names.lookup y.1 = some .local ∨ (scope.names.lookup y.1 = some .cell ∧ ((cellsFrom (s.heap.objs.size + 1) scope.names []).lookup y.1).isSome = true) := fun ⟨nm, v⟩ hy =>
    (S.par nm (List.of_mem_zip hy).1).elim .inl fun z => .inr ⟨z, PySem.W.cellsFrom_some _ _ _ (.inl z)⟩
  refine codeAny_call_function hr.depth (inK _ _ lk) rfl S.co S.gen rfl (PySem.W.codeRec_of inK hcd) (hb _ _ _ _ (wpAny_newFunctionEnv_cells S.kind kinds fun env he s1 x => ?_))
  subst he
  refine ⟨noL.keeps x.toInCall.keep, codeAny_func ?_⟩
  obtain ⟨t, ht, hq⟩ := hbody cdv A outer s H vs Q E hg (hr.deeper _) hsp
  have I0 := inv_start (CX := CX0) (E := E) S hr.hd e0 (len _ _ _ _ hsp) r x
  refine wpAny_mono (ht.run [] s1 (start N vs) H _ I0 hq) (fun fl s' hs => ?_) fun e s' hs => hs
  cases fl with
  | ret u =>
    obtain ⟨v, σ', H', J, rv, q⟩ := hs
    exact ⟨v, H', J.os, J.bare, J.base, J.hok, rv, q⟩
  | next =>
    obtain ⟨σ', H', J, q⟩ := hs
    exact ⟨.non, H', J.os, J.bare, J.base, J.hok, rfl, q⟩
  | brk => exact hs.elim fun _ z => z.elim fun _ z => z.2.elim
  | cont => exact hs.elim fun _ z => z.elim fun _ z => z.2.elim
structure HasG (P : Program) (w : World) (K : PySem.W.Frag) (mg : Str → Option Value) (base : Heap) (k : Nat) (x : Str) (ps : List Str) (sp : Sp) (f : Addr) (fd : FuncData) : Prop where
  G : FnG P w K mg base k f fd ps sp
  g : mg x = some (.ref f)
  kp : PySem.W.keepIn K (.ref f) = true
  b : Binds K fd ps []
section
variable {X : Cx}
end
end HH
set_option maxHeartbeats 4000000
namespace HH
open PySem PySem.Spec PyProof.Rows L2 Evl RZ
end HH
set_option maxHeartbeats 4000000
namespace HH
open PySem PySem.Spec PyProof.Rows L2 Evl RZ
section
variable {X : Cx}
def rGetN : V → V → Hp → VK → Prop := fun x y H Q => ∃ (l : Addr) (xs : List V) (j : Nat) (v : V), x = .ref l ∧ y = .int (j : Int) ∧ H l = some (.lst xs) ∧ xs[j]? = some v ∧ Q v H
theorem get_listN : PGet X rGetN := by
  intro pins s σ H o i ov iv Q I0 ro ri h
  obtain ⟨l, xs, j, v, rfl, rfl, hl, hv, q⟩ := h
  cases ro
  obtain ⟨t, rfl⟩ := ri
  obtain ⟨its, r, pl, hz⟩ := I0.list (SqL.of hl)
  obtain ⟨w, ew, rw'⟩ := r.get hv
  have hj : j < xs.length := (List.getElem?_eq_some_iff.mp hv).1
  have hn := line63
  exact wpAny_getItem_list pl.isList (Int.natCast_nonneg j) (by omega) (by simpa using ew) ⟨v, H, I0, rw', q⟩
end
def Step (L M : List Cow) : Prop := ∃ (pre post : List Cow) (a b : Cow), L = pre ++ a :: b :: post ∧ b.2.1 - a.2.2 > a.2.1 ∧ M = pre ++ (b.1, (b.2.1 - a.2.2, b.2.2)) :: a :: post
inductive Steps : List Cow → List Cow → Prop
  | refl (L : List Cow) : Steps L L
  | head {L M N : List Cow} : Step L M → Steps M N → Steps L N
theorem Steps.trans {L M N : List Cow} (h : Steps L M) (g : Steps M N) : Steps L N := by
  induction h with
  | refl => exact g
  | head s _ ih => exact .head s (ih g)
theorem Steps.one {L M : List Cow} (h : Step L M) : Steps L M := .head h (.refl M)
def Nf (L : List Cow) : Prop := ∀ M, ¬ Step L M
theorem Step.under {L M : List Cow} (pre post : List Cow) (h : Step L M) : Step (pre ++ L ++ post) (pre ++ M ++ post) := by
  obtain ⟨p, q, a, b, rfl, hp, rfl⟩ := h
  exact ⟨pre ++ p, q ++ post, a, b, by simp, hp, by simp⟩
theorem Steps.under {L M : List Cow} (pre post : List Cow) (h : Steps L M) : Steps (pre ++ L ++ post) (pre ++ M ++ post) := by
  induction h with
  | refl => exact .refl _
  | head s _ ih => exact .head (s.under pre post) ih
theorem three {a b c : Cow} (ta : 0 ≤ a.2.2) (tb : 0 ≤ b.2.2) (h1 : b.2.1 - a.2.2 > a.2.1) (h2 : c.2.1 - b.2.2 > b.2.1) :
    Steps [(b.1, (b.2.1 - a.2.2, b.2.2)), a, c] [(c.1, (c.2.1 - a.2.2 - b.2.2, c.2.2)), (b.1, (b.2.1 - a.2.2, b.2.2)), a] ∧ Steps [a, (c.1, (c.2.1 - b.2.2, c.2.2)), b] [(c.1, (c.2.1 - a.2.2 - b.2.2, c.2.2)), (b.1, (b.2.1 - a.2.2, b.2.2)), a] := by
  constructor
  · refine .head (M := [(b.1, (b.2.1 - a.2.2, b.2.2)), (c.1, (c.2.1 - a.2.2, c.2.2)), a]) ⟨[(b.1, (b.2.1 - a.2.2, b.2.2))], [], a, c, rfl, by omega, rfl⟩ (.one ⟨[], [a], (b.1, (b.2.1 - a.2.2, b.2.2)), (c.1, (c.2.1 - a.2.2, c.2.2)), rfl, by dsimp only; omega, rfl⟩)
  · have e : c.2.1 - a.2.2 - b.2.2 = c.2.1 - b.2.2 - a.2.2 := by omega
    rw [e]
    exact .head (M := [(c.1, (c.2.1 - b.2.2 - a.2.2, c.2.2)), a, b]) ⟨[], [b], a, (c.1, (c.2.1 - b.2.2, c.2.2)), rfl, by dsimp only; omega, rfl⟩ (.one ⟨[(c.1, (c.2.1 - b.2.2 - a.2.2, c.2.2))], [], a, b, rfl, h1, rfl⟩)
theorem splits {α : Type} : ∀ {p p' : List α} {a b a' b' : α} {q q' : List α}, p ++ a :: b :: q = p' ++ a' :: b' :: q' →
    (p = p' ∧ a = a' ∧ b = b' ∧ q = q') ∨ (∃ c, p' = p ++ [a] ∧ a' = b ∧ b' = c ∧ q = c :: q') ∨ (∃ c, p = p' ++ [a'] ∧ a = b' ∧ b = c ∧ q' = c :: q) ∨ (∃ m, p' = p ++ a :: b :: m ∧ q = m ++ a' :: b' :: q') ∨ (∃ m, p = p' ++ a' :: b' :: m ∧ q' = m ++ a :: b :: q)
  | [], [], _, _, _, _, _, _, h => by
    simp only [List.nil_append, List.cons.injEq] at h
    exact .inl ⟨rfl, h.1, h.2.1, h.2.2⟩
  | [], [x], a, b, a', b', q, q', h => by
    simp only [List.nil_append, List.cons_append, List.cons.injEq] at h
    exact .inr (.inl ⟨b', by simp [h.1], h.2.1.symm, rfl, h.2.2⟩)
  | [], x :: y :: m, a, b, a', b', q, q', h => by
    simp only [List.nil_append, List.cons_append, List.cons.injEq] at h
    exact .inr (.inr (.inr (.inl ⟨m, by simp [h.1, h.2.1], h.2.2⟩)))
  | [x], [], a, b, a', b', q, q', h => by
    simp only [List.nil_append, List.cons_append, List.cons.injEq] at h
    exact .inr (.inr (.inl ⟨b, by simp [h.1], h.2.1, rfl, h.2.2.symm⟩))
  | x :: y :: m, [], a, b, a', b', q, q', h => by
    simp only [List.nil_append, List.cons_append, List.cons.injEq] at h
    exact .inr (.inr (.inr (.inr ⟨m, by simp [h.1, h.2.1], h.2.2.symm⟩)))
  | x :: p, y :: p', a, b, a', b', q, q', h => by
    simp only [List.cons_append, List.cons.injEq] at h
    obtain ⟨rfl, h⟩ := h
    rcases splits h with ⟨rfl, k⟩ | ⟨c, rfl, k⟩ | ⟨c, rfl, k⟩ | ⟨m, rfl, k⟩ | ⟨m, rfl, k⟩
    · exact .inl ⟨rfl, k⟩
    · exact .inr (.inl ⟨c, rfl, k⟩)
    · exact .inr (.inr (.inl ⟨c, rfl, k⟩))
    · exact .inr (.inr (.inr (.inl ⟨m, rfl, k⟩)))
    · exact .inr (.inr (.inr (.inr ⟨m, rfl, k⟩)))
theorem near {L M N : List Cow} (ht : ∀ x ∈ L, 0 ≤ x.2.2) (h : Step L M) (g : Step L N) : ∃ J, Steps M J ∧ Steps N J := by
  obtain ⟨p, q, a, b, rfl, h1, rfl⟩ := h
  obtain ⟨p', q', a', b', e, h2, rfl⟩ := g
  rcases splits e with ⟨rfl, rfl, rfl, rfl⟩ | ⟨c, rfl, rfl, rfl, rfl⟩ | ⟨c, rfl, rfl, rfl, rfl⟩ | ⟨m, rfl, rfl⟩ | ⟨m, rfl, rfl⟩
  · exact ⟨_, .refl _, .refl _⟩
  · obtain ⟨s1, s2⟩ := three (a := a) (b := a') (c := b') (ht a (by simp)) (ht a' (by simp)) h1 h2
    refine ⟨p ++ [(b'.1, (b'.2.1 - a.2.2 - a'.2.2, b'.2.2)), (a'.1, (a'.2.1 - a.2.2, a'.2.2)), a] ++ q', ?_, ?_⟩
    · have := s1.under p q'
      simpa using this
    · have := s2.under p q'
      simpa using this
  · obtain ⟨s1, s2⟩ := three (a := a') (b := a) (c := b) (ht a' (by simp)) (ht a (by simp)) h2 h1
    refine ⟨p' ++ [(b.1, (b.2.1 - a'.2.2 - a.2.2, b.2.2)), (a.1, (a.2.1 - a'.2.2, a.2.2)), a'] ++ q, ?_, ?_⟩
    · have := s2.under p' q
      simpa using this
    · have := s1.under p' q
      simpa using this
  · refine ⟨p ++ (b.1, (b.2.1 - a.2.2, b.2.2)) :: a :: (m ++ (b'.1, (b'.2.1 - a'.2.2, b'.2.2)) :: a' :: q'), .one ⟨p ++ (b.1, (b.2.1 - a.2.2, b.2.2)) :: a :: m, q', a', b', by simp, h2, by simp⟩, .one ⟨p, m ++ (b'.1, (b'.2.1 - a'.2.2, b'.2.2)) :: a' :: q', a, b, by simp, h1, by simp⟩⟩
  · refine ⟨p' ++ (b'.1, (b'.2.1 - a'.2.2, b'.2.2)) :: a' :: (m ++ (b.1, (b.2.1 - a.2.2, b.2.2)) :: a :: q), .one ⟨p', m ++ (b.1, (b.2.1 - a.2.2, b.2.2)) :: a :: q, a', b', by simp, h2, by simp⟩, .one ⟨p' ++ (b'.1, (b'.2.1 - a'.2.2, b'.2.2)) :: a' :: m, q, a, b, by simp, h1, by simp⟩⟩
structure Good (L : List Cow) : Prop where
  tl : ∀ x ∈ L, 0 ≤ x.2.2
  nd : (L.map (·.1)).Nodup
  iv : PInv L
theorem Good.step {L M : List Cow} (g : Good L) (h : Step L M) : Good M ∧ asc (M.map (·.1)) < asc (L.map (·.1)) := by
  obtain ⟨p, q, a, b, rfl, h1, rfl⟩ := h
  obtain ⟨f1, f2, f3⟩ := facts_pass (n := (p ++ a :: b :: q).length) (ps := []) (q := (0, 0)) ⟨rfl, g.tl, g.nd, by
    have := asc_le ((p ++ a :: b :: q).map (·.1))
    rw [List.length_map] at this
    show 0 + _ ≤ _
    omega⟩ g.iv h1
  exact ⟨⟨f1.tl, f1.nd, f2⟩, f3⟩
theorem Good.steps {L M : List Cow} (g : Good L) (h : Steps L M) : Good M := by
  induction h with
  | refl => exact g
  | head s _ ih => exact ih (g.step s).1
theorem some_nf : ∀ (n : Nat) {L : List Cow}, Good L → asc (L.map (·.1)) ≤ n → ∃ N, Steps L N ∧ Nf N
  | n, L, g, h => by
    by_cases z : Nf L
    · exact ⟨L, .refl L, z⟩
    · have z' : ∃ M, Step L M := Classical.byContradiction fun e => z fun M s => e ⟨M, s⟩
      obtain ⟨M, s⟩ := z'
      obtain ⟨g2, lt⟩ := g.step s
      cases n with
      | zero => omega
      | succ n =>
        obtain ⟨N, s2, nf⟩ := some_nf n g2 (by omega)
        exact ⟨N, .head s s2, nf⟩
theorem one_nf : ∀ (n : Nat) {L N N' : List Cow}, Good L → asc (L.map (·.1)) ≤ n → Steps L N → Nf N → Steps L N' → Nf N' → N = N'
  | n, L, N, N', g, h, s, nf, s', nf' => by
    cases s with
    | refl =>
      cases s' with
      | refl => rfl
      | head t _ => exact (nf _ t).elim
    | @head _ M _ t u =>
      cases s' with
      | refl => exact (nf' _ t).elim
      | @head _ M' _ t' u' =>
        obtain ⟨J, j1, j2⟩ := near g.tl t t'
        obtain ⟨g2, l2⟩ := g.step t
        obtain ⟨g3, l3⟩ := g.step t'
        cases n with
        | zero => omega
        | succ n =>
          obtain ⟨O, so, nfo⟩ := some_nf _ (g2.steps j1) (Nat.le_refl _)
          have e1 := one_nf n g2 (by omega) u nf (j1.trans so) nfo
          have e2 := one_nf n g3 (by omega) u' nf' (j2.trans so) nfo
          rw [e1, e2]
theorem good_tag {rs : HH.Row} (h : ∀ b ∈ rs, 0 ≤ b.2) : Good (tag 0 rs) := ⟨(facts_tag h).tl, (facts_tag h).nd, pinv_tag 0 rs⟩
theorem Steps.snoc {L M N : List Cow} (h : Steps L M) (s : Step M N) : Steps L N := h.trans (.one s)
theorem PRun.steps {L0 L : List Cow} {ps : List (Int × Int)} (h : PRun L0 L ps) : Steps L0 L := by
  induction h with
  | nil => exact .refl _
  | step _ hp ih => exact ih.snoc ⟨_, _, _, _, rfl, hp, rfl⟩
end HH
set_option maxHeartbeats 4000000
namespace HH
open PySem PySem.Spec PyProof.Rows L2 Evl RZ
def NfR : List Cow → Prop
  | [] => True
  | [_] => True
  | a :: b :: r => ¬ (b.2.1 - a.2.2 > a.2.1) ∧ NfR (b :: r)
theorem nfr_tail {a : Cow} {r : List Cow} (h : NfR (a :: r)) : NfR r := by
  cases r with
  | nil => exact True.intro
  | cons b r => exact h.2
theorem nfr_nf : ∀ {L : List Cow}, NfR L → Nf L := by
  intro L h M s
  obtain ⟨p, q, a, b, rfl, hp, rfl⟩ := s
  induction p with
  | nil => exact h.1 hp
  | cons x p ih => exact ih (nfr_tail h)
theorem nfr_in {w : Cow} : ∀ {A B : List Cow}, NfR (A ++ B) → (∀ x, A.getLast? = some x → ¬ (w.2.1 - x.2.2 > x.2.1)) → (∀ b r, B = b :: r → ¬ (b.2.1 - w.2.2 > w.2.1)) → NfR (A ++ w :: B)
  | [], [], _, _, _ => True.intro
  | [], b :: r, h, _, g => ⟨g b r rfl, h⟩
  | [x], B, h, f, g => ⟨f x rfl, by
    have := nfr_in (w := w) (A := []) (B := B) (nfr_tail h) (fun _ z => by cases z) g
    exact this⟩
  | x :: y :: A, B, h, f, g => ⟨h.1, nfr_in (A := y :: A) (B := B) h.2 (fun z hz => f z (by rw [List.getLast?_cons_cons]; exact hz)) g⟩
def idsV (N : List Cow) : List V := N.map fun x => V.int (x.1 : Int)
structure Kept (S T : List Int) (N : List Cow) : Prop where
  s : ∀ x ∈ N, S[x.1]? = some x.2.1
  t : ∀ x ∈ N, T[x.1]? = some x.2.2
def ExB2 (a b : Addr) (H H' : Hp) : Prop := ∀ c o, c ≠ a → c ≠ b → H c = some o → H' c = some o
def spPassAll : Sp := fun vs H Q _ => ∃ (l sa ta : Addr) (N : List Cow) (S T : List Int) (who : Nat) (s0 t0 : Int), vs = [.ref l, .ref sa, .ref ta, .int (who : Int)] ∧ H l = some (.lst (idsV N)) ∧ H sa = some (.lst (S.map V.int)) ∧ H ta = some (.lst (T.map V.int)) ∧ l ≠ sa ∧ l ≠ ta ∧ sa ≠ ta ∧ Kept S T N ∧ S[who]? = some s0 ∧ T[who]? = some t0 ∧ (∀ x ∈ N, x.1 ≠ who) ∧ N.length ≤ 1000 ∧ 0 ≤ t0 ∧ NfR N ∧
  ∀ (A B : List Cow) (s : Int) H', N = A ++ B → Steps (N ++ [(who, (s0, t0))]) (A ++ (who, (s, t0)) :: B) → NfR (A ++ (who, (s, t0)) :: B) → H' l = some (.lst (idsV (A ++ (who, (s, t0)) :: B))) → H' sa = some (.lst ((S.set who s).map V.int)) → ExB2 l sa H H' → Q .non H'
structure LastAt (K : PySem.W.Frag) (H : Hp) (q : Addr) (L : List Cow) : Prop where
  ex : ∃ (v : V) (ot : Addr), H q = some (.tup [v, .ref ot]) ∧ RowAt K H v (rowsOf L) ∧ H ot = some (.tup (ordL L))
theorem LastAt.mono {K : PySem.W.Frag} {H H' : Hp} {q : Addr} {L : List Cow} (h : LastAt K H q L) (e : Ex H H') : LastAt K H' q L := by
  obtain ⟨v, ot, h1, h2, h3⟩ := h.ex
  exact ⟨v, ot, e _ _ h1, h2.ex e, e _ _ h3⟩
section
variable {K : PySem.W.Frag} {σ : L2.St} {H H' : Hp} {te : TE} {v : V}
theorem getI {S : List Int} {j : Nat} {x : Int} (h : S[j]? = some x) : (S.map V.int)[j]? = some (.int x) := by
  rw [List.getElem?_map, h]
  rfl
theorem el_unzip {i j c : Nat} {vs : List Nat} {rs : HH.Row} (fst : Bool) (hr : RowAt K H v rs) (hl : rs.length ≤ 1000) (h : Ev te σ H v) (hw : ∀ x y, wipe (((wipe σ vs).set i (some x)).set j (some y)) vs = wipe σ vs) (hc : ∀ x y : V, (((wipe σ vs).set i (some x)).set j (some y))[c]? = some (some (if fst then x else y))) :
    EvL (tLc (iTup K te) (gTup K 2 (gCons (gName i) (gCons (gName j) gNil))) tYes (tVar c) vs) σ H (rs.map fun b => V.int (if fst then b.1 else b.2)) := fun H0 e Q q => by
  obtain ⟨a, us, rfl, ht, hb⟩ := hr
  refine h H0 e _ fun H1 e1 => ⟨a, rfl, ⟨us, ex_t (e.trans e1) ht⟩, fun Dl hD => ?_⟩
  refine lc_it (walk_tup (xs := us)) (fun k H2 => Ex H1 H2 ∧ H2 Dl = some (.lst ((rs.take k).map fun b => V.int (if fst then b.1 else b.2)))) ⟨Ex.new hD, upd_same⟩ (fun k H2 _ p => ex_t ((e.trans e1).trans p.1) ht) (fun k x H2 H3 hk p y => ?_) (fun H2 p => ?_)
  · obtain ⟨rfl, hx⟩ := y
    obtain ⟨p1, p2⟩ := p
    have hk' : k < rs.length := by rw [← hb.1]; exact hk
    obtain ⟨u, hu, bp, rfl, hbt⟩ := hb.2 k _ (List.getElem?_eq_getElem hk')
    rw [hx] at hu
    cases hu
    refine ⟨bp, _, rfl, ex_t ((e.trans e1).trans p1) hbt, rfl, _, _, rfl, _, _, rfl, rfl, hw _ _, ?_⟩
    refine ⟨_, hc _ _, _, p2, ?_, Ex.mut p1 hD, ?_⟩
    · rw [List.length_map, List.length_take]
      exact sz_lt (by omega)
    · rw [upd_same, List.take_add_one, List.getElem?_eq_getElem hk', List.map_append]
      cases fst <;> rfl
  · have e3 : rs.take us.length = rs := List.take_of_length_le (by rw [hb.1]; exact Nat.le_refl _)
    rw [e3] at p
    exact q Dl H2 (fresh_back e1 hD) (e1.trans p.1) p.2
end
theorem rows_get (rs : HH.Row) (k : Nat) (b : Int × Int) (h : rs[k]? = some b) : (rs.map (·.1))[k]? = some b.1 ∧ (rs.map (·.2))[k]? = some b.2 := by
  rw [List.getElem?_map, List.getElem?_map, h]
  exact ⟨rfl, rfl⟩
theorem tag_split : ∀ (k i : Nat) (rs : HH.Row) (b : Int × Int), rs[i]? = some b → tag (k + i) (rs.drop i) = (k + i, b) :: tag (k + i + 1) (rs.drop (i + 1))
  | k, 0, b' :: r, b, h => by
    cases h
    rfl
  | k, i + 1, c :: r, b, h => by
    have := tag_split (k + 1) i r b h
    show tag (k + (i + 1)) (r.drop i) = _
    rw [show k + (i + 1) = k + 1 + i by omega, this]
    rfl
  | _, 0, [], _, h => by cases h
  | _, _ + 1, [], _, h => by cases h
theorem set_self {α : Type} {S : List α} {k : Nat} {x : α} (h : S[k]? = some x) : S.set k x = S := by
  refine List.ext_getElem? fun i => ?_
  rw [List.getElem?_set]
  by_cases e : k = i
  · subst e
    rw [if_pos rfl, h, if_pos (List.getElem?_eq_some_iff.mp h).1]
  · rw [if_neg e]
theorem set_at {α : Type} {S : List α} {k : Nat} {x y : α} (h : S[k]? = some x) : (S.set k y)[k]? = some y := by
  rw [List.getElem?_set, if_pos rfl, if_pos (List.getElem?_eq_some_iff.mp h).1]
theorem set_off {α : Type} {S : List α} {k i : Nat} {y : α} (h : k ≠ i) : (S.set k y)[i]? = S[i]? := by
  rw [List.getElem?_set, if_neg h]
theorem idsV_at (A B : List Cow) (x : Cow) : (idsV (A ++ x :: B))[A.length]? = some (.int (x.1 : Int)) := by
  unfold idsV
  rw [List.map_append, List.getElem?_append_right (by rw [List.length_map]; exact Nat.le_refl _), List.length_map, Nat.sub_self]
  rfl
theorem idsV_len (A : List Cow) : (idsV A).length = A.length := List.length_map ..
theorem idsV_ins (A B : List Cow) (w : Cow) : (idsV (A ++ B)).take A.length ++ [.int (w.1 : Int)] ++ (idsV (A ++ B)).drop A.length = idsV (A ++ w :: B) := by
  unfold idsV
  rw [List.map_append, List.take_append_of_le_length (by rw [List.length_map]; exact Nat.le_refl _), List.drop_append_of_le_length (by rw [List.length_map]; exact Nat.le_refl _), List.take_of_length_le (by rw [List.length_map]; exact Nat.le_refl _), List.drop_of_length_le (by rw [List.length_map]; exact Nat.le_refl _), List.map_append, List.append_assoc]
  rfl
end HH
set_option maxHeartbeats 4000000
namespace HH
open PySem PySem.Spec PyProof.Rows L2 Evl RZ
section
variable {K : PySem.W.Frag} {σ : L2.St} {p : Addr} {ta tb te : TE} {D : Ends} {tz : TS}
end
end HH
set_option maxHeartbeats 4000000
namespace HH
open PySem PySem.Spec PyProof.Rows L2 Evl RZ
def beastD (b : Int × Int) : PyData := .tuple [.int b.1, .int b.2]
def rowD (rs : HH.Row) : PyData := .tuple (rs.map beastD)
theorem Beasts.uncons {K : PySem.W.Frag} {H : Hp} {v : V} {vs : List V} {b : Int × Int} {rs : HH.Row} (h : Beasts K H (v :: vs) (b :: rs)) : BeastAt K H v b ∧ Beasts K H vs rs := by
  refine ⟨?_, Nat.succ.inj h.1, fun i c hi => ?_⟩
  · obtain ⟨u, hu, g⟩ := h.2 0 b rfl
    cases hu
    exact g
  · obtain ⟨u, hu, g⟩ := h.2 (i + 1) c hi
    exact ⟨u, hu, g⟩
theorem beasts_dp {K : PySem.W.Frag} {H : Hp} : ∀ {vs : List V} {rs : HH.Row}, Beasts K H vs rs → DpAll K H vs (rs.map beastD)
  | [], [], _ => .nil
  | [], _ :: _, h => by cases h.1
  | _ :: _, [], h => by cases h.1
  | v :: vs, b :: rs, h => by
    obtain ⟨⟨p, rfl, hp⟩, h2⟩ := h.uncons
    exact .cons (.tup hp (.cons (.int _) (.cons (.int _) .nil))) (beasts_dp h2)
theorem RowAt.dp {K : PySem.W.Frag} {H : Hp} {v : V} {rs : HH.Row} (h : RowAt K H v rs) : ∃ a, v = .ref a ∧ Dp K H (.ref a) (rowD rs) := by
  obtain ⟨a, vs, rfl, h1, h2⟩ := h
  exact ⟨a, rfl, .tup h1 (beasts_dp h2)⟩
theorem nice_beast (b : Int × Int) : Nice 1 (beastD b) := nice_tuple (k := 0) fun d hd => by
  rcases List.mem_cons.mp hd with rfl | hd
  · exact nice_int 0 _
  · rcases List.mem_cons.mp hd with rfl | hd
    · exact nice_int 0 _
    · cases hd
def Low (b : Int × Int) : Prop := b.1.natAbs < 10 ^ 18 ∧ b.2.natAbs < 10 ^ 18
theorem Tame.low {b : Int × Int} (h : Tame b) : Low b := by
  unfold Tame at h
  have e : (10 : Int) ^ 12 = 1000000000000 := by decide
  have e2 : (10 : Nat) ^ 18 = 1000000000000000000 := by decide
  rw [e] at h
  unfold Low
  rw [e2]
  omega
section
variable {K : PySem.W.Frag} {σ : L2.St} {H H' : Hp} {te : TE} {v : V}
end
theorem alike_beast {K : PySem.W.Frag} {H : Hp} {v u : V} {b : Int × Int} (h : BeastAt K H v b) (g : BeastAt K H u b) : Alike K H 2 v u := by
  obtain ⟨p, rfl, hp⟩ := h
  obtain ⟨q, rfl, hq⟩ := g
  refine .inr ⟨p, q, _, _, rfl, rfl, .inr ⟨hp, hq⟩, rfl, by show 2 ≤ 40000; decide, fun i x y hx hy => ?_⟩
  rw [hx] at hy
  cases hy
  refine .inl ⟨rfl, ?_⟩
  match i, hx with
  | 0, hx => cases hx; exact True.intro
  | 1, hx => cases hx; exact True.intro
  | i + 2, hx => cases hx
theorem Alike.up {K : PySem.W.Frag} {H : Hp} : ∀ {d : Nat} {x y : V}, Alike K H d x y → Alike K H (d + 1) x y
  | 0, _, _, h => h.elim
  | d + 1, x, y, h => by
    rcases h with h | ⟨a, b, xs, ys, h1, h2, h3, h4, h5, h6⟩
    · exact .inl h
    · exact .inr ⟨a, b, xs, ys, h1, h2, h3, h4, h5, fun i u v hu hv => (h6 i u v hu hv).up⟩
def lastD (L : List Cow) : PyData := .tuple [rowD (rowsOf L), .tuple ((L.map fun x => (x.1 : Int)).map PyData.int)]
theorem LastAt.dp {K : PySem.W.Frag} {H : Hp} {p : Addr} {L : List Cow} (h : LastAt K H p L) : Dp K H (.ref p) (lastD L) := by
  obtain ⟨v, ot, h1, h2, h3⟩ := h.ex
  obtain ⟨a, rfl, hd⟩ := h2.dp
  have e : ordL L = (L.map fun x => (x.1 : Int)).map V.int := by
    unfold ordL
    rw [List.map_map]
    rfl
  rw [e] at h3
  exact .tup (st_of h1) (.cons hd (.cons (.tup (st_of h3) (dp_ints _)) .nil))
end HH
set_option maxHeartbeats 4000000
namespace HH
open PySem PySem.Spec PyProof.Rows L2 Evl RZ
def FStep (L M : List Cow) : Prop := ∃ (pre post : List Cow) (a b : Cow), L = pre ++ a :: b :: post ∧ a.2.1 > b.2.1 ∧ M = pre ++ b :: (a.1, (a.2.1 + b.2.2, a.2.2)) :: post
inductive FSteps : List Cow → List Cow → Prop
  | refl (L : List Cow) : FSteps L L
  | head {L M N : List Cow} : FStep L M → FSteps M N → FSteps L N
theorem FSteps.trans {L M N : List Cow} (h : FSteps L M) (g : FSteps M N) : FSteps L N := by
  induction h with
  | refl => exact g
  | head s _ ih => exact .head s (ih g)
theorem FSteps.one {L M : List Cow} (h : FStep L M) : FSteps L M := .head h (.refl M)
def Ff (L : List Cow) : Prop := ∀ M, ¬ FStep L M
theorem FStep.under {L M : List Cow} (pre post : List Cow) (h : FStep L M) : FStep (pre ++ L ++ post) (pre ++ M ++ post) := by
  obtain ⟨p, q, a, b, rfl, hp, rfl⟩ := h
  exact ⟨pre ++ p, q ++ post, a, b, by simp, hp, by simp⟩
theorem FSteps.under {L M : List Cow} (pre post : List Cow) (h : FSteps L M) : FSteps (pre ++ L ++ post) (pre ++ M ++ post) := by
  induction h with
  | refl => exact .refl _
  | head s _ ih => exact .head (s.under pre post) ih
theorem threeF {a b c : Cow} (tb : 0 ≤ b.2.2) (tc : 0 ≤ c.2.2) (h1 : a.2.1 > b.2.1) (h2 : b.2.1 > c.2.1) :
    FSteps [b, (a.1, (a.2.1 + b.2.2, a.2.2)), c] [c, (b.1, (b.2.1 + c.2.2, b.2.2)), (a.1, (a.2.1 + b.2.2 + c.2.2, a.2.2))] ∧ FSteps [a, c, (b.1, (b.2.1 + c.2.2, b.2.2))] [c, (b.1, (b.2.1 + c.2.2, b.2.2)), (a.1, (a.2.1 + b.2.2 + c.2.2, a.2.2))] := by
  constructor
  · exact .head (M := [b, c, (a.1, (a.2.1 + b.2.2 + c.2.2, a.2.2))]) ⟨[b], [], (a.1, (a.2.1 + b.2.2, a.2.2)), c, rfl, by dsimp only; omega, rfl⟩ (.one ⟨[], [(a.1, (a.2.1 + b.2.2 + c.2.2, a.2.2))], b, c, rfl, h2, rfl⟩)
  · have e : a.2.1 + b.2.2 + c.2.2 = a.2.1 + c.2.2 + b.2.2 := by omega
    rw [e]
    exact .head (M := [c, (a.1, (a.2.1 + c.2.2, a.2.2)), (b.1, (b.2.1 + c.2.2, b.2.2))]) ⟨[], [(b.1, (b.2.1 + c.2.2, b.2.2))], a, c, rfl, by omega, rfl⟩ (.one ⟨[c], [], (a.1, (a.2.1 + c.2.2, a.2.2)), (b.1, (b.2.1 + c.2.2, b.2.2)), rfl, by dsimp only; omega, rfl⟩)
theorem nearF {L M N : List Cow} (ht : ∀ x ∈ L, 0 ≤ x.2.2) (h : FStep L M) (g : FStep L N) : ∃ J, FSteps M J ∧ FSteps N J := by
  obtain ⟨p, q, a, b, rfl, h1, rfl⟩ := h
  obtain ⟨p', q', a', b', e, h2, rfl⟩ := g
  rcases splits e with ⟨rfl, rfl, rfl, rfl⟩ | ⟨c, rfl, rfl, rfl, rfl⟩ | ⟨c, rfl, rfl, rfl, rfl⟩ | ⟨m, rfl, rfl⟩ | ⟨m, rfl, rfl⟩
  · exact ⟨_, .refl _, .refl _⟩
  · obtain ⟨s1, s2⟩ := threeF (a := a) (b := a') (c := b') (ht a' (by simp)) (ht b' (by simp)) h1 h2
    refine ⟨p ++ [b', (a'.1, (a'.2.1 + b'.2.2, a'.2.2)), (a.1, (a.2.1 + a'.2.2 + b'.2.2, a.2.2))] ++ q', ?_, ?_⟩
    · have := s1.under p q'
      simpa using this
    · have := s2.under p q'
      simpa using this
  · obtain ⟨s1, s2⟩ := threeF (a := a') (b := a) (c := b) (ht a (by simp)) (ht b (by simp)) h2 h1
    refine ⟨p' ++ [b, (a.1, (a.2.1 + b.2.2, a.2.2)), (a'.1, (a'.2.1 + a.2.2 + b.2.2, a'.2.2))] ++ q, ?_, ?_⟩
    · have := s2.under p' q
      simpa using this
    · have := s1.under p' q
      simpa using this
  · refine ⟨p ++ b :: (a.1, (a.2.1 + b.2.2, a.2.2)) :: (m ++ b' :: (a'.1, (a'.2.1 + b'.2.2, a'.2.2)) :: q'), .one ⟨p ++ b :: (a.1, (a.2.1 + b.2.2, a.2.2)) :: m, q', a', b', by simp, h2, by simp⟩, .one ⟨p, m ++ b' :: (a'.1, (a'.2.1 + b'.2.2, a'.2.2)) :: q', a, b, by simp, h1, by simp⟩⟩
  · refine ⟨p' ++ b' :: (a'.1, (a'.2.1 + b'.2.2, a'.2.2)) :: (m ++ b :: (a.1, (a.2.1 + b.2.2, a.2.2)) :: q), .one ⟨p', m ++ b :: (a.1, (a.2.1 + b.2.2, a.2.2)) :: q, a', b', by simp, h2, by simp⟩, .one ⟨p' ++ b' :: (a'.1, (a'.2.1 + b'.2.2, a'.2.2)) :: m, q, a, b, by simp, h1, by simp⟩⟩
structure FGood (L : List Cow) : Prop where
  tl : ∀ x ∈ L, 0 ≤ x.2.2
  nd : (L.map (·.1)).Nodup
  iv : FInv L
theorem FGood.step {L M : List Cow} (g : FGood L) (h : FStep L M) : FGood M ∧ asc (M.map (·.1)) < asc (L.map (·.1)) := by
  obtain ⟨p, q, a, b, rfl, h1, rfl⟩ := h
  obtain ⟨f1, f2, f3⟩ := facts_fall (n := (p ++ a :: b :: q).length) (ps := []) (q := (0, 0)) ⟨rfl, g.tl, g.nd, by
    have := asc_le ((p ++ a :: b :: q).map (·.1))
    rw [List.length_map] at this
    show 0 + _ ≤ _
    omega⟩ g.iv h1
  exact ⟨⟨f1.tl, f1.nd, f2⟩, f3⟩
theorem FGood.steps {L M : List Cow} (g : FGood L) (h : FSteps L M) : FGood M := by
  induction h with
  | refl => exact g
  | head s _ ih => exact ih (g.step s).1
theorem some_ff : ∀ (n : Nat) {L : List Cow}, FGood L → asc (L.map (·.1)) ≤ n → ∃ N, FSteps L N ∧ Ff N
  | n, L, g, h => by
    by_cases z : Ff L
    · exact ⟨L, .refl L, z⟩
    · have z' : ∃ M, FStep L M := Classical.byContradiction fun e => z fun M s => e ⟨M, s⟩
      obtain ⟨M, s⟩ := z'
      obtain ⟨g2, lt⟩ := g.step s
      cases n with
      | zero => omega
      | succ n =>
        obtain ⟨N, s2, nf⟩ := some_ff n g2 (by omega)
        exact ⟨N, .head s s2, nf⟩
theorem one_ff : ∀ (n : Nat) {L N N' : List Cow}, FGood L → asc (L.map (·.1)) ≤ n → FSteps L N → Ff N → FSteps L N' → Ff N' → N = N'
  | n, L, N, N', g, h, s, nf, s', nf' => by
    cases s with
    | refl =>
      cases s' with
      | refl => rfl
      | head t _ => exact (nf _ t).elim
    | @head _ M _ t u =>
      cases s' with
      | refl => exact (nf' _ t).elim
      | @head _ M' _ t' u' =>
        obtain ⟨J, j1, j2⟩ := nearF g.tl t t'
        obtain ⟨g2, l2⟩ := g.step t
        obtain ⟨g3, l3⟩ := g.step t'
        cases n with
        | zero => omega
        | succ n =>
          obtain ⟨O, so, nfo⟩ := some_ff _ (g2.steps j1) (Nat.le_refl _)
          have e1 := one_ff n g2 (by omega) u nf (j1.trans so) nfo
          have e2 := one_ff n g3 (by omega) u' nf' (j2.trans so) nfo
          rw [e1, e2]
theorem fgood_tag {rs : HH.Row} (h : ∀ b ∈ rs, 0 ≤ b.2) : FGood (tag 0 rs) := ⟨(facts_tag h).tl, (facts_tag h).nd, finv_tag 0 rs⟩
theorem FSteps.snoc {L M N : List Cow} (h : FSteps L M) (s : FStep M N) : FSteps L N := h.trans (.one s)
theorem FRun.steps {L0 L : List Cow} {ps : List (Int × Int)} (h : FRun L0 L ps) : FSteps L0 L := by
  induction h with
  | nil => exact .refl _
  | step _ hp ih => exact ih.snoc ⟨_, _, _, _, rfl, hp, rfl⟩
def FfR : List Cow → Prop
  | [] => True
  | [_] => True
  | a :: b :: r => ¬ (a.2.1 > b.2.1) ∧ FfR (b :: r)
theorem ffr_tail {a : Cow} {r : List Cow} (h : FfR (a :: r)) : FfR r := by
  cases r with
  | nil => exact True.intro
  | cons b r => exact h.2
theorem ffr_ff : ∀ {L : List Cow}, FfR L → Ff L := by
  intro L h M s
  obtain ⟨p, q, a, b, rfl, hp, rfl⟩ := s
  induction p with
  | nil => exact h.1 hp
  | cons x p ih => exact ih (ffr_tail h)
theorem ffr_in {w : Cow} : ∀ {A B : List Cow}, FfR (A ++ B) → (∀ x, A.getLast? = some x → ¬ (x.2.1 > w.2.1)) → (∀ b r, B = b :: r → ¬ (w.2.1 > b.2.1)) → FfR (A ++ w :: B)
  | [], [], _, _, _ => True.intro
  | [], b :: r, h, _, g => ⟨g b r rfl, h⟩
  | [x], B, h, f, g => ⟨f x rfl, by
    have := ffr_in (w := w) (A := []) (B := B) (ffr_tail h) (fun _ z => by cases z) g
    exact this⟩
  | x :: y :: A, B, h, f, g => ⟨h.1, ffr_in (A := y :: A) (B := B) h.2 (fun z hz => f z (by rw [List.getLast?_cons_cons]; exact hz)) g⟩
def spFallAll : Sp := fun vs H Q _ => ∃ (l sa ta : Addr) (N : List Cow) (S T : List Int) (who : Nat) (s0 t0 : Int), vs = [.ref l, .ref sa, .ref ta, .int (who : Int)] ∧ H l = some (.lst (idsV N)) ∧ H sa = some (.lst (S.map V.int)) ∧ H ta = some (.lst (T.map V.int)) ∧ l ≠ sa ∧ l ≠ ta ∧ sa ≠ ta ∧ Kept S T N ∧ S[who]? = some s0 ∧ T[who]? = some t0 ∧ (∀ x ∈ N, x.1 ≠ who ∧ 0 ≤ x.2.2) ∧ N.length ≤ 1000 ∧ FfR N ∧
  ∀ (A B : List Cow) (s : Int) H', N = A ++ B → FSteps ((who, (s0, t0)) :: N) (A ++ (who, (s, t0)) :: B) → FfR (A ++ (who, (s, t0)) :: B) → H' l = some (.lst (idsV (A ++ (who, (s, t0)) :: B))) → H' sa = some (.lst ((S.set who s).map V.int)) → ExB2 l sa H H' → Q .non H'
theorem tag_snoc : ∀ (j : Nat) (rs : HH.Row) (b : Int × Int), tag j (rs ++ [b]) = tag j rs ++ [(j + rs.length, b)]
  | j, [], b => rfl
  | j, c :: r, b => by
    show (j, c) :: tag (j + 1) (r ++ [b]) = (j, c) :: (tag (j + 1) r ++ [(j + (r.length + 1), b)])
    rw [tag_snoc, show j + 1 + r.length = j + (r.length + 1) by omega]
theorem tag_take {rs : HH.Row} {k : Nat} {b : Int × Int} (h : rs[k]? = some b) : tag 0 (rs.take (k + 1)) = tag 0 (rs.take k) ++ [(k, b)] := by
  have hk := (List.getElem?_eq_some_iff.mp h).1
  rw [List.take_add_one, h]
  show tag 0 (rs.take k ++ [b]) = _
  rw [tag_snoc, List.length_take, Nat.zero_add, Nat.min_eq_left (by omega)]
section
variable {K : PySem.W.Frag} {σ : L2.St} {H : Hp} {D : Ends} {tz tu : TS}
theorem q_forRev {te : TE} {j n : Nat} (h : Ev te σ H (.int (n : Int))) (hn : n ≤ 100000) (Pv : Nat → L2.St → Hp → Prop) (h0 : ∀ H1, Ex H H1 → Pv 0 σ H1)
    (hs : ∀ i σ' H', i < n → Pv i σ' H' → tu { D with nx := Pv (i + 1), ct := Pv (i + 1), bk := tz D } (σ'.set j (some (.int ((n - 1 - i : Nat) : Int)))) H') (hd : ∀ σ' H', Pv n σ' H' → tz D σ' H') : tSeq (tFor (iRevR (tRg1 te)) (gName j) tu) tz D σ H :=
  h H (Ex.refl H) _ fun H1 e => ⟨(n : Int), rfl, by omega, by omega, by omega, by omega, by
    rw [show ((n : Int) - 0).toNat = n by omega]
    refine for_rangeC (D := { D with nx := tz D }) Pv (h0 H1 e) (fun i σ' H' hi p => ?_) hd
    rw [show (0 : Int) + ((n : Nat) : Int) - 1 + ((i : Nat) : Int) * (-1) = ((n - 1 - i : Nat) : Int) by omega]
    exact hs i σ' H' hi p⟩
end
theorem el_listRg {σ : L2.St} {H : Hp} {te : TE} {n : Nat} (h : Ev te σ H (.int (n : Int))) (hn : n ≤ 100000) : EvL (tLstRg (tRg1 te)) σ H (rgV 0 (n : Int)) := fun H1 e Q q =>
  h H1 e _ fun H2 e2 => ⟨(n : Int), rfl, RgOk.of_le (by decide) (by omega) (by decide) (by omega), fun p hp => q p _ (fresh_back e2 hp) (e2.trans (Ex.new hp)) upd_same⟩
end HH
set_option maxHeartbeats 4000000
namespace PySem
open Sem (wp)
open AutoSeq1 (wpAny_loadPart')
theorem meets_enum_newT (t : Addr) (items : Array Value) (n : Nat) (dct : Option Addr) (sl : Array (Option Value)) :
    Meets (Builtin.«enumerate.__new__» ⟨[.type "enumerate", .ref t], []⟩) (fun _ R s => s.heap.get? t = some { cls := .type "tuple", dict := dct, data := .seq items n, slots := sl } ∧
      R (.ok (.ret (.ref (s.heap.push { cls := .type "tuple_iterator", data := .fields #[.ref t, .int 0 0] }).objs.size)))
        { s with heap := (s.heap.push { cls := .type "tuple_iterator", data := .fields #[.ref t, .int 0 0] }).push { cls := .type "enumerate", data := .fields #[.none, .bool false, .ref s.heap.objs.size, rawInt 0, .none, .none] } }) :=
  .of_wp fun prog w A R s h => by
    obtain ⟨hp, g, d, tk, os⟩ := s; obtain ⟨hl, h⟩ := h
    have hsub := sub_enumerate
    have hT : Heap.IsTuple (Shared.heap ⟨hp, g, d, tk, os⟩) t items := ⟨_, hl, rfl, n, rfl⟩
    wp_walk using wpAny_loadPart' hl
    refine wpAny_stack_any fun st => wpAny_pure ?_
    split
    · rename_i c _ _ _ _ _
      cases (c == Value.type "enumerate")
      · wp_walk using wpAny_loadPart' hl, wpAny_pyIter_tuple hT
        exact ⟨_, rfl, h⟩
      · wp_walk using wpAny_loadPart' hl, wpAny_pyIter_tuple hT
        exact ⟨_, rfl, h⟩
    · wp_walk using wpAny_loadPart' hl, wpAny_pyIter_tuple hT
      exact ⟨_, rfl, h⟩
section
variable {prog : Program} {w : World} {A : Around} {E : Value → Shared → Prop} {s : Shared}
theorem call_enum_tuple {t : Addr} {items : Array Value} {Q : Value → Shared → Prop} (hL : s.heap.IsTuple t items)
    (h : ∀ h', IsEnum h' (s.heap.objs.size + 1) s.heap.objs.size 0 .none → h'.IsTupleIter s.heap.objs.size t 0 → h'.objs.size = s.heap.objs.size + 2 →
      (∀ b o, s.heap.get? b = some o → h'.get? b = some o) → Q (.ref (s.heap.objs.size + 1)) { s with heap := h' }) :
    wpAny (model prog w) A (call (.type "enumerate") [.ref t]) Q E s := by
  obtain ⟨⟨c, dct, dt, sl⟩, hl, hc, n, hd⟩ := hL
  replace hc : c = .type "tuple" := hc
  replace hd : dt = .seq items n := hd
  subst hc hd
  refine callType_new F.called_enumerate (by decide) (F.typeCall_enumerate_1 _) (F.newCall_enumerate_1 _) (fun obj => F.args_object_init_2 obj _) F.entry_enumerate_new
    (meets_enum_newT t items n dct sl) ⟨hl, ?_⟩
  have hz : (s.heap.push { cls := .type "tuple_iterator", data := .fields #[.ref t, .int 0 0] }).objs.size = s.heap.objs.size + 1 := Heap.size_push ..
  show _ ∧ _
  rw [hz]
  have he : IsEnum ((s.heap.push { cls := .type "tuple_iterator", data := .fields #[.ref t, .int 0 0] }).push
      { cls := .type "enumerate", data := .fields #[.none, .bool false, .ref s.heap.objs.size, rawInt 0, .none, .none] }) (s.heap.objs.size + 1) s.heap.objs.size 0 .none := by
    have := Heap.get?_push_size (s.heap.push { cls := .type "tuple_iterator", data := .fields #[.ref t, .int 0 0] })
      (o := { cls := .type "enumerate", data := .fields #[.none, .bool false, .ref s.heap.objs.size, rawInt 0, .none, .none] }) rfl
    rw [hz] at this; exact this
  refine ⟨⟨_, he, rfl⟩, h _ he ⟨_, Heap.get?_push_of_some _ (Heap.get?_push_size _ rfl), rfl, rfl⟩ (by rw [Heap.size_push, hz]) fun b o x => Heap.get?_push_of_some _ (Heap.get?_push_of_some _ x)⟩
end
end PySem
namespace HH
open PySem PySem.Spec PyProof.Rows L2 Evl RZ
def IteT (K : PySem.W.Frag) (a : Addr) : It :=
  ⟨fun i H => ∃ (xs : List V) (x : V), SqT K H a xs ∧ xs[i]? = some x, fun i H v H' => ∃ T x, v = .ref T ∧ H T = none ∧ H' = upd H T (.tup [.int (i : Nat), x]) ∧ ∀ xs, SqT K H a xs → xs[i]? = some x, fun i H => ∃ xs : List V, SqT K H a xs ∧ xs.length = i⟩
theorem turn_enumT {P : Program} {w : World} {K : PySem.W.Frag} {elts : List Expr} {kk : Nat} {tpos : Pos} (a e it : Addr) :
    Turn P w K (.Tuple elts kk tpos) (IteT K a) [e, it] e (fun i h => (∃ old, IsEnum h e it ((i : Nat) : Int) old) ∧ h.IsTupleIter it a i ∧ e ≠ it) where
  mem := by simp
  obj := fun i h st b hb => by
    obtain ⟨⟨old, he⟩, ⟨o, ho, hc, hd⟩, _⟩ := st
    have e' : b = e ∨ b = it := by simpa using hb
    rcases e' with z | z
    · rw [z]; exact ⟨_, he, fun v q => nomatch q⟩
    · rw [z]; exact ⟨o, ho, fun v q => by rw [hd] at q; cases q⟩
  keep := fun i h h' st k => let ⟨⟨old, he⟩, hi, hne⟩ := st; ⟨⟨old, k e (by simp) _ he⟩, hi.at fun o q => k it (by simp) o q, hne⟩
  item := by
    intro X hP hw hK hc i pins s σ H E I hf st hg
    subst hP hw hK
    obtain ⟨⟨old, he⟩, hit, hne⟩ := st
    obtain ⟨xs, x, hq, hx⟩ := hg
    obtain ⟨its, rv, p, hz⟩ := I.tuple hq
    obtain ⟨u, hu, ru⟩ := rv.get hx
    have hel : e < s.heap.objs.size := Heap.lt_size he
    have hil : it < s.heap.objs.size := by obtain ⟨_, q, _⟩ := hit; exact Heap.lt_size q
    have pT : s.heap.IsTuple a its.toArray := p
    have hHa : ∀ b ∈ [e, it], a ≠ b := fun b hb z => by
      obtain ⟨o, ho, hoc, _⟩ := (show s.heap.IsTuple a its.toArray from p)
      obtain ⟨o2, ho2, hc2, _⟩ := hit
      have e' : b = e ∨ b = it := by simpa using hb
      rcases e' with z' | z'
      · rw [z, z', he] at ho
        rw [← Option.some.inj ho] at hoc
        revert hoc
        simp
      · rw [z, z', ho2] at ho
        rw [← Option.some.inj ho, hc2] at hoc
        revert hoc
        simp
    have hae : a ≠ e := hHa e (by simp)
    have hai : a ≠ it := hHa it (by simp)
    have hlt : i < its.toArray.size := by
      have := (List.getElem?_eq_some_iff.mp hu).1
      simpa using this
    refine wpAny_pyNext_enum_itemD (Draws.tuple (A := X.A.in1) (I.ok.hd hc) it a hai its.toArray) he ⟨hit, pT⟩ hlt hne (by simp; exact ⟨hne, Ne.symm hae⟩) fun y h' tk hy ho hst hT hsz hk => ?_
    have hyu : y = u := by
      have : its.toArray[i]? = some u := by simpa using hu
      rw [hy] at this
      exact Option.some.inj this
    subst hyu
    obtain ⟨hit', _⟩ := hst
    refine ⟨_, rfl, wpAny_letOwnedTupleGo_enum (s := { s with heap := h', toks := tk + 1 }) ho fun h'' he' sb => ?_⟩
    have hT2 : h''.get? s.heap.objs.size = some { cls := .type "tuple", data := .seq #[.int i tk, y] } := (sb.2 _ (Nat.ne_of_gt hel)).trans hT
    have new : ObjOk X.prog X.w (upd H s.heap.objs.size (.tup [.int (i : Nat), x])) h'' s.heap.objs.size (.tup [.int (i : Nat), x]) :=
      ⟨by show 2 ≤ sizeLine; decide, [.int i tk, y], .cons ⟨_, rfl⟩ (.cons ru .nil), ⟨_, hT2, rfl, _, rfl⟩⟩
    have I1 : Inv X pins σ (upd H s.heap.objs.size (.tup [.int (i : Nat), x])) { s with heap := h'', toks := tk + 1 } :=
      I.turnedNew (ch := [e, it]) (fun b ob hb q => (sb.2 b (fun z => hb (by simp [z]))).trans (hk b ob (fun z => hb (by simp [z])) (fun z => hb (by simp [z])) q)) hf (Nat.le_refl _) new
    refine ⟨.ref s.heap.objs.size, _, I1, rfl, ⟨_, x, rfl, I.hok.fresh (Nat.le_refl _), rfl, fun ys hy => by rw [I.tuple_inj hy hq]; exact hx⟩, ⟨⟨y, ?_⟩, hit'.at fun o q => (sb.2 it (Ne.symm hne)).trans q, hne⟩, fun b hb => ?_⟩
    · have e1 : ((i + 1 : Nat) : Int) = (i : Int) + 1 := by omega
      rw [e1]; exact he'
    · have hb' : b < s.heap.objs.size := by
        have e' : b = e ∨ b = it := by simpa using hb
        rcases e' with z | z
        · rw [z]; exact hel
        · rw [z]; exact hil
      rw [upd_ne (Nat.ne_of_lt hb')]
      exact (hf b hb).1
  done := by
    intro X hP hw hK hc i pins s σ H E I hf st hg
    subst hP hw hK
    obtain ⟨⟨old, he⟩, hit, hne⟩ := st
    obtain ⟨xs, hq, hx⟩ := hg
    obtain ⟨its, rv, p, hz⟩ := I.tuple hq
    have hHa : ∀ b ∈ [e, it], a ≠ b := fun b hb z => by
      obtain ⟨o, ho, hoc, _⟩ := (show s.heap.IsTuple a its.toArray from p)
      obtain ⟨o2, ho2, hc2, _⟩ := hit
      have e' : b = e ∨ b = it := by simpa using hb
      rcases e' with z' | z'
      · rw [z, z', he] at ho
        rw [← Option.some.inj ho] at hoc
        revert hoc
        simp
      · rw [z, z', ho2] at ho
        rw [← Option.some.inj ho, hc2] at hoc
        revert hoc
        simp
    have hai : a ≠ it := hHa it (by simp)
    have pT : s.heap.IsTuple a its.toArray := p
    obtain ⟨f0, f1, f2, f3, f4, f5⟩ := hf it (by simp)
    have hl := rv.length
    have hn : its.toArray.size = i := by simp; omega
    exact wpAny_pyNext_enum_endD (Draws.tuple (A := X.A.in1) (I.ok.hd hc) it a hai its.toArray) he (by rw [hn]; exact ⟨hit, pT⟩) fun h' eb => ⟨rfl, I.turned (t' := s.toks) (fun b o hb q => eb b o hb q) f0 f1 f3 f4 f5⟩
  self := fun A i s Q E st h => let ⟨⟨_, he⟩, _⟩ := st; wpAny_pyIter_enum he h
def iEnumT (K : PySem.W.Frag) (ta : TA) : TI := fun σ H R => ta σ H fun vs H1 => ∃ a xs, vs = [.ref a] ∧ SqT K H1 a xs ∧ R (IteT K a) H1
theorem pi_enumT {X : Cx} {e : Expr} {ta : TA} {p pos tpos : Pos} {elts : List Expr} {kk : Nat} (hg : Gl X "enumerate") (hm : X.mg "enumerate" = none) (ha : PA X [e] ta) (hs : starEach [e] X.env = [(false, eval e X.env)] := by rfl) :
    PI X (.Tuple elts kk tpos) (.Call (.Name "enumerate" p) [e] [] pos) (iEnumT X.K ta) := by
  refine ⟨fun pins s σ H R I h => ?_⟩
  refine Call_ (ld_blt I hg hm boot_enumerate (PyProof.Rows.callWith_type1 (thn (ha.run pos pins s σ H _ I h) fun us s1 ⟨vs, H1, I1, r1, q1⟩ => ?_) hs rfl))
  obtain ⟨a, xs, ex, hq, q⟩ := q1
  subst ex
  cases r1 with
  | cons r rr =>
    cases rr
    cases r
    obtain ⟨its, rv, p', hz⟩ := I1.tuple hq
    refine call_enum_tuple (show s1.heap.IsTuple a its.toArray from p') fun h' he hit hsz hk => wpAny_pyIter_enum he ?_
    have I2 : Inv X pins σ H1 { s1 with heap := h' } := I1.kept (t' := s1.toks) hk
    refine ⟨s1.heap.objs.size + 1, [s1.heap.objs.size + 1, s1.heap.objs.size], _, _, H1, rfl, I2, turn_enumT a (s1.heap.objs.size + 1) s1.heap.objs.size, ⟨⟨.none, he⟩, hit, Nat.succ_ne_self _⟩, fun b hb => ?_, q⟩
    have e' : b = s1.heap.objs.size + 1 ∨ b = s1.heap.objs.size := by simpa using hb
    have hle : s1.heap.objs.size ≤ b := by
      rcases e' with z | z
      · rw [z]; exact Nat.le_add_right _ _
      · rw [z]; exact Nat.le_refl _
    exact I1.fpOk hle (I1.hok.fresh hle)
theorem walk_enumT {K : PySem.W.Frag} {a : Addr} {xs : List V} : Walk (IteT K a) xs.length (fun H => SqT K H a xs) (YPair (fun i => some (.int (i : Nat))) (fun i => xs[i]?)) := by
  refine ⟨fun i _ hi q => ⟨xs, xs[i], q, by simp [hi]⟩, fun _ q => ⟨xs, q, rfl⟩, fun i H v H' _ q y => ?_⟩
  obtain ⟨T, x, h1, h2, h3, h4⟩ := y
  exact ⟨T, .int (i : Nat), x, h1, h2, h3, rfl, h4 xs q⟩
end HH
set_option maxHeartbeats 4000000
namespace HH
open PySem PySem.Spec PyProof.Rows L2 Evl RZ
def bef : List Nat → Nat → Nat → Bool
  | [], _, _ => false
  | x :: r, j, i => (decide (x = j) && decide (i ∈ r)) || bef r j i
theorem bef_cons {x : Nat} {r : List Nat} {j i : Nat} : bef (x :: r) j i = true ↔ (x = j ∧ i ∈ r) ∨ bef r j i = true := by
  simp [bef]
theorem bef_mem : ∀ {l : List Nat} {j i : Nat}, bef l j i = true → j ∈ l ∧ i ∈ l
  | [], _, _, h => by cases h
  | x :: r, j, i, h => by
    rcases bef_cons.mp h with ⟨rfl, h1⟩ | h1
    · exact ⟨List.mem_cons_self .., List.mem_cons_of_mem _ h1⟩
    · exact ⟨List.mem_cons_of_mem _ (bef_mem h1).1, List.mem_cons_of_mem _ (bef_mem h1).2⟩
theorem bef_swap {a b i j : Nat} {B : List Nat} (hab : a < b) (hij : i < j) : ∀ A : List Nat, bef (A ++ b :: a :: B) j i = true ↔ bef (A ++ a :: b :: B) j i = true ∨ (i = a ∧ j = b)
  | [] => by
    rw [List.nil_append, List.nil_append, bef_cons, bef_cons, bef_cons, bef_cons, List.mem_cons, List.mem_cons]
    constructor
    · rintro (⟨h1, h2 | h2⟩ | ⟨h1, h2⟩ | h)
      · exact .inr ⟨h2, h1.symm⟩
      · exact .inl (.inr (.inl ⟨h1, h2⟩))
      · exact .inl (.inl ⟨h1, .inr h2⟩)
      · exact .inl (.inr (.inr h))
    · rintro ((⟨h1, h2 | h2⟩ | ⟨h1, h2⟩ | h) | ⟨h1, h2⟩)
      · omega
      · exact .inr (.inl ⟨h1, h2⟩)
      · exact .inl ⟨h1, .inr h2⟩
      · exact .inr (.inr h)
      · exact .inl ⟨h2.symm, .inl h1⟩
  | x :: A => by
    rw [List.cons_append, List.cons_append, bef_cons, bef_cons, bef_swap hab hij A]
    have e : i ∈ A ++ b :: a :: B ↔ i ∈ A ++ a :: b :: B := by
      rw [List.mem_append, List.mem_append, List.mem_cons, List.mem_cons, List.mem_cons, List.mem_cons]
      constructor
      · rintro (h | h | h | h)
        · exact .inl h
        · exact .inr (.inr (.inl h))
        · exact .inr (.inl h)
        · exact .inr (.inr (.inr h))
      · rintro (h | h | h | h)
        · exact .inl h
        · exact .inr (.inr (.inl h))
        · exact .inr (.inl h)
        · exact .inr (.inr (.inr h))
    rw [e]
    constructor
    · rintro (h | h | h)
      · exact .inl (.inl h)
      · exact .inl (.inr h)
      · exact .inr h
    · rintro ((h | h) | h)
      · exact .inl h
      · exact .inr (.inl h)
      · exact .inr (.inr h)
theorem bef_lt : ∀ {l : List Nat} {p q j i : Nat}, l[p]? = some j → l[q]? = some i → p < q → bef l j i = true
  | [], p, q, j, i, h, _, _ => by cases h
  | x :: r, 0, 0, j, i, _, _, h => absurd h (Nat.lt_irrefl 0)
  | x :: r, 0, q + 1, j, i, h1, h2, _ => by
    have e : x = j := Option.some.inj h1
    exact bef_cons.mpr (.inl ⟨e, List.mem_of_getElem? (i := q) h2⟩)
  | x :: r, p + 1, 0, j, i, _, _, h => absurd h (Nat.not_lt_zero _)
  | x :: r, p + 1, q + 1, j, i, h1, h2, h => bef_cons.mpr (.inr (bef_lt (l := r) (p := p) (q := q) h1 h2 (by omega)))
theorem bef_get : ∀ {l : List Nat} {j i : Nat}, bef l j i = true → ∃ p q : Nat, p < q ∧ l[p]? = some j ∧ l[q]? = some i
  | [], _, _, h => by cases h
  | x :: r, j, i, h => by
    rcases bef_cons.mp h with ⟨rfl, h1⟩ | h1
    · obtain ⟨q, hq⟩ := List.getElem?_of_mem h1
      exact ⟨0, q + 1, by omega, rfl, hq⟩
    · obtain ⟨p, q, h2, h3, h4⟩ := bef_get h1
      exact ⟨p + 1, q + 1, by omega, h3, h4⟩
theorem nd_at {l : List Nat} (nd : l.Nodup) {p q j : Nat} (h1 : l[p]? = some j) (h2 : l[q]? = some j) : p = q := by
  have hp := (List.getElem?_eq_some_iff.mp h1).1
  exact (List.getElem?_inj hp nd).mp (h1.trans h2.symm)
theorem bef_iff {l : List Nat} (nd : l.Nodup) {p q j i : Nat} (h1 : l[p]? = some j) (h2 : l[q]? = some i) : bef l j i = decide (p < q) := by
  by_cases h : p < q
  · rw [decide_eq_true h]
    exact bef_lt h1 h2 h
  · rw [decide_eq_false h]
    cases hb : bef l j i with
    | false => rfl
    | true =>
      obtain ⟨p', q', h3, h4, h5⟩ := bef_get hb
      have := nd_at nd h1 h4
      have := nd_at nd h2 h5
      omega
def inP (l : List Nat) (i : Nat) (k : Nat) : Bool := bef l (i + 1 + k) i
def tabR (l : List Nat) (n i m : Nat) : List (Int × Int) := ((List.range m).filter (inP l i)).map fun k => ((i : Int), ((i + 1 + k : Nat) : Int))
def tab (l : List Nat) (n m : Nat) : List (Int × Int) := (List.range m).flatMap fun i => tabR l n i (n - (i + 1))
theorem tab_succ (l : List Nat) (n m : Nat) : tab l n (m + 1) = tab l n m ++ tabR l n m (n - (m + 1)) := by
  unfold tab
  rw [List.range_succ, List.flatMap_append]
  simp
theorem mem_tab {l : List Nat} {n : Nat} {p : Int × Int} : p ∈ tab l n n ↔ ∃ i j : Nat, i < j ∧ j < n ∧ p = ((i : Int), (j : Int)) ∧ bef l j i = true := by
  unfold tab tabR
  rw [List.mem_flatMap]
  constructor
  · rintro ⟨i, hi, h⟩
    obtain ⟨k, hk, rfl⟩ := List.mem_map.mp h
    obtain ⟨h1, h2⟩ := List.mem_filter.mp hk
    have h3 := List.mem_range.mp h1
    exact ⟨i, i + 1 + k, by omega, by omega, rfl, h2⟩
  · rintro ⟨i, j, h1, h2, rfl, h3⟩
    refine ⟨i, List.mem_range.mpr (by omega), List.mem_map.mpr ⟨j - (i + 1), List.mem_filter.mpr ⟨List.mem_range.mpr (by omega), ?_⟩, ?_⟩⟩
    · unfold inP
      rw [show i + 1 + (j - (i + 1)) = j by omega]
      exact h3
    · rw [show i + 1 + (j - (i + 1)) = j by omega]
def lexL (p q : Int × Int) : Prop := p.1 < q.1 ∨ (p.1 = q.1 ∧ p.2 < q.2)
theorem pw_tabR (l : List Nat) (n i m : Nat) : (tabR l n i m).Pairwise lexL := by
  unfold tabR
  rw [List.pairwise_map]
  refine List.Pairwise.filter _ ?_
  refine List.pairwise_lt_range.imp fun {a b} h => .inr ⟨rfl, ?_⟩
  show ((i + 1 + a : Nat) : Int) < ((i + 1 + b : Nat) : Int)
  omega
theorem pw_tab (l : List Nat) (n : Nat) : ∀ m, (tab l n m).Pairwise lexL
  | 0 => .nil
  | m + 1 => by
    rw [tab_succ]
    refine List.pairwise_append.mpr ⟨pw_tab l n m, pw_tabR l n m _, fun p hp q hq => ?_⟩
    obtain ⟨i, hi, h⟩ := List.mem_flatMap.mp hp
    obtain ⟨k, _, rfl⟩ := List.mem_map.mp h
    obtain ⟨k', _, rfl⟩ := List.mem_map.mp hq
    have := List.mem_range.mp hi
    exact .inl (by show (i : Int) < (m : Int); omega)
theorem lex_irr (p : Int × Int) : ¬ lexL p p := fun h => by
  rcases h with h | h
  · omega
  · omega
theorem nd_tab (l : List Nat) (n m : Nat) : (tab l n m).Nodup := (pw_tab l n m).imp fun {a b} h (e : a = b) => lex_irr b (by rw [e] at h; exact h)
structure Told (n : Nat) (l : List Nat) (ps : List (Int × Int)) : Prop where
  mem : ∀ p, p ∈ ps ↔ ∃ i j : Nat, i < j ∧ p = ((i : Int), (j : Int)) ∧ bef l j i = true
  nd : ps.Nodup
theorem told_swap {n a b : Nat} {A B : List Nat} {ps : List (Int × Int)} (t : Told n (A ++ a :: b :: B) ps) (hab : a < b) (nd : (A ++ a :: b :: B).Nodup) : Told n (A ++ b :: a :: B) (ps ++ [((a : Int), (b : Int))]) := by
  refine ⟨fun p => ?_, ?_⟩
  · rw [List.mem_append, List.mem_singleton, t.mem]
    constructor
    · rintro (⟨i, j, h1, h2, h3⟩ | rfl)
      · exact ⟨i, j, h1, h2, (bef_swap hab h1 A).mpr (.inl h3)⟩
      · exact ⟨a, b, hab, rfl, (bef_swap hab hab A).mpr (.inr ⟨rfl, rfl⟩)⟩
    · rintro ⟨i, j, h1, h2, h3⟩
      rcases (bef_swap hab h1 A).mp h3 with h4 | ⟨rfl, rfl⟩
      · exact .inl ⟨i, j, h1, h2, h4⟩
      · exact .inr h2
  · refine List.nodup_append.mpr ⟨t.nd, by simp, fun x hx y hy e => ?_⟩
    rw [List.mem_singleton] at hy
    subst e hy
    obtain ⟨i, j, h1, h2, h3⟩ := (t.mem _).mp hx
    have e1 : a = i := by
      have := congrArg Prod.fst h2
      have : (a : Int) = (i : Int) := this
      omega
    have e2 : b = j := by
      have := congrArg Prod.snd h2
      have : (b : Int) = (j : Int) := this
      omega
    subst e1 e2
    have g1 : (A ++ a :: b :: B)[A.length]? = some a := by simp
    have g2 : (A ++ a :: b :: B)[A.length + 1]? = some b := by
      rw [List.getElem?_append_right (by omega), show A.length + 1 - A.length = 1 by omega]
      rfl
    rw [bef_iff nd g2 g1] at h3
    have := of_decide_eq_true h3
    omega
theorem bef_range' : ∀ (k n : Nat) {j i : Nat}, bef (List.range' k n) j i = true → j < i
  | k, 0, _, _, h => by cases h
  | k, n + 1, j, i, h => by
    rw [List.range'_succ] at h
    rcases bef_cons.mp h with ⟨rfl, h1⟩ | h1
    · have := (List.mem_range'_1.mp h1).1
      omega
    · exact bef_range' _ n h1
theorem told_nil (n : Nat) : Told n (List.range n) [] := by
  refine ⟨fun p => ⟨(fun h => by cases h), ?_⟩, .nil⟩
  rintro ⟨i, j, h1, _, h2⟩
  rw [List.range_eq_range'] at h2
  have := bef_range' 0 n h2
  omega
theorem told_tab {n : Nat} {l : List Nat} {ps : List (Int × Int)} (t : Told n l ps) (hl : ∀ x ∈ l, x < n) : ps.Perm (tab l n n) := by
  refine (List.perm_ext_iff_of_nodup t.nd (nd_tab l n n)).mpr fun p => ?_
  rw [t.mem, mem_tab]
  constructor
  · rintro ⟨i, j, h1, h2, h3⟩
    exact ⟨i, j, h1, hl _ (bef_mem h3).1, h2, h3⟩
  · rintro ⟨i, j, h1, h2, h3, h4⟩
    exact ⟨i, j, h1, h3, h4⟩
end HH
set_option maxHeartbeats 4000000
namespace HH
open PySem PySem.Spec PyProof.Rows L2 Evl RZ
theorem in_it {J : It} {n : Nat} {G : Hp → Prop} {Y : Nat → Hp → V → Hp → Prop} (w : Walk J n G Y) {Step : V → Hp → (Hp → Prop) → Prop} {H1 : Hp} {Qd : Hp → Prop} (Pv : Nat → Hp → Prop) (h0 : Pv 0 H1) (hG : ∀ i H, i ≤ n → Pv i H → G H)
    (hs : ∀ i x H H', i < n → Pv i H → Y i H x H' → Step x H' (Pv (i + 1))) (hd : ∀ H, Pv n H → Qd H) :
    ∃ W : Nat → Nat → Hp → Prop, (∃ m, W 0 m H1) ∧ ∀ i m H, W i m H →
      (J.stop i H ∧ Qd H) ∨ (J.go i H ∧ ∃ Nx : Hp → Prop, (∀ H', Nx H' → ∃ m', m' < m ∧ W (i + 1) m' H') ∧ ∀ x H', J.yld i H x H' → Step x H' Nx) := by
  refine ⟨fun i m H => m = n - i ∧ i ≤ n ∧ Pv i H, ⟨n, by simp, Nat.zero_le _, h0⟩, ?_⟩
  rintro i m H ⟨rfl, hi, p⟩
  have q := hG i H hi p
  by_cases hlt : i < n
  · refine .inr ⟨w.goes i H hlt q, Pv (i + 1), fun H' p' => ⟨n - (i + 1), by omega, rfl, hlt, p'⟩, fun x H' y => hs i x H H' hlt p (w.yields i H x H' hlt q y)⟩
  · have e : i = n := by omega
    subst e
    exact .inl ⟨w.stops H q, hd H p⟩
theorem PRun.told {rs : HH.Row} {L : List Cow} {ps : List (Int × Int)} (r : PRun (tag 0 rs) L ps) (ht : ∀ b ∈ rs, 0 ≤ b.2) : Told rs.length (L.map (·.1)) ps ∧ Facts rs.length L ps ∧ PInv L := by
  induction r with
  | nil =>
    refine ⟨?_, facts_tag ht, pinv_tag 0 rs⟩
    have e : (tag 0 rs).map (·.1) = List.range rs.length := by
      rw [tag_fst]
      have e : (fun x => 0 + x) = (id : Nat → Nat) := by
        funext x
        exact Nat.zero_add x
      rw [e, List.map_id]
    rw [e]
    exact told_nil _
  | step r hp ih =>
    rename_i pre post a b ps
    obtain ⟨t, f, i⟩ := ih
    have hab := pinv_lt i hp (nd_ne f.nd)
    obtain ⟨f1, f2, f3⟩ := facts_pass (q := ((a.1 : Int), (b.1 : Int))) f i hp
    refine ⟨?_, f1, f2⟩
    have e1 : (pre ++ a :: b :: post).map (·.1) = pre.map (·.1) ++ a.1 :: b.1 :: post.map (·.1) := by simp
    have e2 : (pre ++ (b.1, (b.2.1 - a.2.2, b.2.2)) :: a :: post).map (·.1) = pre.map (·.1) ++ b.1 :: a.1 :: post.map (·.1) := by simp
    have nd := f.nd
    rw [e1] at t nd
    rw [e2]
    exact told_swap t hab nd
theorem FRun.told {rs : HH.Row} {L : List Cow} {ps : List (Int × Int)} (r : FRun (tag 0 rs) L ps) (ht : ∀ b ∈ rs, 0 ≤ b.2) : Told rs.length (L.map (·.1)) ps ∧ Facts rs.length L ps ∧ FInv L := by
  induction r with
  | nil =>
    refine ⟨?_, facts_tag ht, finv_tag 0 rs⟩
    have e : (tag 0 rs).map (·.1) = List.range rs.length := by
      rw [tag_fst]
      have e : (fun x => 0 + x) = (id : Nat → Nat) := by
        funext x
        exact Nat.zero_add x
      rw [e, List.map_id]
    rw [e]
    exact told_nil _
  | step r hp ih =>
    rename_i pre post a b ps
    obtain ⟨t, f, i⟩ := ih
    have hab := finv_lt i hp (nd_ne f.nd)
    obtain ⟨f1, f2, f3⟩ := facts_fall (q := ((a.1 : Int), (b.1 : Int))) f i hp
    refine ⟨?_, f1, f2⟩
    have e1 : (pre ++ a :: b :: post).map (·.1) = pre.map (·.1) ++ a.1 :: b.1 :: post.map (·.1) := by simp
    have e2 : (pre ++ b :: (a.1, (a.2.1 + b.2.2, a.2.2)) :: post).map (·.1) = pre.map (·.1) ++ b.1 :: a.1 :: post.map (·.1) := by simp
    have nd := f.nd
    rw [e1] at t nd
    rw [e2]
    exact told_swap t hab nd
theorem Step.ids {L M : List Cow} (h : Step L M) : (M.map (·.1)).Perm (L.map (·.1)) := by
  obtain ⟨pre, post, a, b, rfl, _, rfl⟩ := h
  rw [List.map_append, List.map_append]
  exact List.Perm.append_left _ (List.Perm.swap ..)
theorem FStep.ids {L M : List Cow} (h : FStep L M) : (M.map (·.1)).Perm (L.map (·.1)) := by
  obtain ⟨pre, post, a, b, rfl, _, rfl⟩ := h
  rw [List.map_append, List.map_append]
  exact List.Perm.append_left _ (List.Perm.swap ..)
theorem Steps.ids {L M : List Cow} (h : Steps L M) : (M.map (·.1)).Perm (L.map (·.1)) := by
  induction h with
  | refl => exact .refl _
  | head s _ ih => exact ih.trans s.ids
theorem FSteps.ids {L M : List Cow} (h : FSteps L M) : (M.map (·.1)).Perm (L.map (·.1)) := by
  induction h with
  | refl => exact .refl _
  | head s _ ih => exact ih.trans s.ids
theorem tag_ids (rs : HH.Row) : (tag 0 rs).map (·.1) = List.range rs.length := by
  rw [tag_fst]
  have e : (fun x => 0 + x) = (id : Nat → Nat) := by
    funext x
    exact Nat.zero_add x
  rw [e, List.map_id]
def natsV (l : List Nat) : List V := l.map fun (x : Nat) => V.int (x : Int)
structure PlacesD (l : List Nat) (k : Nat) (kvs : List (Key × V)) : Prop where
  at' : ∀ i x : Nat, i < k → l[i]? = some x → valV kvs (.inl (x : Int)) = some (.int (i : Int))
  few : kvs.length ≤ k
theorem PlacesD.put {l : List Nat} (nd : l.Nodup) {k x : Nat} {kvs : List (Key × V)} (h : PlacesD l k kvs) (hx : l[k]? = some x) : PlacesD l (k + 1) (putK kvs (.inl (x : Int)) (.int (k : Int))) := by
  refine ⟨fun i y hi hy => ?_, ?_⟩
  · rw [valV_put]
    by_cases e : y = x
    · subst e
      have := nd_at nd hy hx
      subst this
      rw [if_pos rfl]
    · rw [if_neg (fun z => e (by
        have z' : (y : Int) = (x : Int) := Sum.inl.inj z
        omega))]
      refine h.at' i y ?_ hy
      rcases Nat.lt_or_ge i k with h1 | h1
      · exact h1
      · have h2 : i = k := by omega
        subst h2
        rw [hx] at hy
        exact absurd (Option.some.inj hy).symm e
  · have := length_putK kvs (.inl (x : Int)) (.int (k : Int))
    have := h.few
    omega
theorem ev_lenT {K : PySem.W.Frag} {ta : TE} {σ : L2.St} {H : Hp} {a : Addr} {xs : List V} (h : Ev ta σ H (.ref a)) (hr : SqT K H a xs) : Ev (tCB (rLenS K) (tCons ta tNil)) σ H (.int (xs.length : Int)) := fun H1 e Q q => h H1 e _ fun H2 e2 => ⟨a, xs, rfl, Or.inr (ex_t (e.trans e2) hr), q H2 e2⟩
theorem ev_dget {td ty : TE} {σ : L2.St} {H : Hp} {a : Addr} {kvs : List (Key × V)} {k : Key} {v : V} (hd : Ev td σ H (.ref a)) (hy : Ev ty σ H (kV k)) (h : H a = some (.dK kvs)) (hv : valV kvs k = some v) : Ev (tDGet td ty) σ H v := fun H1 e Q q =>
  hd H1 e _ fun H2 e2 => hy H2 (e.trans e2) _ fun H3 e3 => ⟨a, v, rfl, by rw [← hv]; exact DGet.k (((e.trans e2).trans e3) _ _ h), q H3 (e2.trans e3)⟩
theorem t_ev {t : TT} {σ : L2.St} {H : Hp} {b : Bool} {Q : Bool → Hp → Prop} (h : EvT t σ H b) (k : ∀ H1, Ex H H1 → Q b H1) : t σ H Q := h H (Ex.refl H) _ k
theorem t_yes {σ : L2.St} {H : Hp} {Q R : Hp → Prop} (h : Q H) : tYes σ H (fun b H1 => if b = true then Q H1 else R H1) := by
  show if true = true then Q H else R H
  rw [if_pos rfl]
  exact h
end HH
set_option maxHeartbeats 4000000
namespace HH
open PySem PySem.Spec PyProof.Rows L2 Evl RZ
theorem step_back {L M : List Cow} (h : Step L M) : FStep M L := by
  obtain ⟨pre, post, a, b, rfl, hp, rfl⟩ := h
  refine ⟨pre, post, _, a, rfl, hp, ?_⟩
  obtain ⟨bi, bs, bt⟩ := b
  show pre ++ a :: (bi, (bs, bt)) :: post = pre ++ a :: (bi, (bs - a.2.2 + a.2.2, bt)) :: post
  rw [Int.sub_add_cancel]
theorem fstep_back {L M : List Cow} (h : FStep L M) : Step M L := by
  obtain ⟨pre, post, a, b, rfl, hp, rfl⟩ := h
  refine ⟨pre, post, b, _, rfl, ?_, ?_⟩
  · show a.2.1 + b.2.2 - b.2.2 > b.2.1
    omega
  · obtain ⟨ai, as, at'⟩ := a
    show pre ++ (ai, (as, at')) :: b :: post = pre ++ (ai, (as + b.2.2 - b.2.2, at')) :: b :: post
    rw [Int.add_sub_cancel]
theorem FSteps.back {L M : List Cow} (h : FSteps L M) : Steps M L := by
  induction h with
  | refl => exact .refl _
  | head s _ ih => exact ih.snoc (fstep_back s)
theorem Steps.back {L M : List Cow} (h : Steps L M) : FSteps M L := by
  induction h with
  | refl => exact .refl _
  | head s _ ih => exact ih.snoc (step_back s)
def rl (f : Nat → Nat) (x : Cow) : Cow := (f x.1, x.2)
def rlL (f : Nat → Nat) (L : List Cow) : List Cow := L.map (rl f)
theorem rl_rows (f : Nat → Nat) (L : List Cow) : rowsOf (rlL f L) = rowsOf L := by
  unfold rowsOf rlL
  rw [List.map_map]
  rfl
theorem Step.map {L M : List Cow} (f : Nat → Nat) (h : Step L M) : Step (rlL f L) (rlL f M) := by
  obtain ⟨pre, post, a, b, rfl, hp, rfl⟩ := h
  exact ⟨rlL f pre, rlL f post, rl f a, rl f b, by simp [rlL], hp, by simp [rlL, rl]⟩
theorem Step.unmap {f : Nat → Nat} {L0 M : List Cow} (h : Step (rlL f L0) M) : ∃ M0, Step L0 M0 ∧ M = rlL f M0 := by
  obtain ⟨pre, post, a, b, h1, hp, rfl⟩ := h
  obtain ⟨p0, r0, rfl, rfl, h2⟩ := List.map_eq_append_iff.mp h1
  obtain ⟨a0, r1, rfl, rfl, h3⟩ := List.map_eq_cons_iff.mp h2
  obtain ⟨b0, r2, rfl, rfl, rfl⟩ := List.map_eq_cons_iff.mp h3
  exact ⟨_, ⟨p0, r2, a0, b0, rfl, hp, rfl⟩, by simp [rlL, rl]⟩
theorem FStep.map {L M : List Cow} (f : Nat → Nat) (h : FStep L M) : FStep (rlL f L) (rlL f M) := step_back ((fstep_back h).map f)
theorem Steps.map {L M : List Cow} (f : Nat → Nat) (h : Steps L M) : Steps (rlL f L) (rlL f M) := by
  induction h with
  | refl => exact .refl _
  | head s _ ih => exact .head (s.map f) ih
theorem FSteps.map {L M : List Cow} (f : Nat → Nat) (h : FSteps L M) : FSteps (rlL f L) (rlL f M) := by
  induction h with
  | refl => exact .refl _
  | head s _ ih => exact .head (s.map f) ih
theorem FStep.unmap {f : Nat → Nat} {L0 M : List Cow} (h : FStep (rlL f L0) M) : ∃ M0, FStep L0 M0 ∧ M = rlL f M0 := by
  obtain ⟨pre, post, a, b, h1, hp, rfl⟩ := h
  obtain ⟨p0, r0, rfl, rfl, h2⟩ := List.map_eq_append_iff.mp h1
  obtain ⟨a0, r1, rfl, rfl, h3⟩ := List.map_eq_cons_iff.mp h2
  obtain ⟨b0, r2, rfl, rfl, rfl⟩ := List.map_eq_cons_iff.mp h3
  exact ⟨_, ⟨p0, r2, a0, b0, rfl, hp, rfl⟩, by simp [rlL, rl]⟩
theorem Steps.unmap {f : Nat → Nat} {L M : List Cow} (h : Steps L M) : ∀ {L0 : List Cow}, L = rlL f L0 → ∃ M0, Steps L0 M0 ∧ M = rlL f M0 := by
  induction h with
  | refl => exact fun e => ⟨_, .refl _, e⟩
  | head s _ ih =>
    intro L0 e
    subst e
    obtain ⟨M1, s1, e1⟩ := s.unmap
    obtain ⟨M0, s0, e0⟩ := ih e1
    exact ⟨M0, .head s1 s0, e0⟩
theorem FSteps.unmap {f : Nat → Nat} {L M : List Cow} (h : FSteps L M) : ∀ {L0 : List Cow}, L = rlL f L0 → ∃ M0, FSteps L0 M0 ∧ M = rlL f M0 := by
  induction h with
  | refl => exact fun e => ⟨_, .refl _, e⟩
  | head s _ ih =>
    intro L0 e
    subst e
    obtain ⟨M1, s1, e1⟩ := s.unmap
    obtain ⟨M0, s0, e0⟩ := ih e1
    exact ⟨M0, .head s1 s0, e0⟩
theorem nf_un {f : Nat → Nat} {L : List Cow} (h : Nf (rlL f L)) : Nf L := fun M s => h _ (s.map f)
theorem ff_un {f : Nat → Nat} {L : List Cow} (h : Ff (rlL f L)) : Ff L := fun M s => h _ (s.map f)
theorem nf_map {f : Nat → Nat} {L : List Cow} (h : Nf L) : Nf (rlL f L) := fun M s => by
  obtain ⟨M0, s0, _⟩ := s.unmap
  exact h _ s0
theorem ff_map {f : Nat → Nat} {L : List Cow} (h : Ff L) : Ff (rlL f L) := fun M s => by
  obtain ⟨M0, s0, _⟩ := s.unmap
  exact h _ s0
def ixN (l : List Nat) (i : Nat) : Nat := (l[i]?).getD 0
theorem tag_at : ∀ (k i : Nat) (rs : HH.Row), (tag k rs)[i]? = (rs[i]?).map fun b => (k + i, b)
  | _, _, [] => rfl
  | k, 0, b :: r => rfl
  | k, i + 1, b :: r => by
    show (tag (k + 1) r)[i]? = (r[i]?).map _
    rw [tag_at (k + 1) i r]
    rw [show k + 1 + i = k + (i + 1) by omega]
theorem rl_tag (L : List Cow) : rlL (ixN (L.map (·.1))) (tag 0 (rowsOf L)) = L := by
  refine List.ext_getElem? fun i => ?_
  unfold rlL
  rw [List.getElem?_map, tag_at]
  unfold rowsOf
  rw [List.getElem?_map]
  cases h : L[i]? with
  | none => rfl
  | some x =>
    show some (rl (ixN (L.map (·.1))) (0 + i, x.2)) = some x
    unfold rl ixN
    rw [Nat.zero_add, List.getElem?_map, h]
    rfl
theorem tolls_rows {L : List Cow} (h : ∀ x ∈ L, 0 ≤ x.2.2) : ∀ b ∈ rowsOf L, 0 ≤ b.2 := fun b hb => by
  obtain ⟨x, hx, rfl⟩ := List.mem_map.mp hb
  exact h x hx
theorem nf_any {L N N' : List Cow} (ht : ∀ x ∈ L, 0 ≤ x.2.2) (s : Steps L N) (n : Nf N) (s' : Steps L N') (n' : Nf N') : N = N' := by
  obtain ⟨M, t, rfl⟩ := s.unmap (rl_tag L).symm
  obtain ⟨M', t', rfl⟩ := s'.unmap (rl_tag L).symm
  rw [one_nf _ (good_tag (tolls_rows ht)) (Nat.le_refl _) t (nf_un n) t' (nf_un n')]
theorem ff_any {L N N' : List Cow} (ht : ∀ x ∈ L, 0 ≤ x.2.2) (s : FSteps L N) (n : Ff N) (s' : FSteps L N') (n' : Ff N') : N = N' := by
  obtain ⟨M, t, rfl⟩ := s.unmap (rl_tag L).symm
  obtain ⟨M', t', rfl⟩ := s'.unmap (rl_tag L).symm
  rw [one_ff _ (fgood_tag (tolls_rows ht)) (Nat.le_refl _) t (ff_un n) t' (ff_un n')]
theorem nf_is {L : List Cow} (ht : ∀ x ∈ L, 0 ≤ x.2.2) : ∃ N, Steps L N ∧ Nf N := by
  obtain ⟨N, s, n⟩ := some_nf _ (good_tag (tolls_rows ht)) (Nat.le_refl _)
  have s' := s.map (ixN (L.map (·.1)))
  rw [rl_tag] at s'
  exact ⟨_, s', nf_map n⟩
theorem ff_is {L : List Cow} (ht : ∀ x ∈ L, 0 ≤ x.2.2) : ∃ N, FSteps L N ∧ Ff N := by
  obtain ⟨N, s, n⟩ := some_ff _ (fgood_tag (tolls_rows ht)) (Nat.le_refl _)
  have s' := s.map (ixN (L.map (·.1)))
  rw [rl_tag] at s'
  exact ⟨_, s', ff_map n⟩
theorem step_tl {L M : List Cow} (h : Step L M) (ht : ∀ x ∈ L, 0 ≤ x.2.2) : ∀ x ∈ M, 0 ≤ x.2.2 := by
  obtain ⟨pre, post, a, b, rfl, hp, rfl⟩ := h
  intro x hx
  simp only [List.mem_append, List.mem_cons] at hx
  rcases hx with h | h | h | h
  · exact ht x (by simp [h])
  · subst h
    exact ht b (by simp)
  · exact ht x (by simp [h])
  · exact ht x (by simp [h])
theorem fstep_tl {L M : List Cow} (h : FStep L M) (ht : ∀ x ∈ L, 0 ≤ x.2.2) : ∀ x ∈ M, 0 ≤ x.2.2 := by
  obtain ⟨pre, post, a, b, rfl, hp, rfl⟩ := h
  intro x hx
  simp only [List.mem_append, List.mem_cons] at hx
  rcases hx with h | h | h | h
  · exact ht x (by simp [h])
  · exact ht x (by simp [h])
  · subst h
    exact ht a (by simp)
  · exact ht x (by simp [h])
theorem Steps.tl {L M : List Cow} (h : Steps L M) (ht : ∀ x ∈ L, 0 ≤ x.2.2) : ∀ x ∈ M, 0 ≤ x.2.2 := by
  induction h with
  | refl => exact ht
  | head s _ ih => exact ih (step_tl s ht)
theorem FSteps.tl {L M : List Cow} (h : FSteps L M) (ht : ∀ x ∈ L, 0 ≤ x.2.2) : ∀ x ∈ M, 0 ≤ x.2.2 := by
  induction h with
  | refl => exact ht
  | head s _ ih => exact ih (fstep_tl s ht)
theorem ends_fstep {L M E : List Cow} (ht : ∀ x ∈ L, 0 ≤ x.2.2) (s : FStep L M) (h : FSteps L E) (n : Ff E) : FSteps M E := by
  obtain ⟨N, s1, n1⟩ := ff_is (fstep_tl s ht)
  rw [ff_any ht h n (.head s s1) n1]
  exact s1
theorem ends_step {L M E : List Cow} (ht : ∀ x ∈ L, 0 ≤ x.2.2) (s : Step L M) (h : Steps L E) (n : Nf E) : Steps M E := by
  obtain ⟨N, s1, n1⟩ := nf_is (step_tl s ht)
  rw [nf_any ht h n (.head s s1) n1]
  exact s1
theorem MRun.both {L0 L E B : List Cow} {ds : List Deed} (r : MRun L0 L ds) (ht : ∀ x ∈ L0, 0 ≤ x.2.2) (hE : Steps L0 E) (nE : Nf E) (hB : FSteps L0 B) (nB : Ff B) : (∀ x ∈ L, 0 ≤ x.2.2) ∧ Steps L E ∧ FSteps L B := by
  induction r with
  | nil => exact ⟨ht, hE, hB⟩
  | pass r hp ih =>
    rename_i pre post a b ds
    have s : Step (pre ++ a :: b :: post) (pre ++ (b.1, (b.2.1 - a.2.2, b.2.2)) :: a :: post) := ⟨_, _, _, _, rfl, hp, rfl⟩
    exact ⟨step_tl s ih.1, ends_step ih.1 s ih.2.1 nE, .head (step_back s) ih.2.2⟩
  | fall r hp ih =>
    rename_i pre post a b ds
    have s : FStep (pre ++ a :: b :: post) (pre ++ b :: (a.1, (a.2.1 + b.2.2, a.2.2)) :: post) := ⟨_, _, _, _, rfl, hp, rfl⟩
    exact ⟨fstep_tl s ih.1, .head (fstep_back s) ih.2.1, ends_fstep ih.1 s ih.2.2 nB⟩
end HH
set_option maxHeartbeats 4000000
namespace HH
open PySem PySem.Spec PyProof.Rows L2 Evl RZ
structure Thru (n : Nat) (l1 l2 y : List Nat) : Prop where
  p1 : l1.Perm (List.range n)
  p2 : l2.Perm (List.range n)
  py : y.Perm (List.range n)
  e : l2 = y.map (ixN l1)
  no : ∀ {a b : Nat}, a < b → bef l1 b a = true → bef l2 b a = true → False
end HH
set_option maxHeartbeats 4000000
namespace SrtO
open PySem PySem.Spec PyProof.Rows L2
section
variable {prog : Program} {w : World} {A : Around} {E : Value → Shared → Prop} {s : Shared}
end
end SrtO
namespace HH
open PySem PySem.Spec PyProof.Rows L2 Evl RZ
section
variable {X : Cx}
end
end HH
set_option maxHeartbeats 4000000
namespace HH
open PySem PySem.Spec PyProof.Rows L2 Evl RZ
theorem natsV_at {l : List Nat} {k x : Nat} (h : l[k]? = some x) : (natsV l)[k]? = some (V.int (x : Int)) := by
  unfold natsV
  rw [List.getElem?_map, h]
  rfl
theorem natsV_len (l : List Nat) : (natsV l).length = l.length := List.length_map ..
section
variable {K : PySem.W.Frag} {σ : L2.St} {H H' : Hp} {ta tb te : TE} {x y v : V}
end
end HH
set_option maxHeartbeats 4000000
namespace HH
open PySem PySem.Spec PyProof.Rows L2 Evl RZ
theorem FSteps.len {L M : List Cow} (h : FSteps L M) : M.length = L.length := by
  have := h.ids.length_eq
  rw [List.length_map, List.length_map] at this
  exact this
theorem Steps.len {L M : List Cow} (h : Steps L M) : M.length = L.length := by
  have := h.ids.length_eq
  rw [List.length_map, List.length_map] at this
  exact this
theorem FSteps.idsT {rs : HH.Row} {M : List Cow} (h : FSteps (tag 0 rs) M) : (M.map (·.1)).Perm (List.range rs.length) := by
  rw [← tag_ids]
  exact h.ids
theorem Steps.idsT {rs : HH.Row} {M : List Cow} (h : Steps (tag 0 rs) M) : (M.map (·.1)).Perm (List.range rs.length) := by
  rw [← tag_ids]
  exact h.ids
section
variable {K : PySem.W.Frag} {σ : L2.St} {H H' : Hp} {ta tb te : TE} {x y v : V} {t : TT} {tu tz : TS} {D : Ends}
theorem beast_eqv (b c : Int × Int) : PyData.eqv (beastD b) (beastD c) = decide (b = c) := by
  obtain ⟨b1, b2⟩ := b
  obtain ⟨c1, c2⟩ := c
  simp [beastD, PyData.eqv, PyData.eqvAll]
  rfl
end
end HH
namespace HH
open PySem PySem.Spec PyProof.Rows L2 Evl RZ
section
variable {X : Cx} {K : PySem.W.Frag}
end
end HH
namespace HH
open PySem PySem.Spec PyProof.Rows L2 Evl RZ
section
variable {K : PySem.W.Frag} {σ : L2.St} {H H' : Hp} {ta tb te : TE} {x y v : V} {Q : VK}
end
end HH
namespace HH
open PySem PySem.Spec PyProof.Rows L2 Evl RZ
section
variable {K : PySem.W.Frag} {σ : L2.St} {H H' : Hp} {ta tb te : TE} {x y v : V} {Q : VK}
end
end HH
set_option maxHeartbeats 4000000
namespace HH
open PySem PySem.Spec PyProof.Rows L2 Evl RZ
section
variable {K : PySem.W.Frag} {σ : L2.St} {H H' : Hp} {ta tb te : TE} {x y v : V} {Q : VK}
end
end HH
namespace HH
open PySem PySem.Spec PyProof.Rows L2 Evl RZ
end HH
namespace HH
open PySem PySem.Spec PyProof.Rows L2 Evl RZ
end HH
set_option maxHeartbeats 4000000
namespace HH
open PySem PySem.Spec PyProof.Rows L2 Evl RZ
theorem s_at {ts : TS} {D : Ends} {σ : L2.St} {H : Hp} (σ' : L2.St) (e : σ = σ') (k : ts D σ' H) : ts D σ H := by
  rw [e]
  exact k
end HH
set_option maxHeartbeats 4000000
namespace HH
open PySem PySem.Spec PyProof.Rows L2 Evl RZ
def barN (rs : HH.Row) (i : Nat) : Nat → Int
  | 0 => sS rs i + tS rs i
  | m + 1 => if sS rs (i + 1 + m) ≤ barN rs i m then barN rs i m + tS rs (i + 1 + m) else barN rs i m
theorem barN_yes {rs : HH.Row} {i m : Nat} (h : sS rs (i + 1 + m) ≤ barN rs i m) : barN rs i (m + 1) = barN rs i m + tS rs (i + 1 + m) := if_pos h
theorem barN_no {rs : HH.Row} {i m : Nat} (h : ¬ sS rs (i + 1 + m) ≤ barN rs i m) : barN rs i (m + 1) = barN rs i m := if_neg h
def tsumC : List Cow → Int
  | [] => 0
  | x :: r => x.2.2 + tsumC r
theorem tsumC_app : ∀ A B : List Cow, tsumC (A ++ B) = tsumC A + tsumC B
  | [], B => by
    show tsumC B = 0 + tsumC B
    omega
  | x :: A, B => by
    show x.2.2 + tsumC (A ++ B) = x.2.2 + tsumC A + tsumC B
    rw [tsumC_app A B]
    omega
def BarI (rs : HH.Row) (m : Nat) : List Cow → Prop
  | [] => True
  | x :: r => x.2.1 + x.2.2 + tsumC r = barN rs x.1 (m - x.1 - 1) ∧ BarI rs m r
def PB (s : Int) : List Cow → Prop
  | [] => True
  | x :: r => x.2.1 + x.2.2 + tsumC r < s ∧ PB s r
theorem ins_end (w : Cow) : ∀ (k : Nat) (A B : List Cow), A.length = k → PB w.2.1 B → ∃ A' B', A ++ B = A' ++ B' ∧ PB w.2.1 B' ∧ Steps (A ++ (w.1, (w.2.1 - tsumC B, w.2.2)) :: B) (A' ++ (w.1, (w.2.1 - tsumC B', w.2.2)) :: B') ∧ ∀ x, A'.getLast? = some x → ¬ (w.2.1 - tsumC B' - x.2.2 > x.2.1)
  | 0, A, B, h, hp => by
    have e : A = [] := List.length_eq_zero_iff.mp h
    subst e
    exact ⟨[], B, rfl, hp, .refl _, fun x hx => by cases hx⟩
  | k + 1, A, B, h, hp => by
    have hne : A ≠ [] := fun e => by
      rw [e] at h
      cases h
    have eA := List.dropLast_concat_getLast hne
    generalize A.getLast hne = a at eA
    by_cases z : w.2.1 - tsumC B - a.2.2 > a.2.1
    · have hl : A.dropLast.length = k := by rw [List.length_dropLast, h]; rfl
      obtain ⟨A', B', e1, p1, s1, l1⟩ := ins_end w k A.dropLast (a :: B) hl ⟨by omega, hp⟩
      refine ⟨A', B', ?_, p1, .head ?_ s1, l1⟩
      · rw [← e1]
        conv => lhs; rw [← eA]
        simp
      · refine ⟨A.dropLast, B, a, (w.1, (w.2.1 - tsumC B, w.2.2)), ?_, z, ?_⟩
        · conv => lhs; rw [← eA]
          simp
        · have e2 : w.2.1 - tsumC (a :: B) = w.2.1 - tsumC B - a.2.2 := by
            show w.2.1 - (a.2.2 + tsumC B) = _
            omega
          rw [e2]
    · refine ⟨A, B, rfl, hp, .refl _, fun x hx => ?_⟩
      have e3 : A.getLast? = some a := by
        rw [← eA]
        simp
      rw [e3] at hx
      cases hx
      exact z
theorem bar_idx {x m : Nat} (h : x < m) : m + 1 - x - 1 = (m - x - 1) + 1 ∧ x + 1 + (m - x - 1) = m := by omega
theorem barI_B {rs : HH.Row} {m : Nat} {s : Int} (hs : s = sS rs m) : ∀ {B : List Cow}, PB s B → BarI rs m B → (∀ x ∈ B, x.1 < m) → BarI rs (m + 1) B ∧ ∀ x ∈ B, barN rs x.1 (m - x.1 - 1) < s
  | [], _, _, _ => ⟨True.intro, fun x hx => by cases hx⟩
  | x :: r, h, b, l => by
    obtain ⟨i1, i2⟩ := bar_idx (l x (List.mem_cons_self ..))
    obtain ⟨g1, g2⟩ := barI_B hs h.2 b.2 fun y hy => l y (List.mem_cons_of_mem _ hy)
    have h1 := h.1
    have hb := b.1
    refine ⟨⟨?_, g1⟩, fun y hy => ?_⟩
    · rw [i1, barN_no (by rw [i2, ← hs, ← hb]; omega)]
      exact hb
    · rcases List.mem_cons.mp hy with rfl | hy
      · rw [← hb]
        exact h1
      · exact g2 y hy
theorem barI_A {rs : HH.Row} {m : Nat} {w : Cow} {B : List Cow} (hw : w.1 = m) (hs : w.2.1 = sS rs m) (ht : w.2.2 = tS rs m) (hB : BarI rs (m + 1) B) : ∀ {A : List Cow}, NfR (A ++ B) → BarI rs m (A ++ B) → (∀ x ∈ A, x.1 < m) → (∀ x, A.getLast? = some x → ¬ (w.2.1 - tsumC B - x.2.2 > x.2.1)) →
    BarI rs (m + 1) (A ++ (w.1, (w.2.1 - tsumC B, w.2.2)) :: B) ∧ (∀ x r, A = x :: r → w.2.1 ≤ x.2.1 + x.2.2 + tsumC (r ++ B)) ∧ ∀ x ∈ A, w.2.1 ≤ barN rs x.1 (m - x.1 - 1)
  | [], _, _, _, _ => by
    refine ⟨⟨?_, hB⟩, fun x r e => (by cases e), fun x hx => by cases hx⟩
    show w.2.1 - tsumC B + w.2.2 + tsumC B = barN rs w.1 (m + 1 - w.1 - 1)
    rw [hw, show m + 1 - m - 1 = 0 by omega]
    show _ = sS rs m + tS rs m
    omega
  | [x], n, b, l, la => by
    obtain ⟨i1, i2⟩ := bar_idx (l x (List.mem_cons_self ..))
    have z := la x rfl
    have hb : x.2.1 + x.2.2 + tsumC ([] ++ B) = barN rs x.1 (m - x.1 - 1) := b.1
    have hc : w.2.1 ≤ x.2.1 + x.2.2 + tsumC ([] ++ B) := by
      show w.2.1 ≤ x.2.1 + x.2.2 + tsumC B
      omega
    refine ⟨⟨?_, ?_⟩, fun y r e => ?_, fun y hy => ?_⟩
    · show x.2.1 + x.2.2 + (w.2.2 + tsumC B) = barN rs x.1 (m + 1 - x.1 - 1)
      rw [i1, barN_yes (by rw [i2, ← hs, ← hb]; exact hc), i2, ← hb, ← ht]
      show _ = x.2.1 + x.2.2 + tsumC B + w.2.2
      omega
    · show BarI rs (m + 1) ((w.1, (w.2.1 - tsumC B, w.2.2)) :: B)
      refine ⟨?_, hB⟩
      show w.2.1 - tsumC B + w.2.2 + tsumC B = barN rs w.1 (m + 1 - w.1 - 1)
      rw [hw, show m + 1 - m - 1 = 0 by omega]
      show _ = sS rs m + tS rs m
      omega
    · cases e
      exact hc
    · rcases List.mem_cons.mp hy with rfl | hy
      · rw [← hb]
        exact hc
      · cases hy
  | x :: y :: A, n, b, l, la => by
    obtain ⟨i1, i2⟩ := bar_idx (l x (List.mem_cons_self ..))
    obtain ⟨g1, g2, g3⟩ := barI_A hw hs ht hB (A := y :: A) n.2 b.2 (fun z hz => l z (List.mem_cons_of_mem _ hz)) (fun z hz => la z (by rw [List.getLast?_cons_cons]; exact hz))
    have hb : x.2.1 + x.2.2 + tsumC (y :: A ++ B) = barN rs x.1 (m - x.1 - 1) := b.1
    have nn := n.1
    have hy := g2 y A rfl
    have hc : w.2.1 ≤ x.2.1 + x.2.2 + tsumC (y :: A ++ B) := by
      show w.2.1 ≤ x.2.1 + x.2.2 + (y.2.2 + tsumC (A ++ B))
      omega
    refine ⟨⟨?_, g1⟩, fun z r e => ?_, fun z hz => ?_⟩
    · show x.2.1 + x.2.2 + tsumC (y :: A ++ (w.1, (w.2.1 - tsumC B, w.2.2)) :: B) = barN rs x.1 (m + 1 - x.1 - 1)
      rw [i1, barN_yes (by rw [i2, ← hs, ← hb]; exact hc), i2, ← hb, ← ht, tsumC_app, tsumC_app]
      show x.2.1 + x.2.2 + (tsumC (y :: A) + (w.2.2 + tsumC B)) = _
      omega
    · cases e
      exact hc
    · rcases List.mem_cons.mp hz with rfl | hz
      · rw [← hb]
        exact hc
      · exact g3 z hz
theorem bef_ins {m j i : Nat} {Y : List Nat} (hj : j ≠ m) (hi : i ≠ m) : ∀ X : List Nat, (bef (X ++ m :: Y) j i = true ↔ bef (X ++ Y) j i = true)
  | [] => by
    show bef (m :: Y) j i = true ↔ bef Y j i = true
    rw [bef_cons]
    constructor
    · rintro (⟨h, _⟩ | h)
      · exact absurd h.symm hj
      · exact h
    · exact .inr
  | x :: X => by
    show bef (x :: (X ++ m :: Y)) j i = true ↔ bef (x :: (X ++ Y)) j i = true
    rw [bef_cons, bef_cons, bef_ins hj hi X]
    have e : i ∈ X ++ m :: Y ↔ i ∈ X ++ Y := by
      simp [hi]
    rw [e]
theorem bef_new {m i : Nat} {Y : List Nat} (hY : m ∉ Y) : ∀ X : List Nat, m ∉ X → (bef (X ++ m :: Y) m i = true ↔ i ∈ Y)
  | [], _ => by
    show bef (m :: Y) m i = true ↔ i ∈ Y
    rw [bef_cons]
    constructor
    · rintro (⟨_, h⟩ | h)
      · exact h
      · exact absurd (bef_mem h).1 hY
    · exact fun h => .inl ⟨rfl, h⟩
  | x :: X, h => by
    show bef (x :: (X ++ m :: Y)) m i = true ↔ i ∈ Y
    rw [bef_cons, bef_new hY X (fun z => h (List.mem_cons_of_mem _ z))]
    constructor
    · rintro (⟨e, _⟩ | h1)
      · exact absurd (List.mem_cons.mpr (.inl e.symm)) h
      · exact h1
    · exact .inr
theorem tag_app : ∀ (k : Nat) (a b : HH.Row), tag k (a ++ b) = tag k a ++ tag (k + a.length) b
  | k, [], b => rfl
  | k, x :: a, b => by
    show (k, x) :: tag (k + 1) (a ++ b) = (k, x) :: (tag (k + 1) a ++ tag (k + (a.length + 1)) b)
    rw [tag_app (k + 1) a b, show k + 1 + a.length = k + (a.length + 1) by omega]
structure EndP (rs : HH.Row) (m : Nat) (N : List Cow) : Prop where
  st : Steps (tag 0 (rs.take m)) N
  nf : NfR N
  ba : BarI rs m N
  ids : (N.map (·.1)).Perm (List.range m)
  by' : ∀ i j : Nat, i < j → j < m → (bef (N.map (·.1)) j i = true ↔ barN rs i (j - i - 1) < sS rs j)
theorem endP {rs : HH.Row} (ht : ∀ b ∈ rs, 0 ≤ b.2) : ∀ m, m ≤ rs.length → ∃ N, EndP rs m N
  | 0, _ => ⟨[], .refl _, True.intro, True.intro, .refl _, fun i j _ h => absurd h (Nat.not_lt_zero _)⟩
  | m + 1, h => by
    obtain ⟨N, e⟩ := endP ht m (by omega)
    have hm : m < rs.length := by omega
    have hg := row_get hm
    have hmem : ∀ x ∈ N, x.1 < m := fun x hx => List.mem_range.mp (e.ids.mem_iff.mp (List.mem_map_of_mem (f := (·.1)) hx))
    obtain ⟨A, B, e1, pb, st, la⟩ := ins_end (m, (sS rs m, tS rs m)) N.length N [] rfl True.intro
    rw [List.append_nil] at e1
    subst e1
    have t0 : 0 ≤ tS rs m := by
      have := ht (sS rs m, tS rs m) (List.mem_of_getElem? hg)
      exact this
    have hA : ∀ x ∈ A, x.1 < m := fun x hx => hmem x (List.mem_append_left _ hx)
    have hB : ∀ x ∈ B, x.1 < m := fun x hx => hmem x (List.mem_append_right _ hx)
    have baB : BarI rs m B := by
      have := e.ba
      clear e st la pb hmem hA
      induction A with
      | nil => exact this
      | cons x A ih => exact ih this.2
    obtain ⟨b1, b2⟩ := barI_B (s := sS rs m) rfl pb baB hB
    obtain ⟨a1, _, a3⟩ := barI_A (w := (m, (sS rs m, tS rs m))) rfl rfl rfl b1 e.nf e.ba hA la
    refine ⟨A ++ (m, (sS rs m - tsumC B, tS rs m)) :: B, ?_, ?_, a1, ?_, ?_⟩
    · have e2 : rs.take (m + 1) = rs.take m ++ [(sS rs m, tS rs m)] := by
        rw [List.take_add_one, hg]
        rfl
      have e3 : tag 0 (rs.take (m + 1)) = tag 0 (rs.take m) ++ [(m, (sS rs m, tS rs m))] := by
        rw [e2, tag_app, List.length_take, Nat.min_eq_left (by omega), Nat.zero_add]
        rfl
      rw [e3]
      have s1 := e.st.under [] [(m, (sS rs m, tS rs m))]
      refine Steps.trans (by simpa using s1) ?_
      have e4 : sS rs m - tsumC [] = sS rs m := Int.sub_zero _
      have st' := st
      dsimp only at st'
      rw [e4] at st'
      simpa using st'
    · refine nfr_in e.nf la fun b r eb => ?_
      subst eb
      have := pb.1
      show ¬ (b.2.1 - tS rs m > sS rs m - (b.2.2 + tsumC r))
      dsimp only at this
      omega
    · rw [List.map_append, List.map_cons, List.range_succ]
      have ids := e.ids
      rw [List.map_append] at ids
      refine List.perm_middle.trans ?_
      refine (List.Perm.cons m ids).trans ?_
      exact List.perm_append_comm (l₁ := [m]) (l₂ := List.range m)
    · intro i j hij hj
      have eids : (A ++ (m, (sS rs m - tsumC B, tS rs m)) :: B).map (·.1) = A.map (·.1) ++ m :: B.map (·.1) := by
        rw [List.map_append, List.map_cons]
      rw [eids]
      have eids0 : (A ++ B).map (·.1) = A.map (·.1) ++ B.map (·.1) := List.map_append
      have noA : m ∉ A.map (·.1) := fun z => by
        obtain ⟨x, hx, ex⟩ := List.mem_map.mp z
        have := hA x hx
        omega
      have noB : m ∉ B.map (·.1) := fun z => by
        obtain ⟨x, hx, ex⟩ := List.mem_map.mp z
        have := hB x hx
        omega
      by_cases hjm : j = m
      · subst hjm
        rw [bef_new noB _ noA]
        constructor
        · intro z
          obtain ⟨x, hx, rfl⟩ := List.mem_map.mp z
          exact b2 x hx
        · intro z
          have hi : i ∈ (A ++ B).map (·.1) := e.ids.mem_iff.mpr (List.mem_range.mpr hij)
          rw [eids0] at hi
          rcases List.mem_append.mp hi with hi | hi
          · obtain ⟨x, hx, rfl⟩ := List.mem_map.mp hi
            have := a3 x hx
            dsimp only at this
            omega
          · exact hi
      · rw [bef_ins hjm (by omega), ← eids0]
        exact e.by' i j hij (by omega)
theorem never_iff {rs : HH.Row} {L : List Cow} (ht : ∀ b ∈ rs, 0 ≤ b.2) (h : Steps (tag 0 rs) L) (nf : Nf L) {i j : Nat} (hij : i < j) (hj : j < rs.length) : bef (L.map (·.1)) j i = true ↔ barN rs i (j - i - 1) < sS rs j := by
  obtain ⟨N, e⟩ := endP ht rs.length (Nat.le_refl _)
  have st := e.st
  rw [List.take_length] at st
  rw [nf_any (good_tag ht).tl h nf st (nfr_nf e.nf)]
  exact e.by' i j hij hj
def nevP (rs : HH.Row) (i m : Nat) : Bool := decide (sS rs (i + 1 + m) ≤ barN rs i m)
def nevL (rs : HH.Row) (i n : Nat) : List Nat := ((List.range n).filter (nevP rs i)).map (i + 1 + ·)
end HH
set_option maxHeartbeats 4000000
namespace HH
open PySem PySem.Spec PyProof.Rows L2 Evl RZ
section
variable {K : PySem.W.Frag} {σ : L2.St} {H H' : Hp} {ta tb te : TE} {x y v : V}
end
def LowN (n : Nat) (b : Int × Int) : Prop := b.1.natAbs ≤ 10 ^ 12 * (n + 1) ∧ 0 ≤ b.2 ∧ b.2 < 10 ^ 12
theorem MRun.low {L0 L : List Cow} {ds : List Deed} (r : MRun L0 L ds) (h : ∀ x ∈ L0, LowN 0 x.2) : ∀ x ∈ L, LowN ds.length x.2 := by
  have e : (10 : Int) ^ 12 = 1000000000000 := by decide
  have e2 : (10 : Nat) ^ 12 = 1000000000000 := by decide
  induction r with
  | nil => exact h
  | pass r hp ih =>
    rename_i pre post a b ds
    intro x hx
    rw [List.length_append]
    show LowN (ds.length + 1) x.2
    have up : ∀ y, LowN ds.length y → LowN (ds.length + 1) y := fun y hy => by
      unfold LowN at hy ⊢
      rw [e2] at hy ⊢
      omega
    simp only [List.mem_append, List.mem_cons] at hx
    rcases hx with hx | hx | hx | hx
    · exact up _ (ih x (by simp [hx]))
    · subst hx
      have ha := ih a (by simp)
      have hb := ih b (by simp)
      unfold LowN at ha hb ⊢
      rw [e, e2] at ha hb ⊢
      dsimp only
      omega
    · exact up _ (ih x (by simp [hx]))
    · exact up _ (ih x (by simp [hx]))
  | fall r hp ih =>
    rename_i pre post a b ds
    intro x hx
    rw [List.length_append]
    show LowN (ds.length + 1) x.2
    have up : ∀ y, LowN ds.length y → LowN (ds.length + 1) y := fun y hy => by
      unfold LowN at hy ⊢
      rw [e2] at hy ⊢
      omega
    simp only [List.mem_append, List.mem_cons] at hx
    rcases hx with hx | hx | hx | hx
    · exact up _ (ih x (by simp [hx]))
    · exact up _ (ih x (by simp [hx]))
    · subst hx
      have ha := ih a (by simp)
      have hb := ih b (by simp)
      unfold LowN at ha hb ⊢
      rw [e, e2] at ha hb ⊢
      dsimp only
      omega
    · exact up _ (ih x (by simp [hx]))
theorem LowN.low {n : Nat} {b : Int × Int} (h : LowN n b) (hn : n ≤ 1000) : Low b := by
  unfold LowN at h
  unfold Low
  have e : (10 : Int) ^ 12 = 1000000000000 := by decide
  have e2 : (10 : Nat) ^ 12 = 1000000000000 := by decide
  have e3 : (10 : Nat) ^ 18 = 1000000000000000000 := by decide
  rw [e, e2] at h
  rw [e3]
  omega
end HH
set_option maxHeartbeats 4000000
namespace HH
open PySem PySem.Spec PyProof.Rows L2 Evl RZ
section
variable {K : PySem.W.Frag} {σ : L2.St} {H H' : Hp} {ta tb te : TE} {x y v : V}
theorem el_catV {l : Addr} {xs ys : List V} (ha : Ev ta σ H (.ref l)) (hl : H l = some (.lst xs)) (hb : EvL tb σ H ys) (hz : xs.length + ys.length ≤ 100000) : EvL (tOp rCat ta tb) σ H (xs ++ ys) := fun H1 e Q q =>
  ha H1 e _ fun H2 e2 => hb H2 (e.trans e2) _ fun p H3 hp e3 h3 => ⟨l, p, xs, ys, rfl, rfl, ((e.trans e2).trans e3) _ _ hl, h3, sz_of hz, fun c hc => q c _ (fresh_back (e2.trans e3) hc) ((e2.trans e3).trans (Ex.new hc)) upd_same⟩
end
end HH
set_option maxHeartbeats 4000000
namespace HH
open PySem PySem.Spec PyProof.Rows L2 Evl RZ
section
variable {X : Cx}
end
def stopAt (l : List Nat) (j : Nat) : V := if j = 0 then .non else .int (ixN l (j - 1) : Int)
structure InsR (w : Cow) (N A B : List Cow) : Prop where
  e : N = A ++ B
  st : Steps (N ++ [w]) (A ++ (w.1, (w.2.1 - tsumC B, w.2.2)) :: B)
  pb : PB w.2.1 B
theorem InsR.start (w : Cow) (N : List Cow) : InsR w N N [] := by
  refine ⟨(List.append_nil N).symm, ?_, True.intro⟩
  have e : (w.1, (w.2.1 - tsumC [], w.2.2)) = w := by
    show (w.1, (w.2.1 - 0, w.2.2)) = w
    rw [Int.sub_zero]
  rw [e]
  exact .refl _
theorem InsR.next {w a : Cow} {N A B : List Cow} (h : InsR w N (A ++ [a]) B) (hp : w.2.1 - tsumC B - a.2.2 > a.2.1) : InsR w N A (a :: B) := by
  refine ⟨by rw [h.e, List.append_assoc]; rfl, h.st.snoc ⟨A, B, a, (w.1, (w.2.1 - tsumC B, w.2.2)), by rw [List.append_assoc]; rfl, hp, ?_⟩, ⟨by omega, h.pb⟩⟩
  have e2 : w.2.1 - tsumC (a :: B) = w.2.1 - tsumC B - a.2.2 := by
    show w.2.1 - (a.2.2 + tsumC B) = _
    omega
  rw [e2]
theorem InsR.stop {w : Cow} {N A B : List Cow} (h : InsR w N A B) (n : NfR N) (t : 0 ≤ w.2.2) (la : ∀ x, A.getLast? = some x → ¬ (w.2.1 - tsumC B - x.2.2 > x.2.1)) : NfR (A ++ (w.1, (w.2.1 - tsumC B, w.2.2)) :: B) := by
  have hn := n
  rw [h.e] at hn
  refine nfr_in hn la fun b r eb => ?_
  have hb := h.pb
  subst eb
  have := hb.1
  show ¬ (b.2.1 - w.2.2 > w.2.1 - (b.2.2 + tsumC r))
  omega
end HH
set_option maxHeartbeats 4000000
namespace HH
open PySem PySem.Spec PyProof.Rows L2 Evl RZ
def ItzM (K : PySem.W.Frag) (a b : Addr) : It :=
  ⟨fun i H => ∃ (xs ys : List V) (x y : V), SqL K H a xs ∧ SqT K H b ys ∧ xs[i]? = some x ∧ ys[i]? = some y,
   fun i H v H' => ∃ T x y, v = .ref T ∧ H T = none ∧ H' = upd H T (.tup [x, y]) ∧ (∀ xs, SqL K H a xs → xs[i]? = some x) ∧ (∀ ys, SqT K H b ys → ys[i]? = some y),
   fun i H => ∃ xs ys : List V, SqL K H a xs ∧ SqT K H b ys ∧ xs.length = ys.length ∧ xs.length = i⟩
def MixSt (z TI TO i1 i2 a b : Addr) (i : Nat) (h : Heap) : Prop := IsZip h z TI TO .none ∧ IsTupOf2 h TI (.ref i1) (.ref i2) ∧ (∃ x y, IsTupOf2 h TO x y) ∧ h.IsListIter i1 a i ∧ h.IsTupleIter i2 b i
theorem five {c z TI TO i1 i2 : Addr} (h : c ∈ [z, TI, TO, i1, i2]) : c = z ∨ c = TI ∨ c = TO ∨ c = i1 ∨ c = i2 := by simpa using h
theorem MixSt.objs {z TI TO i1 i2 a b : Addr} {i : Nat} {h : Heap} (m : MixSt z TI TO i1 i2 a b i h) : ∀ c ∈ [z, TI, TO, i1, i2], ∃ ob, h.get? c = some ob ∧ ∀ v, ob.data ≠ .cell v := fun c hc => by
  obtain ⟨m1, m2, ⟨_, _, m3⟩, ⟨p1, g1, _, d1⟩, ⟨p2, g2, _, d2⟩⟩ := m
  rcases five hc with rfl | rfl | rfl | rfl | rfl
  · exact ⟨_, m1, fun v q => by cases q⟩
  · exact ⟨_, m2, fun v q => by cases q⟩
  · exact ⟨_, m3, fun v q => by cases q⟩
  · exact ⟨p1, g1, fun v q => by rw [d1] at q; cases q⟩
  · exact ⟨p2, g2, fun v q => by rw [d2] at q; cases q⟩
theorem turn_zipM {P : Program} {w : World} {K : PySem.W.Frag} {elts : List Expr} {kk : Nat} {tpos : Pos} {a b z TI TO i1 i2 : Addr} (S : ZipSep2 z TI TO i1 i2 [i1, a] [i2, b]) (na : a ≠ i1) (nb : b ≠ i2) :
    Turn P w K (.Tuple elts kk tpos) (ItzM K a b) [z, TI, TO, i1, i2] z (MixSt z TI TO i1 i2 a b) where
  mem := List.mem_cons_self ..
  obj := fun i h st c hc => st.objs c hc
  keep := fun i h h' st k => by
    obtain ⟨m1, m2, ⟨x, y, m3⟩, m4, m5⟩ := st
    exact ⟨k z (by simp) _ m1, k TI (by simp) _ m2, ⟨x, y, k TO (by simp) _ m3⟩, m4.at fun o q => k i1 (by simp) o q, m5.at fun o q => k i2 (by simp) o q⟩
  item := by
    intro X eP eW eK hc i pins st σ H E inv free mix goes
    subst eP eW eK
    obtain ⟨m1, m2, ⟨x0, y0, m3⟩, m4, m5⟩ := id mix
    obtain ⟨xs, ys, x, y, hxs, hys, hx, hy⟩ := goes
    obtain ⟨vx, rx, px, _⟩ := inv.list hxs
    obtain ⟨vy, ry, py, _⟩ := inv.tuple hys
    obtain ⟨u, hu, ru⟩ := rx.get hx
    obtain ⟨t, htt, rt⟩ := ry.get hy
    have old : ∀ c ∈ [z, TI, TO, i1, i2], c < st.heap.objs.size := fun c hcm => by
      obtain ⟨ob, got, _⟩ := mix.objs c hcm
      exact Heap.lt_size got
    have py' : st.heap.IsTuple b vy.toArray := py
    refine wpAny_pyNext_zipD2_item S (Draws.list (A := X.A.in1) (inv.ok.hd hc) i1 a na vx.toArray) (Draws.tuple (A := X.A.in1) (inv.ok.hd hc) i2 b nb vy.toArray) m1 m2 m3 ⟨m4, px.isList⟩ ⟨m5, py'⟩ (by have := (List.getElem?_eq_some_iff.mp hu).1; simpa using this) (by have := (List.getElem?_eq_some_iff.mp htt).1; simpa using this) fun y1 y2 h' tk hy1 hy2 z' TO' s1' s2' hT hsz hk => ?_
    have e1 : y1 = u := by
      have hh : vx.toArray[i]? = some u := by simpa using hu
      exact Option.some.inj (hy1.symm.trans hh)
    have e2 : y2 = t := by
      have hh : vy.toArray[i]? = some t := by simpa using htt
      exact Option.some.inj (hy2.symm.trans hh)
    subst e1 e2
    refine ⟨_, rfl, wpAny_letOwnedTupleGo_zip (s := { st with heap := h', toks := tk }) z' fun g z2 but => ?_⟩
    have zlt : z < st.heap.objs.size := old z (by simp)
    have made : g.get? st.heap.objs.size = some { cls := .type "tuple", data := .seq #[y1, y2] } := (but.2 _ (Nat.ne_of_gt zlt)).trans hT
    have okT : ObjOk X.prog X.w (upd H st.heap.objs.size (.tup [x, y])) g st.heap.objs.size (.tup [x, y]) := ⟨by show 2 ≤ sizeLine; decide, [y1, y2], .cons ru (.cons rt .nil), ⟨_, made, rfl, _, rfl⟩⟩
    have inv2 : Inv X pins σ (upd H st.heap.objs.size (.tup [x, y])) { st with heap := g, toks := tk } :=
      inv.turnedNew (ch := [z, TI, TO, i1, i2]) (fun c o out q => (but.2 c (fun q' => out (by simp [q']))).trans (hk c o (fun q' => out (by simp [q'])) (fun q' => out (by simp [q'])) (fun q' => out (by simp [q'])) (fun q' => out (by simp [q'])) q)) free (Nat.le_refl _) okT
    have zi1 : i1 ≠ z := fun e => S.zf1 (by rw [← e]; exact S.mem1)
    have zi2 : i2 ≠ z := fun e => S.zf2 (by rw [← e]; exact S.mem2)
    refine ⟨.ref st.heap.objs.size, _, inv2, rfl, ⟨_, x, y, rfl, inv.hok.fresh (Nat.le_refl _), rfl, fun l hl => by rw [inv.list_inj hl hxs]; exact hx, fun l hl => by rw [inv.tuple_inj hl hys]; exact hy⟩, ⟨z2, (but.2 _ S.TIz).trans (hk _ _ S.TIz S.TITO S.TIi1 S.TIi2 m2), ⟨y1, y2, (but.2 _ S.TOz).trans TO'⟩, s1'.1.at fun o q => (but.2 _ zi1).trans q, s2'.1.at fun o q => (but.2 _ zi2).trans q⟩, fun c hcm => ?_⟩
    rw [upd_ne (Nat.ne_of_lt (old c hcm))]
    exact (free c hcm).1
  done := by
    intro X eP eW eK hc i pins st σ H E inv free mix ends
    subst eP eW eK
    obtain ⟨m1, m2, ⟨x0, y0, m3⟩, m4, m5⟩ := mix
    obtain ⟨xs, ys, hxs, hys, hl, hi⟩ := ends
    obtain ⟨vx, rx, px, _⟩ := inv.list hxs
    obtain ⟨vy, ry, py, _⟩ := inv.tuple hys
    have py' : st.heap.IsTuple b vy.toArray := py
    have n1 : vx.toArray.size = i := by
      have := rx.length
      rw [List.size_toArray]
      omega
    have n2 : vy.toArray.size = i := by
      have := ry.length
      rw [List.size_toArray]
      omega
    exact wpAny_pyNext_zipD2_end S (Draws.list (A := X.A.in1) (inv.ok.hd hc) i1 a na vx.toArray) (Draws.tuple (A := X.A.in1) (inv.ok.hd hc) i2 b nb vy.toArray) m1 m2 m3 ⟨m4, px.isList⟩ ⟨m5, py'⟩ (Nat.le_of_eq n1.symm) (Nat.le_of_eq n2.symm) (.inl n1.symm) fun h' tk hk => ⟨rfl, inv.turnedL (ch := [z, TI, TO, i1, i2]) (fun c o out q =>
      hk c o (fun q' => out (by simp [q'])) (fun q' => out (by simp [q'])) (fun q' => out (by simp [q'])) (fun q' => out (by simp [q'])) q) free⟩
  self := fun A i s Q E st h => wpAny_pyIter_zip st.1 h
def iZipM (K : PySem.W.Frag) (ta : TA) : TI := fun σ H R => ta σ H fun vs H1 => ∃ a b xs ys, vs = [.ref a, .ref b] ∧ SqL K H1 a xs ∧ SqT K H1 b ys ∧ R (ItzM K a b) H1
theorem pi_zipM {X : Cx} {e e2 : Expr} {ta : TA} {p pos tpos : Pos} {elts : List Expr} {kk : Nat} (hg : Gl X "zip") (hm : X.mg "zip" = none) (ha : PA X [e, e2] ta)
    (hs : starEach [e, e2] X.env = (false, eval e X.env) :: starEach [e2] X.env := by rfl) (hpl : (backTo pos (starEach [e2] X.env)).any (·.1) = false := by rfl) : PI X (.Tuple elts kk tpos) (.Call (.Name "zip" p) [e, e2] [] pos) (iZipM X.K ta) := by
  refine ⟨fun pins st σ H R inv h => ?_⟩
  refine Call_ (ld_blt inv hg hm PyProof.Rows.boot_zip (PyProof.Rows.callWith_type1 (thn (ha.run pos pins st σ H _ inv h) fun us s1 ⟨vs, H1, I1, rel, q1⟩ => ?_) hs hpl))
  obtain ⟨a, b, xs, ys, rfl, hxs, hys, q⟩ := q1
  cases rel with
  | cons r1 rest =>
    cases rest with
    | cons r2 rest =>
      cases rest
      cases r1
      cases r2
      obtain ⟨vx, rx, px, _⟩ := I1.list hxs
      obtain ⟨vy, ry, py, _⟩ := I1.tuple hys
      have py' : s1.heap.IsTuple b vy.toArray := py
      have la : a < s1.heap.objs.size := px.lt
      have lb : b < s1.heap.objs.size := by
        obtain ⟨o2, ho2, _⟩ := py'
        exact Heap.lt_size ho2
      refine zip_begins2 (begins_list a vx.toArray) (begins_tuple b vy.toArray) px.isList py' fun h' z1 t1 t2 g1 g2 hsz hk => wpAny_pyIter_zip z1 ?_
      have I2 : Inv X pins σ H1 { s1 with heap := h' } := I1.kept (t' := s1.toks) hk
      refine ⟨s1.heap.objs.size + 4, [s1.heap.objs.size + 4, s1.heap.objs.size + 2, s1.heap.objs.size + 3, s1.heap.objs.size, s1.heap.objs.size + 1], _, _, H1, rfl, I2, turn_zipM (zip_sep2 (fp1 := [a]) (fp2 := [b]) (fun c hc => ?_) (fun c hc => ?_)) (Nat.ne_of_lt la) (Nat.ne_of_lt (Nat.lt_succ_of_lt lb)), ⟨z1, t1, ⟨_, _, t2⟩, ⟨_, g1, rfl, rfl⟩, ⟨_, g2, rfl, rfl⟩⟩, fun c hc => ?_, q⟩
      · rw [List.mem_singleton.mp hc]
        exact la
      · rw [List.mem_singleton.mp hc]
        exact lb
      · have up : s1.heap.objs.size ≤ c := by
          rcases five hc with rfl | rfl | rfl | rfl | rfl
          · omega
          · omega
          · omega
          · exact Nat.le_refl _
          · omega
        exact I1.fpOk up (I1.hok.fresh up)
theorem walk_zipM {K : PySem.W.Frag} {a b : Addr} {xs ys : List V} (hl : xs.length = ys.length) : Walk (ItzM K a b) xs.length (fun H => SqL K H a xs ∧ SqT K H b ys) (YPair (fun i => xs[i]?) (fun i => ys[i]?)) := by
  refine ⟨fun i _ hi g => ⟨xs, ys, xs[i], ys[i], g.1, g.2, List.getElem?_eq_getElem hi, List.getElem?_eq_getElem (by omega)⟩, fun _ g => ⟨xs, ys, g.1, g.2, hl, rfl⟩, fun i H v H' _ g y => ?_⟩
  obtain ⟨T, x, z, h1, h2, h3, h4, h5⟩ := y
  exact ⟨T, x, z, h1, h2, h3, h4 xs g.1, h5 ys g.2⟩
end HH
set_option maxHeartbeats 4000000
namespace HH
open PySem PySem.Spec PyProof.Rows L2 Evl RZ
def tp (rs : HH.Row) (k : Nat) : Int := tsum (rs.take k)
section
variable {K : PySem.W.Frag} {σ : L2.St} {H H' : Hp} {ta tb te : TE} {x y v : V} {t : TT}
theorem el_lcR2 {ta : TA} {j : Nat} {vs : List Nat} {lo n : Int} {m : Nat} (f : Nat → Bool) (v : Nat → V) (h : EvA ta σ H [.int lo, .int n]) (hn : 0 ≤ lo ∧ lo ≤ 1000 ∧ 0 ≤ n ∧ n ≤ 1000) (hm : (n - lo).toNat = m) (hw : ∀ x, wipe ((wipe σ vs).set j (some x)) vs = wipe σ vs)
    (ht : ∀ (i : Nat) H1, Ex H H1 → i < m → EvT t ((wipe σ vs).set j (some (.int (lo + (i : Int))))) H1 (f i)) (he : ∀ (i : Nat) H1, Ex H H1 → i < m → f i = true → Ev te ((wipe σ vs).set j (some (.int (lo + (i : Int))))) H1 (v i)) :
    EvL (tLc (iRng2 ta) (gName j) t te vs) σ H (given m f v) := fun H0 e0 Q q => by
  refine h H0 e0 _ fun H1 e1 => ⟨lo, n, rfl, ⟨by omega, by omega, by omega, by omega⟩, fun Dl hD => ?_⟩
  rw [hm]
  refine in_it walk_range (fun i H2 => Ex H1 H2 ∧ H2 Dl = some (.lst (given i f v))) ⟨Ex.new hD, upd_same⟩ (fun _ _ _ _ => True.intro) (fun i x H2 H3 hi p y => ?_) (fun H2 p => q Dl H2 (fresh_back e1 hD) (e1.trans p.1) p.2)
  obtain ⟨rfl, hx⟩ := y
  have hx : x = V.int (lo + (i : Int)) := hx
  subst hx
  refine ⟨hw _, ?_⟩
  have e2 : Ex H H3 := (e0.trans e1).trans p.1
  refine t_ev (ht i H3 e2 hi) fun H4 e4 => ?_
  cases hf : f i with
  | true =>
    show te _ H4 _
    refine he i H3 e2 hi hf H4 e4 _ fun H5 e5 => ⟨_, e5 _ _ (e4 _ _ p.2), ?_, Ex.mut ((p.1.trans e4).trans e5) hD, ?_⟩
    · have := given_len i f v
      exact sz_lt (by omega)
    · rw [upd_same, given_yes hf]
  | false =>
    show Ex H1 H4 ∧ H4 Dl = some (.lst (given (i + 1) f v))
    rw [given_no hf]
    exact ⟨p.1.trans e4, e4 _ _ p.2⟩
theorem alike_flatL {a b : Addr} {xs : List V} (h : SqL K H a xs) (g : SqL K H b xs) (hf : ∀ x ∈ xs, Flat x) (hz : xs.length ≤ 40000) : Alike K H 2 (.ref a) (.ref b) := .inr ⟨a, b, xs, xs, rfl, rfl, .inl ⟨h, g⟩, rfl, hz, fun i u w hu hw => by
  rw [hu] at hw
  cases hw
  exact .inl ⟨rfl, hf u (List.mem_of_getElem? hu)⟩⟩
end
section
variable {X : Cx}
theorem sl_tupAK {K : PySem.W.Frag} (h : X.K = K := by rfl) : SlR X (rSlA K) := by
  subst h
  exact sl_tupA
end
end HH
set_option maxHeartbeats 4000000
namespace HH
open PySem PySem.Spec PyProof.Rows L2 Evl RZ
structure ListsF (H0 H : Hp) (us : List V) (ll : List (List Nat)) : Prop where
  len : us.length = ll.length
  at' : ∀ (i : Nat) (l : List Nat), ll[i]? = some l → ∃ p, us[i]? = some (.ref p) ∧ H0 p = none ∧ H p = some (.lst (natsV l))
theorem ListsF.nil {H0 H : Hp} : ListsF H0 H [] [] := ⟨rfl, fun i l h => by cases h⟩
theorem ListsF.ex {H0 H H' : Hp} {us : List V} {ll : List (List Nat)} (h : ListsF H0 H us ll) (e : Ex H H') : ListsF H0 H' us ll := ⟨h.len, fun i l hl => by
  obtain ⟨p, h1, h2, h3⟩ := h.at' i l hl
  exact ⟨p, h1, h2, e _ _ h3⟩⟩
theorem ListsF.low {H00 H0 H : Hp} {us : List V} {ll : List (List Nat)} (h : ListsF H0 H us ll) (e : Ex H00 H0) : ListsF H00 H us ll := ⟨h.len, fun i l hl => by
  obtain ⟨p, h1, h2, h3⟩ := h.at' i l hl
  exact ⟨p, h1, fresh_back e h2, h3⟩⟩
theorem ListsF.mut {H0 H : Hp} {us : List V} {ll : List (List Nat)} {D : Addr} {o o' : HO} (h : ListsF H0 H us ll) (hD : H0 D = some o) : ListsF H0 (upd H D o') us ll := ⟨h.len, fun i l hl => by
  obtain ⟨p, h1, h2, h3⟩ := h.at' i l hl
  refine ⟨p, h1, h2, ?_⟩
  rw [upd_ne (Ne.symm (ne_of_none hD h2))]
  exact h3⟩
theorem ListsF.app {H0 H : Hp} {us : List V} {ll : List (List Nat)} {p : Addr} {l : List Nat} (h : ListsF H0 H us ll) (hp : H0 p = none) (hl : H p = some (.lst (natsV l))) : ListsF H0 H (us ++ [.ref p]) (ll ++ [l]) := by
  refine ⟨by rw [List.length_append, List.length_append, h.len]; rfl, fun i m hm => ?_⟩
  by_cases hi : i < ll.length
  · rw [List.getElem?_append_left hi] at hm
    rw [List.getElem?_append_left (by rw [h.len]; exact hi)]
    exact h.at' i m hm
  · rw [List.getElem?_append_right (by omega)] at hm
    rw [List.getElem?_append_right (by rw [h.len]; omega), h.len]
    match e : i - ll.length, hm with
    | 0, hm =>
      cases hm
      exact ⟨p, rfl, hp, hl⟩
    | k + 1, hm => cases hm
def nevT (rs : HH.Row) : List (List Nat) := (List.range rs.length).map fun i => nevL rs i (rs.length - i - 1)
def spIsNum : Sp := fun vs H Q _ => ∃ i : Int, vs = [.int i] ∧ RetV (.bl true) H Q
section
variable {X : Cx}
end
section
variable {K : PySem.W.Frag} {σ : L2.St} {H : Hp} {v : V}
end
end HH
set_option maxHeartbeats 4000000
namespace HH
open PySem PySem.Spec PyProof.Rows L2 Evl RZ
def PlainT (o : Obj) : Prop := o.cls = .type "tuple" ∧ o.dict = none
def kTupF (K : PySem.W.Frag) (x : V) (H : Hp) (Q : VK) : Prop := ∃ (l : Addr) (xs : List V), x = .ref l ∧ SqL K H l xs ∧ ∀ (t : Addr) (o : Obj), PlainT o → H t = none → Q (.ref t) (upd H t (.frz o (.tup xs)))
section
variable {X : Cx}
theorem pe_tupleOfF {c : Expr} {tc : TE} {p pos : Pos} (hg : Gl X "tuple") (hm : X.mg "tuple" = none) (hc : PE X c tc) (hs : starEach [c] X.env = (false, eval c X.env) :: starEach [] X.env := by rfl) :
    PE X (.Call (.Name "tuple" p) [c] [] pos) (tThen tc (kTupF X.K)) := by
  refine ⟨fun pins st σ H Q inv h => Call_ (ld_blt inv hg hm boot_tuple (PyProof.Rows.callWith_type1 (one_arg hc inv h (fun v s1 x H1 inv1 rel ask => ?_) hs) hs))⟩
  obtain ⟨l, xs, rfl, sq, q⟩ := ask
  cases rel
  obtain ⟨vals, rv, place, few⟩ := inv1.list sq
  refine call_tuple_list place.isList (fun g keep => ?_) (by rw [List.size_toArray]; have := rv.length; omega)
  have inv2 : Inv X pins σ H1 { s1 with heap := g } := inv1.kept (t' := s1.toks) keep
  have okF : ObjOk X.prog X.w (upd H1 g.objs.size (.frz { cls := .type "tuple", data := .seq vals.toArray } (.tup xs))) (g.push { cls := .type "tuple", data := .seq vals.toArray }) g.objs.size (.frz { cls := .type "tuple", data := .seq vals.toArray } (.tup xs)) :=
    ⟨Heap.get?_push_size _ rfl, few, vals, rv, IsTup.new _ _⟩
  exact ⟨.ref g.objs.size, _, inv2.laid (t' := s1.toks) (fun b o e => Heap.get?_push_of_some _ e) (Nat.le_refl _) okF, rfl, q _ _ ⟨rfl, rfl⟩ (inv2.hok.fresh (Nat.le_refl _))⟩
end
structure LastAtF (K : PySem.W.Frag) (H : Hp) (q : Addr) (L : List Cow) : Prop where
  ex : ∃ (v : V) (ot : Addr) (o : Obj), H q = some (.tup [v, .ref ot]) ∧ RowAt K H v (rowsOf L) ∧ H ot = some (.frz o (.tup (ordL L))) ∧ PlainT o
def spRowOrderF (K : PySem.W.Frag) : Sp := fun vs H Q _ => ∃ (l sa ta : Addr) (N : List Cow) (S T : List Int), vs = [.ref l, .ref sa, .ref ta] ∧ H l = some (.lst (idsV N)) ∧ H sa = some (.lst (S.map V.int)) ∧ H ta = some (.lst (T.map V.int)) ∧ Kept S T N ∧ N.length ≤ 1000 ∧ ∀ q H', Ex H H' → LastAtF K H' q N → Q (.ref q) H'
def spLastF (K : PySem.W.Frag) : Sp := fun vs H Q _ => ∃ (v : V) (rs : HH.Row), vs = [v] ∧ RowAt K H v rs ∧ rs.length ≤ 1000 ∧ (∀ b ∈ rs, 0 ≤ b.2) ∧ ∀ q H' (L : List Cow), Ex H H' → LastAtF K H' q L → Steps (tag 0 rs) L → NfR L → Q (.ref q) H'
end HH
set_option maxHeartbeats 4000000
namespace HH
open PySem PySem.Spec PyProof.Rows L2 Evl RZ
theorem mem_tabN {rs : HH.Row} {L : List Cow} (ht : ∀ b ∈ rs, 0 ≤ b.2) (st : Steps (tag 0 rs) L) (nf : Nf L) {p : Int × Int} : p ∈ tab (L.map (·.1)) rs.length rs.length ↔ ∃ i j : Nat, i < j ∧ j < rs.length ∧ p = ((i : Int), (j : Int)) ∧ barN rs i (j - i - 1) < sS rs j := by
  rw [mem_tab]
  constructor
  · rintro ⟨i, j, h1, h2, h3, h4⟩
    exact ⟨i, j, h1, h2, h3, (never_iff ht st nf h1 h2).mp h4⟩
  · rintro ⟨i, j, h1, h2, h3, h4⟩
    exact ⟨i, j, h1, h2, h3, (never_iff ht st nf h1 h2).mpr h4⟩
inductive StepsN : Nat → List Cow → List Cow → Prop
  | refl (L : List Cow) : StepsN 0 L L
  | head {k : Nat} {L M N : List Cow} : Step L M → StepsN k M N → StepsN (k + 1) L N
theorem StepsN.trans {a b : Nat} {L M N : List Cow} (h : StepsN a L M) (g : StepsN b M N) : StepsN (a + b) L N := by
  induction h with
  | refl => rw [Nat.zero_add]; exact g
  | head s _ ih =>
    rename_i k L M N _
    rw [show k + 1 + b = k + b + 1 by omega]
    exact .head s (ih g)
theorem StepsN.steps {a : Nat} {L M : List Cow} (h : StepsN a L M) : Steps L M := by
  induction h with
  | refl => exact .refl _
  | head s _ ih => exact .head s ih
theorem Steps.count {L M : List Cow} (h : Steps L M) : ∃ k, StepsN k L M := by
  induction h with
  | refl => exact ⟨0, .refl _⟩
  | head s _ ih =>
    obtain ⟨k, g⟩ := ih
    exact ⟨k + 1, .head s g⟩
theorem StepsN.under {a : Nat} {L M : List Cow} (pre post : List Cow) (h : StepsN a L M) : StepsN a (pre ++ L ++ post) (pre ++ M ++ post) := by
  induction h with
  | refl => exact .refl _
  | head s _ ih => exact .head (s.under pre post) ih
theorem StepsN.map {a : Nat} {L M : List Cow} (f : Nat → Nat) (h : StepsN a L M) : StepsN a (rlL f L) (rlL f M) := by
  induction h with
  | refl => exact .refl _
  | head s _ ih => exact .head (s.map f) ih
theorem StepsN.run {a : Nat} {L0 L M : List Cow} (h : StepsN a L M) : ∀ {ps : List (Int × Int)}, PRun L0 L ps → ∃ qs, PRun L0 M qs ∧ qs.length = ps.length + a := by
  induction h with
  | refl => exact fun r => ⟨_, r, rfl⟩
  | head s _ ih =>
    intro ps r
    obtain ⟨pre, post, x, y, rfl, hp, rfl⟩ := s
    obtain ⟨qs, g1, g2⟩ := ih (r.step hp)
    refine ⟨qs, g1, ?_⟩
    rw [g2, List.length_append]
    show ps.length + 1 + _ = _
    omega
theorem StepsN.tab {a : Nat} {rs : HH.Row} {L : List Cow} (ht : ∀ b ∈ rs, 0 ≤ b.2) (h : StepsN a (tag 0 rs) L) : (tab (L.map (·.1)) rs.length rs.length).length = a := by
  obtain ⟨qs, r, e⟩ := h.run (PRun.nil)
  obtain ⟨td, _, _⟩ := r.told ht
  have ids := h.steps.ids
  rw [tag_ids] at ids
  rw [← (told_tab td fun x hx => List.mem_range.mp (ids.mem_iff.mp hx)).length_eq, e]
  show 0 + a = a
  omega
theorem tag_rl (k b : Nat) : ∀ rs : HH.Row, tag (b + k) rs = rlL (b + ·) (tag k rs) := by
  intro rs
  refine List.ext_getElem? fun i => ?_
  unfold rlL
  rw [List.getElem?_map, tag_at, tag_at]
  cases rs[i]? with
  | none => rfl
  | some x =>
    show some (b + k + i, x) = some (b + (k + i), x)
    rw [Nat.add_assoc]
end HH
set_option maxHeartbeats 4000000
namespace HH
open PySem PySem.Spec PyProof.Rows L2 Evl RZ
section
variable {X : Cx}
end
section
variable {K : PySem.W.Frag} {σ : L2.St} {H H' : Hp} {ta tb tc te : TE} {x y v : V} {Q : VK}
theorem alike_pairs {a b : Addr} {us ws : List V} {ps : HH.Row} (ha : SqL K H a us) (hb : SqL K H b ws) (f : Beasts K H us ps) (g : Beasts K H ws ps) (hz : ps.length ≤ 40000) : Alike K H 3 (.ref a) (.ref b) := by
  refine .inr ⟨a, b, us, ws, rfl, rfl, .inl ⟨ha, hb⟩, by rw [f.1, g.1], by rw [f.1]; exact hz, fun i x y hx hy => ?_⟩
  have hi : i < ps.length := by
    rw [← f.1]
    exact (List.getElem?_eq_some_iff.mp hx).1
  obtain ⟨x', ex, bx⟩ := f.2 i _ (List.getElem?_eq_getElem hi)
  obtain ⟨y', ey, by'⟩ := g.2 i _ (List.getElem?_eq_getElem hi)
  rw [hx] at ex
  rw [hy] at ey
  cases ex
  cases ey
  exact alike_beast bx by'
theorem cat_rows {v u : V} {rs ss : HH.Row} (h1 : RowAt K H v rs) (h2 : RowAt K H u ss) (hl : rs.length + ss.length ≤ 100000) (q : ∀ w H2, Ex H H2 → RowAt K H2 w (rs ++ ss) → Q w H2) : rCatA K v u H Q :=
  (er_cat (σ := []) (ta := tC v) (tb := tC u) (er_val ev_c h1) (er_val ev_c h2) hl) H (Ex.refl H) Q q
theorem g_at {i : Nat} {x : V} {k : L2.St → Hp → Prop} (σ' : L2.St) (e : σ.set i (some x) = σ') (h : k σ' H) : gName i x σ H k := by
  show k (σ.set i (some x)) H
  rw [e]
  exact h
end
end HH
set_option maxHeartbeats 4000000
namespace HH
open PySem PySem.Spec PyProof.Rows L2 Evl RZ
abbrev RowsA (K : PySem.W.Frag) (H : Hp) : List V → List HH.Row → Prop := All2 (RowAt K H)
theorem RowsA.ex' {K : PySem.W.Frag} {H H' : Hp} {us : List V} {rr : List HH.Row} (h : RowsA K H us rr) (e : Ex H H') : RowsA K H' us rr := All2.mono (fun _ _ r => r.ex e) h
theorem RowsA.exB' {K : PySem.W.Frag} {H H' : Hp} {us : List V} {rr : List HH.Row} {q : Addr} {ys : List V} (h : RowsA K H us rr) (e : ExB q H H') (hq : H q = some (.lst ys)) : RowsA K H' us rr := All2.mono (fun _ _ r => r.exL e hq) h
section
variable {K : PySem.W.Frag} {σ : L2.St} {H : Hp} {ta tb tc tx : TE} {Q : VK}
theorem alike_three {d : Nat} {a b : Addr} {x1 x2 x3 y1 y2 y3 : V} (h : SqL K H a [x1, x2, x3]) (g : SqL K H b [y1, y2, y3]) (h1 : Alike K H d x1 y1) (h2 : Alike K H d x2 y2) (h3 : Alike K H d x3 y3) : Alike K H (d + 1) (.ref a) (.ref b) := by
  refine .inr ⟨a, b, _, _, rfl, rfl, .inl ⟨h, g⟩, rfl, by show 3 ≤ 40000; decide, fun i u v hu hv => ?_⟩
  match i, hu, hv with
  | 0, hu, hv => cases hu; cases hv; exact h1
  | 1, hu, hv => cases hu; cases hv; exact h2
  | 2, hu, hv => cases hu; cases hv; exact h3
  | i + 3, hu, _ => cases hu
end
end HH
set_option maxHeartbeats 4000000
namespace HH
open PySem PySem.Spec PyProof.Rows L2 Evl RZ
section
variable {X : Cx}
end
end HH
set_option maxHeartbeats 4000000
namespace HH
open PySem PySem.Spec PyProof.Rows L2 Evl RZ
end HH
set_option maxHeartbeats 4000000
namespace HH
open PySem PySem.Spec PyProof.Rows L2 Evl RZ
section
variable {K : PySem.W.Frag} {σ : L2.St} {H H' : Hp} {ta tb tc te tl : TE} {x y v : V} {Q : VK} {D : Ends} {tz tu : TS} {g : TG}
def EvTp (K : PySem.W.Frag) (te : TE) (σ : L2.St) (H : Hp) (xs : List V) : Prop := ∀ H1, Ex H H1 → ∀ Q : VK, (∀ t H2, Ex H1 H2 → SqT K H2 t xs → Q (.ref t) H2) → te σ H1 Q
theorem ep_val {a : Addr} {xs : List V} (h : Ev te σ H (.ref a)) (hs : SqT K H a xs) : EvTp K te σ H xs := fun H1 e Q q => h H1 e Q fun H2 e2 => q a H2 e2 (ex_t (e.trans e2) hs)
theorem ep_cat {xs ys : List V} (ha : EvTp K ta σ H xs) (hb : EvTp K tb σ H ys) (hl : xs.length + ys.length ≤ 100000) : EvTp K (tOp (rCatA K) ta tb) σ H (xs ++ ys) := fun H1 e Q q =>
  ha H1 e _ fun a H2 e2 h1 => hb H2 (e.trans e2) _ fun b H3 e3 g1 => by
    refine ⟨a, b, xs, ys, rfl, rfl, ex_t e3 h1, g1, sz_of hl, fun z => ?_, fun _ z => ?_, fun _ _ p hp => ?_⟩
    · subst z
      exact q _ H3 (e2.trans e3) g1
    · subst z
      rw [List.append_nil] at q
      exact q _ H3 (e2.trans e3) (ex_t e3 h1)
    · exact q _ _ ((e2.trans e3).trans (Ex.new hp)) (st_of upd_same)
theorem ep_to {xs : List V} {ti : TE} {j : Nat} {i : Int} (h : EvTp K te σ H xs) (hi : Ev ti σ H (.int i)) (hj : i = (j : Int)) : EvTp K (tSl (rSlA K) te tNoPart (tPart ti)) σ H (xs.take j) := fun H1 e Q q =>
  h H1 e _ fun a H2 e2 hv => hi H2 (e.trans e2) _ fun H3 e3 => by
    subst hj
    refine ⟨(j : Int), rfl, a, xs, rfl, ex_t e3 hv, fun z => ?_, fun _ p hp => ?_⟩
    · have e0 := cut_all z
      rw [cut_to] at e0
      rw [e0] at q
      exact q _ H3 (e2.trans e3) (ex_t e3 hv)
    · rw [cut_to]
      exact q _ _ ((e2.trans e3).trans (Ex.new hp)) (st_of upd_same)
end
theorem DeedAt.ex' {K : PySem.W.Frag} {H H' : Hp} {v : V} {d : Deed} (h : DeedAt K H v d) (e : Ex H H') : DeedAt K H' v d := by
  obtain ⟨p, h1, h2⟩ := h
  exact ⟨p, h1, ex_t e h2⟩
section
variable {K : PySem.W.Frag} {σ : L2.St} {H H' : Hp} {ta tb tc te tl : TE} {v : V} {D : Ends}
end
section
variable {K : PySem.W.Frag} {σ : L2.St} {H H' : Hp} {ta tb tc te tl : TE} {v : V} {D : Ends}
end
end HH
set_option maxHeartbeats 4000000
namespace HH
open PySem PySem.Spec PyProof.Rows L2 Evl RZ
theorem tS_nn {rs : HH.Row} (ht : ∀ b ∈ rs, 0 ≤ b.2) {k : Nat} (h : k < rs.length) : 0 ≤ tS rs k := ht (sS rs k, tS rs k) (List.mem_of_getElem? (row_get h))
end HH
set_option maxHeartbeats 4000000
namespace HH
open PySem PySem.Spec PyProof.Rows L2 Evl RZ
def PairT (H : Hp) (v : V) (b : Int × Int) : Prop := ∃ p, v = .ref p ∧ H p = some (.tup [.int b.1, .int b.2])
abbrev BeastsT (H : Hp) : List V → HH.Row → Prop := All2 (PairT H)
theorem PairT.ex {H H' : Hp} {v : V} {b : Int × Int} (h : PairT H v b) (e : Ex H H') : PairT H' v b := by
  obtain ⟨p, rfl, hp⟩ := h
  exact ⟨p, rfl, e _ _ hp⟩
theorem PairT.exB {H H' : Hp} {v : V} {b : Int × Int} {q : Addr} {ys : List V} (h : PairT H v b) (e : ExB q H H') (hq : H q = some (.lst ys)) : PairT H' v b := by
  obtain ⟨p, rfl, hp⟩ := h
  exact ⟨p, rfl, e _ _ (ne_of hp hq fun z => nomatch z) hp⟩
theorem BeastsT.ex' {H H' : Hp} {us : List V} {ps : HH.Row} (h : BeastsT H us ps) (e : Ex H H') : BeastsT H' us ps := All2.mono (fun _ _ r => r.ex e) h
theorem BeastsT.exB' {H H' : Hp} {us : List V} {ps : HH.Row} {q : Addr} {ys : List V} (h : BeastsT H us ps) (e : ExB q H H') (hq : H q = some (.lst ys)) : BeastsT H' us ps := All2.mono (fun _ _ r => r.exB e hq) h
theorem BeastsT.be {K : PySem.W.Frag} {H : Hp} : ∀ {us : List V} {ps : HH.Row}, BeastsT H us ps → Beasts K H us ps
  | _, _, .nil => Beasts.nil
  | _, _, .cons a b => by
    obtain ⟨p, rfl, hp⟩ := a
    exact Beasts.app (vs := [_]) (rs := [_]) (Beasts.one ⟨p, rfl, st_of hp⟩) (BeastsT.be b)
theorem BeastsT.at' {H : Hp} {us : List V} {ps : HH.Row} (h : BeastsT H us ps) {k : Nat} {x : V} (hx : us[k]? = some x) : ∃ b, ps[k]? = some b ∧ PairT H x b := h.get hx
def keyP (b : Int × Int) : List Key := [.inl b.1, .inl b.2]
theorem keyP_inj {a b : Int × Int} : keyP a = keyP b ↔ a = b := by
  unfold keyP
  constructor
  · intro h
    simp only [List.cons.injEq, Sum.inl.injEq, and_true] at h
    exact Prod.ext h.1 h.2
  · rintro rfl
    rfl
structure PairsD (kvs : List (List Key × V)) (ps : HH.Row) : Prop where
  has : ∀ b : Int × Int, (valV kvs (keyP b)).isSome = decide (b ∈ ps)
  few : kvs.length ≤ ps.length
theorem PairsD.nil : PairsD [] [] := ⟨fun b => by rw [valV_nil]; simp, Nat.le_refl _⟩
theorem PairsD.put {kvs : List (List Key × V)} {ps : HH.Row} (h : PairsD kvs ps) (b : Int × Int) (v : V) : PairsD (putK kvs (keyP b) v) (ps ++ [b]) := by
  refine ⟨fun c => ?_, ?_⟩
  · rw [valV_put]
    by_cases e : keyP c = keyP b
    · rw [if_pos e]
      have := keyP_inj.mp e
      subst this
      simp
    · rw [if_neg e, h.has c]
      have ne : c ≠ b := fun z => e (by rw [z])
      rw [decide_eq_decide, List.mem_append, List.mem_singleton]
      exact ⟨.inl, fun z => z.elim id fun z => absurd z ne⟩
  · have := length_putK kvs (keyP b) v
    rw [List.length_append]
    show _ ≤ ps.length + 1
    have := h.few
    omega
section
variable {K : PySem.W.Frag} {σ : L2.St} {H : Hp} {ta tb te : TE} {Q : VK}
end
section
variable {K : PySem.W.Frag} {σ : L2.St} {H : Hp} {ta : TE} {v : V} {E : XK}
end
theorem q_run {te : TE} {i : Nat} {tz : TS} {D : Ends} {σ : L2.St} {H : Hp} (h : te σ H fun x H1 => tz D (σ.set i (some x)) H1) : tSeq (tAsg te (gName i)) tz D σ H := h
end HH
set_option maxHeartbeats 4000000
namespace HH
open PySem PySem.Spec PyProof.Rows L2 Evl RZ
def tabPR (p : Nat → Nat → Bool) (i m : Nat) : HH.Row := ((List.range m).filter (p i)).map fun k => ((i : Int), ((i + 1 + k : Nat) : Int))
def tabP (p : Nat → Nat → Bool) (n m : Nat) : HH.Row := (List.range m).flatMap fun i => tabPR p i (n - (i + 1))
end HH
set_option maxHeartbeats 4000000
namespace HH
open PySem PySem.Spec PyProof.Rows L2 Evl RZ
abbrev PrT := Hp → V → Int × Int → Prop
structure Stb (R : PrT) : Prop where
  ex : ∀ {H H' : Hp} {x : V} {b : Int × Int}, Ex H H' → R H x b → R H' x b
  ls : ∀ {H : Hp} {D : Addr} {xs ys : List V} {x : V} {b : Int × Int}, H D = some (.lst xs) → R H x b → R (upd H D (.lst ys)) x b
theorem stb_T : Stb PairT := ⟨fun e h => h.ex e, fun hD h => h.exB (ExB.refl _ _).upd hD⟩
theorem Stb.all {R : PrT} (s : Stb R) {H H' : Hp} (e : Ex H H') {us : List V} {ps : HH.Row} (h : All2 (R H) us ps) : All2 (R H') us ps := All2.mono (fun _ _ r => s.ex e r) h
theorem Stb.allL {R : PrT} (s : Stb R) {H : Hp} {D : Addr} {xs ys : List V} (hD : H D = some (.lst xs)) {us : List V} {ps : HH.Row} (h : All2 (R H) us ps) : All2 (R (upd H D (.lst ys))) us ps := All2.mono (fun _ _ r => s.ls hD r) h
section
variable {K : PySem.W.Frag} {σ : L2.St} {H : Hp} {ta tb te : TE} {t : TT} {R : PrT}
def EvPr (R : PrT) (te : TE) (σ : L2.St) (H : Hp) (ps : HH.Row) : Prop := ∀ H1, Ex H H1 → ∀ Q : VK, (∀ (q : Addr) (us : List V) (H2 : Hp), H1 q = none → Ex H1 H2 → H2 q = some (.lst us) → All2 (R H2) us ps → Q (.ref q) H2) → te σ H1 Q
end
end HH
set_option maxHeartbeats 4000000
namespace HH
open PySem PySem.Spec PyProof.Rows L2 Evl RZ
def putR (rs : HH.Row) (w : Nat) (b : Int × Int) : HH.Row := rs.take w ++ [b] ++ rs.drop (w + 1)
def fedR (rs : HH.Row) (w : Nat) (d : Int) : HH.Row := putR rs w (sS rs w + d, tS rs w)
theorem tS_nn2 {rs : HH.Row} (ht : ∀ b ∈ rs, 0 ≤ b.2) (k : Nat) : 0 ≤ tS rs k := by
  by_cases h : k < rs.length
  · exact tS_nn ht h
  · unfold tS
    rw [List.getElem?_eq_none (by omega)]
    exact Int.le_refl 0
section
variable {K : PySem.W.Frag} {σ : L2.St} {H : Hp} {ta tb te te2 : TE} {t : TT} {R : PrT} {v : V}
end
end HH
set_option maxHeartbeats 4000000
namespace HH
open PySem PySem.Spec PyProof.Rows L2 Evl RZ
section
variable {K : PySem.W.Frag} {σ : L2.St} {H : Hp} {v : V}
end
end HH
set_option maxHeartbeats 4000000
namespace HH
open PySem PySem.Spec PyProof.Rows L2 Evl RZ
def aheadP (rs : HH.Row) (w j : Nat) : Bool := if j < w then !decide (barN rs j (w - j - 1) < sS rs w) else if w < j then decide (barN rs w (j - w - 1) < sS rs j) else false
def placeN (rs : HH.Row) (w : Nat) : Nat := (List.range rs.length).countP (aheadP rs w)
theorem bar_low {rs : HH.Row} (ht : ∀ b ∈ rs, 0 ≤ b.2) {i : Nat} : ∀ m, sS rs i + tS rs i ≤ barN rs i m
  | 0 => Int.le_refl _
  | m + 1 => by
    have ih := bar_low ht (i := i) m
    have t0 := tS_nn2 ht (i + 1 + m)
    by_cases c : sS rs (i + 1 + m) ≤ barN rs i m
    · rw [barN_yes c]
      omega
    · rw [barN_no c]
      exact ih
structure LeastF (rs : HH.Row) (w k : Nat) (F : Int) : Prop where
  nn : 0 ≤ F
  at' : placeN (fedR rs w F) w ≤ k
  no : ∀ f, 0 ≤ f → f < F → k < placeN (fedR rs w f) w
theorem LeastF.one {rs : HH.Row} {w k : Nat} {F G : Int} (a : LeastF rs w k F) (b : LeastF rs w k G) : F = G := by
  rcases Int.lt_trichotomy F G with h | h | h
  · have := b.no F a.nn h
    have := a.at'
    omega
  · exact h
  · have := a.no G b.nn h
    have := b.at'
    omega
end HH
set_option maxHeartbeats 4000000
namespace HH
open PySem PySem.Spec PyProof.Rows L2 Evl RZ
def CowAt (H : Hp) (v : V) (c : Cow) : Prop := ∃ p, v = .ref p ∧ H p = some (.tup [.int (c.1 : Int), .int c.2.1, .int c.2.2])
theorem CowAt.ex {H H' : Hp} {v : V} {c : Cow} (h : CowAt H v c) (e : Ex H H') : CowAt H' v c := by
  obtain ⟨p, rfl, hp⟩ := h
  exact ⟨p, rfl, e _ _ hp⟩
theorem CowAt.ls {H : Hp} {v : V} {c : Cow} {D : Addr} {xs ys : List V} (h : CowAt H v c) (hD : H D = some (.lst xs)) : CowAt (upd H D (.lst ys)) v c := by
  obtain ⟨p, rfl, hp⟩ := h
  refine ⟨p, rfl, ?_⟩
  rw [upd_ne (ne_of hp hD fun z => nomatch z)]
  exact hp
theorem All2.split {α : Type} {R : V → α → Prop} : ∀ {A B : List α} {us : List V}, All2 R us (A ++ B) → ∃ u1 u2, us = u1 ++ u2 ∧ All2 R u1 A ∧ All2 R u2 B
  | [], B, us, h => ⟨[], us, rfl, .nil, h⟩
  | a :: A, B, _, .cons r h => by
    obtain ⟨u1, u2, rfl, h1, h2⟩ := All2.split (A := A) h
    exact ⟨_ :: u1, u2, rfl, .cons r h1, h2⟩
section
variable {K : PySem.W.Frag} {σ : L2.St} {H : Hp} {tl : TE} {D : Ends} {tz tu : TS} {g : TG}
theorem q_forEvT {xs : List V} {c : Addr} (h : Ev tl σ H (.ref c)) (hx : SqT K H c xs) (Pv : Nat → L2.St → Hp → Prop) (h0 : ∀ H1, Ex H H1 → Pv 0 σ H1) (hl : ∀ i σ' H', i ≤ xs.length → Pv i σ' H' → SqT K H' c xs)
    (hs : ∀ i x σ' H' T, xs[i]? = some x → Pv i σ' H' → H' T = none → g (.ref T) σ' (upd H' T (.tup [.int (i : Nat), x])) fun σ2 H2 => tu { D with nx := Pv (i + 1), ct := Pv (i + 1), bk := tz D } σ2 H2) (hd : ∀ σ' H', Pv xs.length σ' H' → tz D σ' H') : tSeq (tFor (iEnumT K (tCons tl tNil)) g tu) tz D σ H :=
  h H (Ex.refl H) _ fun H1 e => ⟨c, xs, rfl, ex_t e hx, for_it (walk_enumT (xs := xs)) (D := { D with nx := tz D }) Pv (h0 H1 e) hl (fun i x σ' H' H2 hi p y => by
    obtain ⟨T, u, z, rfl, nT, rfl, hu, hz⟩ := y
    cases hu
    exact hs i z σ' H' T hz p nT) hd⟩
end
section
variable {K : PySem.W.Frag} {σ : L2.St} {H : Hp} {te te2 : TE} {t : TT} {v : V}
theorem el_enumF {i1 i2 : Nat} {vs : List Nat} {l : List Nat} {a : Addr} (f : Nat → Bool) (h : Ev te σ H (.ref a)) (ha : H a = some (.lst (natsV l))) (hl : l.length ≤ 40000) (hw : ∀ x y, wipe (((wipe σ vs).set i1 (some x)).set i2 (some y)) vs = wipe σ vs) (c1 : ∀ x y : V, (((wipe σ vs).set i1 (some x)).set i2 (some y))[i1]? = some (some x))
    (ht : ∀ (k x : Nat) H1, Ex H H1 → l[k]? = some x → EvT t (((wipe σ vs).set i1 (some (.int (k : Int)))).set i2 (some (.int (x : Int)))) H1 (f k)) : EvL (tLc (iEnum K (tCons te tNil)) (gTup K 2 (gCons (gName i1) (gCons (gName i2) gNil))) t (tVar i1) vs) σ H (given l.length f (fun k => .int (k : Int))) := fun H0 e0 Q q => by
  refine h H0 e0 _ fun H1 e1 => ⟨a, natsV l, rfl, sq_of ((e0.trans e1) _ _ ha), fun D hD => ?_⟩
  have e01 := e0.trans e1
  have ln : (natsV l).length = l.length := natsV_len l
  refine in_it (walk_enum (xs := natsV l)) (fun k H2 => Ex H1 H2 ∧ H2 D = some (.lst (given k f (fun k => .int (k : Int))))) ⟨Ex.new hD, upd_same⟩ (fun k H2 _ p => sq_of ((e01.trans p.1) _ _ ha)) (fun k x H2 H3 hk p y => ?_) (fun H2 p => ?_)
  · obtain ⟨T, u, z, rfl, nT, rfl, hu, hz⟩ := y
    cases hu
    obtain ⟨p1, p2⟩ := p
    have hk' : k < l.length := by omega
    have hz : (natsV l)[k]? = some z := hz
    rw [natsV_at (List.getElem?_eq_getElem hk')] at hz
    cases hz
    have n1 := Ex.new (o := .tup [V.int (k : Nat), .int (l[k] : Int)]) nT
    refine ⟨T, _, rfl, st_of upd_same, rfl, _, _, rfl, _, _, rfl, rfl, hw _ _, ?_⟩
    refine t_ev (ht k _ _ ((e01.trans p1).trans n1) (List.getElem?_eq_getElem hk')) fun H4 e4 => ?_
    cases c : f k with
    | true =>
      refine ⟨_, c1 _ _, _, e4 _ _ (n1 _ _ p2), sz_lt (by have := given_len k f (fun k => V.int (k : Int)); omega), Ex.mut ((p1.trans n1).trans e4) hD, ?_⟩
      rw [upd_same, given_yes c]
    | false =>
      refine ⟨(p1.trans n1).trans e4, ?_⟩
      rw [given_no c]
      exact e4 _ _ (n1 _ _ p2)
  · obtain ⟨p1, p2⟩ := p
    rw [ln] at p2
    exact q D H2 (fresh_back e1 hD) (e1.trans p1) p2
end
end HH
set_option maxHeartbeats 4000000
namespace HH
open PySem PySem.Spec PyProof.Rows L2 Evl RZ
theorem EndAt.ne {K : PySem.W.Frag} {H H' : Hp} {p q ot lp : Addr} {v' : V} {pvs : List V} {L : List Cow} {ps : HH.Row} {n : Nat} (E : EndAt K H H' p q v' ot lp pvs L ps n) : lp ≠ p := fun z => by
  have a := E.lst
  have c := E.prs
  obtain ⟨x, y, z', e, _⟩ := E.bx
  rw [z, e] at a
  cases a
  match ps, c with
  | [], c => exact absurd c.1 (by simp)
  | b0 :: _, c =>
    obtain ⟨u, hu, pp, rfl, _⟩ := c.2 0 b0 rfl
    cases hu
end HH
set_option maxHeartbeats 4000000
namespace HH
open PySem PySem.Spec PyProof.Rows L2 Evl RZ
section
variable {K : PySem.W.Frag} {σ : L2.St} {H : Hp} {ta : TE} {E : XK} {v : V}
end
end HH
set_option maxHeartbeats 4000000
namespace HH
open PySem PySem.Spec PyProof.Rows L2 Evl RZ
theorem mul_once (l : Addr) (its : Array Value) (m : Nat) (dc : Option Addr) (sl : Array (Option Value)) (u : Tok) :
    Meets (Builtin.«tuple.__mul__» ⟨[.ref l, .int 1 u], []⟩) (fun _ R s => s.heap.get? l = some { cls := .type "tuple", dict := dc, data := .seq its m, slots := sl } ∧ R (.ok (.ret (.ref l))) s) :=
  .of_wp fun prog w A R s h => by
    obtain ⟨hp, g, d, tk, os⟩ := s
    obtain ⟨hl, h⟩ := h
    have f1 := AutoSeq1.idx_int
    wp_walk using wpAny_loadPart' hl
    exact ⟨_, rfl, h⟩
def rOnce (K : PySem.W.Frag) : R2 := fun x y H Q => ∃ l xs, x = .ref l ∧ y = .int 1 ∧ SqT K H l xs ∧ Q (.ref l) H
theorem op_once {X : Cx} : OpR X (binaryOp .Mult) (rOnce X.K) := by
  intro held st τ G x y v u Q I rx ry h
  obtain ⟨l, xs, rfl, rfl, hT, q⟩ := h
  cases rx
  obtain ⟨t, rfl⟩ := ry
  obtain ⟨its, r, ⟨ob, ho, hc, m, hd⟩, _⟩ := I.tuple hT
  obtain ⟨cl, dc, da, sl⟩ := ob
  dsimp only at hc hd
  subst hc hd
  have ty : st.TypeIs (.ref l) "tuple" := ⟨_, ho, rfl⟩
  refine wpAny_binaryOp_repeat_ref (T := "tuple") (U := "int") (by decide) ty (fun s' => typeIs_int s' 1 t) noFill_tuple_mul F.fills_int_mul F.slot_int_rmul repeat_tuple F.slot_int_index.lookup ?_
  refine call_meets F.slot_int_rmul (typeIs_int st 1 t) F.entry_int_rmul (F.args_int_rmul_2 _ _) (int_rmul_tuple 1 t l its.toArray m dc sl) ⟨ho, rfl, ty, ?_⟩
  refine call_meets F.slot_tuple_mul ty F.entry_tuple_mul (F.args_tuple_mul_2 _ _) (mul_once l its.toArray m dc sl t) ⟨ho, ?_⟩
  exact ⟨.ref l, G, I, rfl, q⟩
def rRepA (K : PySem.W.Frag) : R2 := fun x y H Q => rOnce K x y H Q ∨ rRepT K x y H Q
theorem op_repA {X : Cx} : OpR X (binaryOp .Mult) (rRepA X.K) := by
  intro held st τ G x y v u Q I rx ry h
  rcases h with h | h
  · exact op_once held st τ G x y v u Q I rx ry h
  · exact op_repT held st τ G x y v u Q I rx ry h
theorem rep_row {K : PySem.W.Frag} {H : Hp} {v : V} {b : Int × Int} {n : Nat} {Q : VK} (hv : RowAt K H v [b]) (h0 : 0 < n) (hn : n ≤ 1000) (q : ∀ z H', Ex H H' → RowAt K H' z (List.replicate n b) → Q z H') : rRepA K v (.int (n : Int)) H Q := by
  obtain ⟨a, us, rfl, ha, bs⟩ := hv
  by_cases h1 : n = 1
  · subst h1
    exact .inl ⟨a, us, rfl, rfl, ha, q _ H (Ex.refl H) ⟨a, us, rfl, ha, bs⟩⟩
  · obtain ⟨u, rfl⟩ : ∃ u, us = [u] := by
      match us, bs.1 with
      | [u], _ => exact ⟨u, rfl⟩
    refine .inr ⟨a, (n : Int), [u], rfl, rfl, ha, (by simp), by omega, by omega, by show 1 ≤ 1000; decide, fun p hp => ?_⟩
    have e : (List.replicate (n : Int).toNat [u]).flatten = List.replicate n u := by
      rw [show (n : Int).toNat = n by omega, List.flatten_replicate_singleton]
    rw [e]
    have np := Ex.new (o := .tup (List.replicate n u)) hp
    refine q _ _ np ⟨p, _, rfl, st_of upd_same, ?_⟩
    obtain ⟨bu, hb1⟩ := bs
    obtain ⟨u', hu', hbe⟩ := hb1 0 b rfl
    cases hu'
    refine ⟨by rw [List.length_replicate, List.length_replicate], fun i c hc => ?_⟩
    rw [List.getElem?_replicate] at hc
    by_cases hi : i < n
    · rw [if_pos hi] at hc
      cases hc
      exact ⟨u, by rw [List.getElem?_replicate, if_pos hi], hbe.ex np⟩
    · rw [if_neg hi] at hc
      cases hc
end HH
set_option maxHeartbeats 4000000
namespace HH
open PySem PySem.Spec PyProof.Rows L2 Evl RZ
def Lk (a e : HH.Row) : Prop := ∃ M, Steps (tag 0 a) M ∧ rowsOf M = e
theorem Lk.rfl' (a : HH.Row) : Lk a a := ⟨tag 0 a, .refl _, tag_snd 0 a⟩
theorem Lk.trans {a b c : HH.Row} (h : Lk a b) (g : Lk b c) : Lk a c := by
  obtain ⟨M, s, rfl⟩ := h
  obtain ⟨N, t, rfl⟩ := g
  have t' := t.map (HH.ixN (M.map (·.1)))
  rw [rl_tag] at t'
  exact ⟨_, s.trans t', rl_rows _ _⟩
theorem rowsOf_app (L M : List Cow) : rowsOf (L ++ M) = rowsOf L ++ rowsOf M := List.map_append
theorem Lk.under {a e : HH.Row} (p q : HH.Row) (h : Lk a e) : Lk (p ++ a ++ q) (p ++ e ++ q) := by
  obtain ⟨M, s, rfl⟩ := h
  have s1 := (s.map (p.length + ·)).under (tag 0 p) (tag (p.length + a.length) q)
  rw [← tag_rl 0 p.length, Nat.add_zero] at s1
  refine ⟨tag 0 p ++ rlL (p.length + ·) M ++ tag (p.length + a.length) q, ?_, ?_⟩
  · rw [tag_app, tag_app, Nat.zero_add, Nat.zero_add, List.length_append]
    exact s1
  · rw [rowsOf_app, rowsOf_app, rl_rows, show rowsOf (tag 0 p) = p from tag_snd 0 p, show rowsOf (tag (p.length + a.length) q) = q from tag_snd _ q]
theorem Lk.app {a e b f : HH.Row} (h : Lk a e) (g : Lk b f) : Lk (a ++ b) (e ++ f) := by
  have h1 := h.under [] b
  have g1 := g.under e []
  rw [List.nil_append, List.nil_append] at h1
  rw [List.append_nil, List.append_nil] at g1
  exact h1.trans g1
theorem Lk.tl {a e : HH.Row} (h : Lk a e) (ht : ∀ b ∈ a, 0 ≤ b.2) : ∀ b ∈ e, 0 ≤ b.2 := by
  obtain ⟨M, s, rfl⟩ := h
  exact tolls_rows (s.tl (good_tag ht).tl)
def EndR (a e : HH.Row) : Prop := ∃ L, Steps (tag 0 a) L ∧ Nf L ∧ rowsOf L = e
theorem EndR.lk {a e : HH.Row} (h : EndR a e) : Lk a e := by
  obtain ⟨L, s, _, r⟩ := h
  exact ⟨L, s, r⟩
theorem EndR.one {a e f : HH.Row} (ht : ∀ b ∈ a, 0 ≤ b.2) (h : EndR a e) (g : EndR a f) : e = f := by
  obtain ⟨L, s, n, rfl⟩ := h
  obtain ⟨M, t, m, rfl⟩ := g
  rw [nf_any (good_tag ht).tl s n t m]
theorem EndR.is {a : HH.Row} (ht : ∀ b ∈ a, 0 ≤ b.2) : ∃ e, EndR a e := by
  obtain ⟨N, s, n⟩ := nf_is (good_tag ht).tl
  exact ⟨_, N, s, n, rfl⟩
theorem EndR.back {a b e : HH.Row} (h : Lk a b) (g : EndR b e) : EndR a e := by
  obtain ⟨M, s, rfl⟩ := h
  obtain ⟨N, t, n, rfl⟩ := g
  have t' := t.map (HH.ixN (M.map (·.1)))
  rw [rl_tag] at t'
  exact ⟨_, s.trans t', nf_map n, rl_rows _ _⟩
def Jn (a b : HH.Row) : Prop := ∃ e, Lk a e ∧ Lk b e
theorem Jn.same (a : HH.Row) : Jn a a := ⟨a, Lk.rfl' a, Lk.rfl' a⟩
theorem Jn.to {a e : HH.Row} (h : Lk a e) : Jn a e := ⟨e, h, Lk.rfl' e⟩
theorem Jn.of {a e : HH.Row} (h : Lk e a) : Jn a e := ⟨a, Lk.rfl' a, h⟩
theorem Jn.app {a b c d : HH.Row} (h : Jn a b) (g : Jn c d) : Jn (a ++ c) (b ++ d) := by
  obtain ⟨e, h1, h2⟩ := h
  obtain ⟨f, g1, g2⟩ := g
  exact ⟨e ++ f, h1.app g1, h2.app g2⟩
inductive Jns : List HH.Row → List HH.Row → Prop
  | nil : Jns [] []
  | cons {a b : HH.Row} {rr ss : List HH.Row} : Jn a b → Jns rr ss → Jns (a :: rr) (b :: ss)
theorem Jns.len {rr ss : List HH.Row} (h : Jns rr ss) : rr.length = ss.length := by
  induction h with
  | nil => rfl
  | cons _ _ ih => rw [List.length_cons, List.length_cons, ih]
theorem Jns.of : ∀ {rr ss : List HH.Row}, rr.length = ss.length → (∀ (i : Nat) (a b : HH.Row), rr[i]? = some a → ss[i]? = some b → Jn a b) → Jns rr ss
  | [], [], _, _ => .nil
  | a :: rr, b :: ss, hl, h => .cons (h 0 a b rfl rfl) (Jns.of (by simpa using hl) fun i x y hx hy => h (i + 1) x y hx hy)
theorem Jn.flat : ∀ {rr ss : List HH.Row}, Jns rr ss → Jn rr.flatten ss.flatten
  | _, _, .nil => Jn.same []
  | _, _, .cons h t => by
    rw [List.flatten_cons, List.flatten_cons]
    exact h.app (Jn.flat t)
theorem Jn.ends {a b x y : HH.Row} (ht : ∀ c ∈ a, 0 ≤ c.2) (hu : ∀ c ∈ b, 0 ≤ c.2) (h : Jn a b) (hx : EndR a x) (hy : EndR b y) : y = x := by
  obtain ⟨e, h1, h2⟩ := h
  obtain ⟨z, hz⟩ := EndR.is (h1.tl ht)
  rw [EndR.one ht hx (hz.back h1), EndR.one hu hy (hz.back h2)]
def JnC (L M : List Cow) : Prop := ∃ N, Steps L N ∧ Steps M N
end HH
set_option maxHeartbeats 4000000
namespace HH
open PySem PySem.Spec PyProof.Rows L2 Evl RZ
structure Moved (K : PySem.W.Frag) (H : Hp) (q : Addr) (rs : HH.Row) (L : List Cow) : Prop where
  at_ : LastAt K H q L
  jn : JnC (tag 0 rs) L
  ids : (L.map (·.1)).Perm (List.range rs.length)
  tl : ∀ x ∈ L, 0 ≤ x.2.2
theorem Moved.ex {K : PySem.W.Frag} {H H' : Hp} {q : Addr} {rs : HH.Row} {L : List Cow} (h : Moved K H q rs L) (e : Ex H H') : Moved K H' q rs L := ⟨h.at_.mono e, h.jn, h.ids, h.tl⟩
end HH
set_option maxHeartbeats 4000000
namespace HH
open PySem PySem.Spec PyProof.Rows L2 Evl RZ
end HH
set_option maxHeartbeats 4000000
namespace HH
open PySem PySem.Spec PyProof.Rows L2 Evl RZ
section
variable {K : PySem.W.Frag} {σ : L2.St} {H H' : Hp} {ta tb te : TE} {v : V}
end
structure TabAt (K : PySem.W.Frag) (H : Hp) (t : Addr) (ll : List (List Nat)) : Prop where
  ex : ∃ (us : List V), SqL K H t us ∧ us.length = ll.length ∧ ∀ (i : Nat) (l : List Nat), ll[i]? = some l → ∃ p, us[i]? = some (.ref p) ∧ SqL K H p (natsV l)
theorem TabAt.mono {K : PySem.W.Frag} {H H' : Hp} {t : Addr} {ll : List (List Nat)} (h : TabAt K H t ll) (e : Ex H H') : TabAt K H' t ll := by
  obtain ⟨us, h1, h2, h3⟩ := h.ex
  exact ⟨us, ex_l e h1, h2, fun i l hl => by
    obtain ⟨p, g1, g2⟩ := h3 i l hl
    exact ⟨p, g1, ex_l e g2⟩⟩
theorem TabAt.of {K : PySem.W.Frag} {H0 H : Hp} {t : Addr} {us : List V} {ll : List (List Nat)} (h : SqL K H t us) (f : ListsF H0 H us ll) : TabAt K H t ll := ⟨us, h, f.len, fun i l hl => by
  obtain ⟨p, g1, _, g3⟩ := f.at' i l hl
  exact ⟨p, g1, sq_of g3⟩⟩
section
variable {K : PySem.W.Frag} {σ : L2.St} {H H' : Hp} {ta tb te : TE} {v : V}
theorem TabAt.row {t : Addr} {ll : List (List Nat)} {i : Nat} {l : List Nat} (h : TabAt K H t ll) (hl : ll[i]? = some l) (h1 : Ev ta σ H (.ref t)) (h2 : Ev tb σ H (.int (i : Int))) : ∃ p, Ev (tOp (rIxL K) ta tb) σ H (.ref p) ∧ SqL K H p (natsV l) := by
  obtain ⟨us, g1, g2, g3⟩ := h.ex
  obtain ⟨p, q1, q2⟩ := g3 i l hl
  exact ⟨p, ev_op h1 h2 (rv_ixL (K := K) g1 (atI_nat q1)), q2⟩
end
end HH
set_option maxHeartbeats 4000000
namespace HH
open PySem PySem.Spec PyProof.Rows L2 Evl RZ
structure HasX (P : Program) (w : World) (K : PySem.W.Frag) (mg : Str → Option Value) (base : Heap) (k : Nat) (x : Str) (ps : List Str) (sp : Sp) (f : Addr) (fd : FuncData) : Prop where
  G : FnOk P w K mg base (L2.CX P w) k f fd ps sp
  g : mg x = some (.ref f)
  kp : PySem.W.keepIn K (.ref f) = true
  b : Binds K fd ps []
structure HasE (P : Program) (w : World) (K : PySem.W.Frag) (mg : Str → Option Value) (base : Heap) (bk : Bk) (x f : Str) (C fI : Addr) (fd : FuncData) : Prop where
  T : ExcTy K bk f C fI
  F : FnOk P w K mg base CX0 1 fI fd ["self", f] (spIni C f)
  b : Binds K fd ["self", f] []
  g : mg x = some (.ref C)
theorem Has.imp {P : Program} {w : World} {K : PySem.W.Frag} {mg : Str → Option Value} {base : Heap} {k : Nat} {x : Str} {ps : List Str} {sp sp' : Sp} {f : Addr} {fd : FuncData} (h : Has P w K mg base k x ps sp f fd) (i : ∀ vs H Q E, sp' vs H Q E → sp vs H Q E) : Has P w K mg base k x ps sp' f fd := ⟨h.G.imp i, h.g, h.kp, h.b⟩
section
variable {K : PySem.W.Frag} {σ : L2.St} {H : Hp} {ta : TA} {te : TE} {C a d : Addr} {fs : List (Str × V)}
end
end HH
set_option maxHeartbeats 4000000
namespace HH
open PySem PySem.Spec PyProof.Rows L2 Evl RZ
end HH
set_option maxHeartbeats 4000000
namespace HH
open PySem PySem.Spec PyProof.Rows L2 Evl RZ
end HH
set_option maxHeartbeats 4000000
namespace HH
open PySem PySem.Spec PyProof.Rows L2 Evl RZ
def Shw (n : Nat) (d : PyData) : Prop := d.showable = true ∧ d.shown.length ≤ n
theorem Shw.le {n m : Nat} {d : PyData} (h : Shw n d) (e : n ≤ m) : Shw m d := ⟨h.1, Nat.le_trans h.2 e⟩
end HH
set_option maxHeartbeats 4000000
namespace HH
open PySem PySem.Spec PyProof.Rows L2 Evl
def ZipA (H : Hp) (us : List V) (ps : List (V × V)) : Prop := All2 (fun u p => ∃ T, u = .ref T ∧ H T = some (.tup [p.1, p.2])) us ps
theorem ZipA.ex {H H' : Hp} {us : List V} {ps : List (V × V)} (h : ZipA H us ps) (e : Ex H H') : ZipA H' us ps := All2.mono (fun _ _ ⟨T, a, b⟩ => ⟨T, a, e _ _ b⟩) h
theorem ZipA.put {H : Hp} {q : Addr} {xs ys : List V} {us : List V} {ps : List (V × V)} (h : ZipA H us ps) (hq : H q = some (.lst xs)) : ZipA (upd H q (.lst ys)) us ps := All2.mono (fun _ _ ⟨T, a, b⟩ => ⟨T, a, by
  rw [upd_ne (fun z => by rw [z, hq] at b; cases b)]
  exact b⟩) h
def ZS (h : Heap) (H : Hp) (z TI TO i1 i2 a b : Addr) (i : Nat) : Prop := IsPair h TI (.ref i1) (.ref i2) ∧ h.IsListIter i1 a i ∧ h.IsListIter i2 b i ∧
  ((IsZip h z TI TO .none ∧ ∃ x y, IsPair h TO x y) ∨ ∃ (T : Addr) (f : Bool) (p q : V), IsZipHeld h z TI TO T f ∧ H T = some (.tup [p, q]) ∧ ∃ o, h.get? TO = some o)
section
variable {X : Cx} {pins : List (Addr × Obj)} {σ : L2.St} {H H0 : Hp} {s : Shared} {z TI TO i1 i2 a b q : Addr} {xs ys : List V} {A A1 : Around} {E : Value → Shared → Prop}
abbrev FpL (X : Cx) (pins : List (Addr × Obj)) (H : Hp) (l : List Addr) : Prop := ∀ c ∈ l, FpOk X pins H c
theorem FpL.up {l : List Addr} {T : Addr} {o : HO} (h : FpL X pins H l) (ne : ∀ c ∈ l, c ≠ T) : FpL X pins (upd H T o) l := fun c hc => by
  obtain ⟨f0, f1⟩ := h c hc
  exact ⟨by rw [upd_ne (ne c hc)]; exact f0, f1⟩
theorem ZS.type {i : Nat} (h : ZS s.heap H z TI TO i1 i2 a b i) : s.TypeIs (.ref z) "zip" := by
  obtain ⟨_, _, _, h | h⟩ := h
  · exact ⟨_, h.1, rfl⟩
  · obtain ⟨_, _, _, _, h, _⟩ := h
    exact ⟨_, h, rfl⟩
theorem ZS.keep {h h' : Heap} {H' : Hp} {i : Nat} (st : ZS h H z TI TO i1 i2 a b i) (k : ∀ c ∈ [z, TI, TO, i1, i2], ∀ o, h.get? c = some o → h'.get? c = some o) (kH : ∀ T p q, H T = some (.tup [p, q]) → H' T = some (.tup [p, q])) : ZS h' H' z TI TO i1 i2 a b i := by
  obtain ⟨t, a1, a2, g⟩ := st
  refine ⟨k TI (by simp) _ t, a1.at fun o e => k i1 (by simp) o e, a2.at fun o e => k i2 (by simp) o e, ?_⟩
  rcases g with ⟨g1, x, y, g2⟩ | ⟨T, f, p, q, g1, g2, o, g3⟩
  · exact .inl ⟨k z (by simp) _ g1, x, y, k TO (by simp) _ g2⟩
  · exact .inr ⟨T, f, p, q, k z (by simp) _ g1, kH _ _ _ g2, o, k TO (by simp) _ g3⟩
theorem ZS.put {its its' : List Value} {n i : Nat} {us vs : List V} {f : Array Value → Array Value} (hf : FpL X pins H [z, TI, TO, i1, i2]) (hq : H q = some (.lst us)) (st : ZS s.heap H z TI TO i1 i2 a b i) :
    ZS (s.heap.update q (Obj.mapSeq f)) (upd H q (.lst vs)) z TI TO i1 i2 a b i :=
  st.keep (fun c hc o e => (Heap.get?_update_other s.heap (Obj.mapSeq f) (fun w => by
    have := (hf c hc).1
    rw [← w, hq] at this
    cases this)).trans e) (fun T p r hT => by
      rw [upd_ne (fun w => by rw [w, hq] at hT; cases hT)]
      exact hT)
theorem FpL.put {us vs : List V} (hf : FpL X pins H [z, TI, TO, i1, i2]) (hq : H q = some (.lst us)) : FpL X pins (upd H q (.lst vs)) [z, TI, TO, i1, i2] := hf.up fun c hc w => by
  have := (hf c hc).1
  rw [w, hq] at this
  cases this
end
end HH
set_option maxHeartbeats 4000000
namespace HH
open PySem PySem.Spec PyProof.Rows L2 Evl
def tlN (rs : HH.Row) (i : Nat) : Int := ((rs[i]?).getD (0, 0)).2
def ctT (e : List Nat) (rs : HH.Row) (p : Int × Int) (k : Nat) : Int := if bef e p.2.toNat p.1.toNat = true then (if k = p.1.toNat then tlN rs p.1.toNat else 0) else (if k = p.2.toNat then - tlN rs p.2.toNat else 0)
def sT (e : List Nat) (rs : HH.Row) (ps : HH.Row) (k : Nat) : Int := (ps.map fun p => ctT e rs p k).sum
structure Went (K : PySem.W.Frag) (H : Hp) (v : V) (o : Addr) (rs : HH.Row) (L : List Cow) : Prop where
  row : RowAt K H v rs
  len : rs.length ≤ 30
  tl : ∀ b ∈ rs, 0 ≤ b.2
  ord : SqT K H o (natsV (L.map (·.1)))
  run : ∃ ds, MRun (tag 0 rs) L ds
theorem Went.ex {K : PySem.W.Frag} {H H' : Hp} {v : V} {o : Addr} {rs : HH.Row} {L : List Cow} (h : Went K H v o rs L) (e : Ex H H') : Went K H' v o rs L := ⟨h.row.ex e, h.len, h.tl, ex_t e h.ord, h.run⟩
theorem run_ids {rs : HH.Row} {L : List Cow} {ds : List Deed} (tl : ∀ b ∈ rs, 0 ≤ b.2) (r : MRun (tag 0 rs) L ds) : (L.map (·.1)).Perm (List.range rs.length) := by
  obtain ⟨E, sE, nE⟩ := nf_is (good_tag tl).tl
  obtain ⟨B, sB, nB⟩ := ff_is (good_tag tl).tl
  exact ((r.both (good_tag tl).tl sE nE sB nB).2.1).ids.symm.trans sE.idsT
theorem Went.ids {K : PySem.W.Frag} {H : Hp} {v : V} {o : Addr} {rs : HH.Row} {L : List Cow} (h : Went K H v o rs L) : (L.map (·.1)).Perm (List.range rs.length) := by
  obtain ⟨ds, r⟩ := h.run
  exact run_ids h.tl r
theorem Went.nd {K : PySem.W.Frag} {H : Hp} {v : V} {o : Addr} {rs : HH.Row} {L : List Cow} (h : Went K H v o rs L) : (L.map (·.1)).Nodup := h.ids.nodup_iff.mpr List.nodup_range
theorem Went.lenL {K : PySem.W.Frag} {H : Hp} {v : V} {o : Addr} {rs : HH.Row} {L : List Cow} (h : Went K H v o rs L) : (L.map (·.1)).length = rs.length := by rw [h.ids.length_eq, List.length_range]
theorem Went.all {K : PySem.W.Frag} {H : Hp} {v : V} {o : Addr} {rs : HH.Row} {L : List Cow} (h : Went K H v o rs L) (x : Nat) (hx : x < (L.map (·.1)).length) : x ∈ L.map (·.1) := h.ids.mem_iff.mpr (List.mem_range.mpr (by rw [← h.lenL]; exact hx))
end HH
set_option maxHeartbeats 4000000
namespace HH
open PySem PySem.Spec PyProof.Rows L2 Evl
section
variable {e : List Nat} {rs ps : HH.Row} {i j n : Nat}
end
end HH
set_option maxHeartbeats 4000000
namespace HH
open PySem PySem.Spec PyProof.Rows L2 Evl
structure Keeps (rs : HH.Row) (o : List Nat) : Prop where
  ids : o.Perm (List.range rs.length)
  kp : ∀ E B, Steps (tag 0 rs) E → Nf E → FSteps (tag 0 rs) B → Ff B → ∀ i j, i < j → j < rs.length → bef (E.map (·.1)) j i = false → bef (B.map (·.1)) j i = false → bef o j i = false
theorem Keeps.nd {rs : HH.Row} {o : List Nat} (k : Keeps rs o) : o.Nodup := k.ids.nodup_iff.mpr List.nodup_range
theorem Keeps.len {rs : HH.Row} {o : List Nat} (k : Keeps rs o) : o.length = rs.length := by rw [k.ids.length_eq, List.length_range]
end HH
set_option maxHeartbeats 4000000
namespace HH
open PySem PySem.Spec PyProof.Rows L2 Evl
structure CellP (H0 H : Hp) (as : List Addr) (t p : Nat → Int) : Prop where
  nd : as.Nodup
  old : ∀ a ∈ as, H0 a = none
  at' : ∀ (i : Nat) (a : Addr), as[i]? = some a → H a = some (.lst [.int (t i), .int (p i)])
theorem CellP.ex {H0 H H' : Hp} {as : List Addr} {t p : Nat → Int} (h : CellP H0 H as t p) (e : Ex H H') : CellP H0 H' as t p := ⟨h.nd, h.old, fun i a ha => e _ _ (h.at' i a ha)⟩
theorem CellP.app {H0 H : Hp} {as : List Addr} {T : Addr} (h : CellP H0 H as (fun _ => 0) (fun _ => 0)) (h0 : H0 T = none) (hT : H T = none) : CellP H0 (upd H T (.lst [.int 0, .int 0])) (as ++ [T]) (fun _ => 0) (fun _ => 0) := by
  have nT : T ∉ as := fun m => by
    obtain ⟨i, hi⟩ := List.getElem?_of_mem m
    rw [h.at' i T hi] at hT
    cases hT
  refine ⟨List.nodup_append.mpr ⟨h.nd, by simp, fun x hx y hy e => nT (by rw [List.mem_singleton] at hy; rw [← hy, ← e]; exact hx)⟩, fun a ha => ?_, fun i a ha => ?_⟩
  · rcases List.mem_append.mp ha with m | m
    · exact h.old a m
    · rw [List.mem_singleton.mp m]
      exact h0
  · by_cases c : i < as.length
    · rw [List.getElem?_append_left c] at ha
      rw [upd_ne (fun z => nT (by rw [← z]; exact List.mem_of_getElem? ha))]
      exact h.at' i a ha
    · have hlt : i < (as ++ [T]).length := (List.getElem?_eq_some_iff.mp ha).1
      rw [List.length_append] at hlt
      have hlt : i < as.length + 1 := hlt
      have e : i = as.length := by omega
      rw [e, List.getElem?_append_right (Nat.le_refl _), Nat.sub_self] at ha
      cases ha
      exact upd_same
theorem CellP.ne {H0 H : Hp} {as : List Addr} {t p : Nat → Int} (h : CellP H0 H as t p) {i k : Nat} {a c : Addr} (ha : as[i]? = some a) (hc : as[k]? = some c) (n : k ≠ i) : c ≠ a := fun z => by
  subst z
  have h1 := (List.getElem?_eq_some_iff.mp ha).1
  exact n ((List.getElem?_inj h1 h.nd).mp (ha.trans hc.symm)).symm
section
variable {K : PySem.W.Frag} {σ : L2.St} {H : Hp} {te : TE} {v : V} {Q : VK} {j : Nat} {vs : List Nat}
end
section
variable {K : PySem.W.Frag} {σ : L2.St} {H H0 : Hp} {tf tx tv : TE} {D : Ends} {fa a : Addr} {as : List Addr} {t p : Nat → Int} {i : Nat} {d : Int}
end
end HH
set_option maxHeartbeats 4000000
namespace HH
open PySem PySem.Spec PyProof.Rows L2 Evl
section
variable {e : List Nat} {rs ps : HH.Row} {i j n : Nat}
end
section
variable {K : PySem.W.Frag} {σ : L2.St} {H : Hp} {te t1 t2 : TE} {o : Addr} {l : List Nat} {j : Nat} {vs : List Nat}
end
end HH
set_option maxHeartbeats 4000000
namespace HH
open PySem PySem.Spec PyProof.Rows L2
section
variable {w : World} {P : Program} {s : Shared} {A : Around} {E : Value → Shared → Prop}
end
section
variable {X : Cx}
end
end HH
set_option maxHeartbeats 4000000
namespace HH
open PySem PySem.Spec PyProof.Rows L2 Evl RZ
end HH
set_option maxHeartbeats 4000000
namespace HH
open PySem PySem.Spec PyProof.Rows L2 Evl RZ
structure Cells (H0 H : Hp) (as : List Addr) (ll : Nat → List Nat) : Prop where
  nd : as.Nodup
  old : ∀ a ∈ as, H0 a = none
  at' : ∀ (i : Nat) (a : Addr), as[i]? = some a → H a = some (.lst (natsV (ll i)))
theorem Cells.ex {H0 H H' : Hp} {as : List Addr} {ll : Nat → List Nat} (h : Cells H0 H as ll) (e : Ex H H') : Cells H0 H' as ll := ⟨h.nd, h.old, fun i a ha => e _ _ (h.at' i a ha)⟩
theorem Cells.congr {H0 H : Hp} {as : List Addr} {ll lm : Nat → List Nat} (h : Cells H0 H as ll) (e : ∀ i, i < as.length → lm i = ll i) : Cells H0 H as lm := ⟨h.nd, h.old, fun i a ha => by
  rw [e i (List.getElem?_eq_some_iff.mp ha).1]
  exact h.at' i a ha⟩
theorem Cells.put {H0 H : Hp} {as : List Addr} {ll lm : Nat → List Nat} {i : Nat} {a : Addr} {l : List Nat} (h : Cells H0 H as ll) (ha : as[i]? = some a) (h1 : lm i = l) (h2 : ∀ k, k ≠ i → lm k = ll k) : Cells H0 (upd H a (.lst (natsV l))) as lm := ⟨h.nd, h.old, fun k c hc => by
  by_cases z : k = i
  · subst z
    rw [ha] at hc
    cases hc
    rw [h1]
    exact upd_same
  · have ne : c ≠ a := fun e => by
      subst e
      obtain ⟨g1, g2⟩ := List.getElem?_eq_some_iff.mp hc
      exact z ((List.getElem?_inj g1 h.nd).mp (hc.trans ha.symm))
    rw [upd_ne ne, h2 k z]
    exact h.at' k c hc⟩
theorem Cells.app {H0 H : Hp} {as : List Addr} {p : Addr} (h : Cells H0 H as fun _ => []) (h0 : H0 p = none) (hp : H p = none) : Cells H0 (upd H p (.lst [])) (as ++ [p]) fun _ => [] := by
  have np : p ∉ as := fun z => by
    obtain ⟨i, hi⟩ := List.mem_iff_getElem?.mp z
    have := h.at' i p hi
    rw [hp] at this
    cases this
  refine ⟨?_, fun a ha => ?_, fun i a ha => ?_⟩
  · rw [List.nodup_append]
    exact ⟨h.nd, List.pairwise_singleton _ p, fun a ha b hb e => np (by rw [List.mem_singleton.mp hb] at e; rw [← e]; exact ha)⟩
  · rcases List.mem_append.mp ha with ha | ha
    · exact h.old a ha
    · rw [List.mem_singleton.mp ha]
      exact h0
  · by_cases hi : i < as.length
    · rw [List.getElem?_append_left hi] at ha
      have ne : a ≠ p := fun e => np (by rw [← e]; exact List.mem_of_getElem? ha)
      rw [upd_ne ne]
      exact h.at' i a ha
    · rw [List.getElem?_append_right (by omega)] at ha
      match e : i - as.length, ha with
      | 0, ha =>
        cases ha
        exact upd_same
      | k + 1, ha => cases ha
section
variable {K : PySem.W.Frag} {σ : L2.St} {H : Hp} {D : Ends} {tz tu : TS}
end
end HH
set_option maxHeartbeats 4000000
namespace HH
open PySem PySem.Spec PyProof.Rows L2 Evl RZ
structure WantsD (rs : HH.Row) (who m : Nat) (kvs : List (Key × V)) : Prop where
  val : ∀ j : Nat, who ≤ j + m → j < who → valV kvs (.inl (j : Int)) = some (.int (barN rs j (who - j - 1) + 1))
  key : ∀ kv ∈ kvs, ∃ j : Nat, kv.1 = .inl (j : Int) ∧ j < who ∧ who ≤ j + m
  len : kvs.length ≤ m
theorem WantsD.nil (rs : HH.Row) (who : Nat) : WantsD rs who 0 [] := ⟨fun j h1 h2 => by omega, (fun kv h => nomatch h), Nat.le_refl _⟩
theorem WantsD.put {rs : HH.Row} {who m : Nat} {kvs : List (Key × V)} (w : WantsD rs who m kvs) (hm : m < who) : WantsD rs who (m + 1) (putK kvs (.inl ((who - 1 - m : Nat) : Int)) (.int (barN rs (who - 1 - m) m + 1))) := by
  have no : valV kvs (.inl ((who - 1 - m : Nat) : Int)) = none := by
    cases c : valV kvs (.inl ((who - 1 - m : Nat) : Int)) with
    | none => rfl
    | some x =>
      exfalso
      have z := valV_any (Sum.inl ((who - 1 - m : Nat) : Int)) kvs
      rw [c] at z
      obtain ⟨kv, hkv, e⟩ := List.any_eq_true.mp z
      obtain ⟨j, e2, h1, h2⟩ := w.key kv hkv
      have e3 : kv.1 = .inl ((who - 1 - m : Nat) : Int) := of_decide_eq_true e
      rw [e2] at e3
      injection e3 with e3
      omega
  refine ⟨fun j h1 h2 => ?_, fun kv hkv => ?_, ?_⟩
  · rw [valV_put]
    by_cases c : j = who - 1 - m
    · rw [if_pos (by rw [c]), c, show who - (who - 1 - m) - 1 = m by omega]
    · rw [if_neg (fun z => c (by injection z with z; omega))]
      exact w.val j (by omega) h2
  · rw [putK_new _ no] at hkv
    rcases List.mem_append.mp hkv with h | h
    · obtain ⟨j, a, b, c⟩ := w.key kv h
      exact ⟨j, a, b, by omega⟩
    · rw [List.mem_singleton.mp h]
      exact ⟨who - 1 - m, rfl, by omega, by omega⟩
  · rw [putK_new _ no, List.length_append]
    have := w.len
    show kvs.length + 1 ≤ _
    omega
end HH
set_option maxHeartbeats 4000000
namespace HH
open PySem PySem.Spec PyProof.Rows L2 Evl RZ
section
variable {K : PySem.W.Frag} {σ : L2.St} {H H' : Hp} {ta tb te : TE} {v : V} {Q : VK}
end
end HH
set_option maxHeartbeats 4000000
namespace HH
open PySem PySem.Spec PyProof.Rows L2 Evl RZ
section
variable {K : PySem.W.Frag} {σ : L2.St} {H : Hp} {te ta tb : TE} {t : TT}
end
end HH
namespace HH
open PySem PySem.Spec PyProof.Rows L2 Evl RZ
section
variable {K : PySem.W.Frag} {σ : L2.St} {H : Hp} {te : TE}
theorem eu_tupV {l : Addr} {xs : List V} (h : Ev te σ H (.ref l)) (hl : SqL K H l xs) : EvU (tThen te (kTup K)) σ H xs := fun H1 e Q q => h H1 e _ fun H2 e2 => .inl ⟨l, xs, rfl, ex_l (e.trans e2) hl, fun p hp => q p _ (fresh_back e2 hp) (e2.trans (Ex.new hp)) upd_same⟩
end
theorem natsV_app (A B : List Nat) : natsV (A ++ B) = natsV A ++ natsV B := List.map_append ..
end HH
namespace HH
open PySem PySem.Spec PyProof.Rows L2 Evl RZ
end HH
namespace HH
open PySem PySem.Spec PyProof.Rows L2 Evl RZ
end HH
set_option maxHeartbeats 4000000
namespace HH
open PySem PySem.Spec PyProof.Rows L2 Evl
end HH
set_option maxHeartbeats 4000000
namespace HH
open PySem PySem.Spec PyProof.Rows Srt SrtO
def IsDeed (h : Heap) (v : Value) (b : Bool) (y : Int) : Prop := ∃ a o t u n, v = .ref a ∧ h.get? a = some o ∧ o.cls = .type "tuple" ∧ o.data = .seq #[.str (wordOf b) t, .int y u] n
theorem IsDeed.keeps {h h' : Heap} {v : Value} {b : Bool} {y : Int} (p : IsDeed h v b y) (k : ∀ b o, h.get? b = some o → o.cls = .type "tuple" → h'.get? b = some o) : IsDeed h' v b y := by
  obtain ⟨a, o, t, u, n, e, ho, hc, hd⟩ := p
  exact ⟨a, o, t, u, n, e, k _ _ ho hc, hc, hd⟩
section
variable {prog : Program} {w : World} {A : Around} {E : Value → Shared → Prop} {s : Shared}
end
open L2 Evl
open Classical in
section
variable {X : Cx}
end
end HH
set_option maxHeartbeats 4000000
namespace HH
open PySem PySem.Spec PyProof.Rows L2 Evl
end HH
set_option maxHeartbeats 4000000
namespace HH
open PySem PySem.Spec PyProof.Rows L2 Evl
def FrzT (H : Hp) (a : Addr) (xs : List V) : Prop := ∃ o, PlainT o ∧ H a = some (.frz o (.tup xs))
theorem FrzT.ex {H H' : Hp} {a : Addr} {xs : List V} (h : FrzT H a xs) (e : Ex H H') : FrzT H' a xs := by
  obtain ⟨o, h1, h2⟩ := h
  exact ⟨o, h1, e _ _ h2⟩
theorem FrzT.exB {H H' : Hp} {p a : Addr} {xs : List V} {n : Nat} (h : FrzT H a xs) (e : ExB p H H') (hb : Bx H p n) : FrzT H' a xs := by
  obtain ⟨o, h1, h2⟩ := h
  obtain ⟨l, hl⟩ := hb.lst
  refine ⟨o, h1, e _ _ (fun z => ?_) h2⟩
  rw [z, hl] at h2
  cases h2
theorem FrzT.sq {K : PySem.W.Frag} {H : Hp} {a : Addr} {xs : List V} (h : FrzT H a xs) : SqT K H a xs := by
  obtain ⟨o, _, h2⟩ := h
  exact .inl (.inr ⟨o, h2⟩)
section
variable {K : PySem.W.Frag} {σ : L2.St} {H : Hp} {te t1 t2 : TE} {tt : TT} {o : Addr} {l : List Nat} {j : Nat} {vs : List Nat}
end
section
variable {K : PySem.W.Frag} {σ : L2.St} {H : Hp} {te t1 : TE} {o : Addr} {l : List Nat} {j : Nat} {vs : List Nat}
end
end HH
set_option maxHeartbeats 4000000
namespace HH
open PySem PySem.Spec PyProof.Rows L2 Evl
def SqA (K : PySem.W.Frag) (H : Hp) (a : Addr) (xs : List V) : Prop := SqL K H a xs ∨ SqT K H a xs
theorem SqA.ex {K : PySem.W.Frag} {H H' : Hp} {a : Addr} {xs : List V} (h : SqA K H a xs) (e : Ex H H') : SqA K H' a xs := h.imp (ex_l e) (ex_t e)
end HH
namespace L2
open PySem PySem.Spec PyProof.Rows
structure HeldX (P : Program) (w : World) (K : PySem.W.Frag) (mg : Str → Option Value) (base : Heap) (k : Nat) (f : Addr) (sp : Sp) : Prop where
  ex : ∃ (fd : FuncData) (ps : List Str), FnOk P w K mg base (L2.CX P w) k f fd ps sp ∧ PySem.W.keepIn K (.ref f) = true ∧ Binds K fd ps []
section
variable {X : Cx} {k i : Nat} {E : L2.St → XK} {x : Str} {p pos : Pos} {e : Expr} {es : List Expr} {t : TA}
end
end L2
namespace HH
open PySem PySem.Spec PyProof.Rows L2 Evl
abbrev ZD := Bool × Int
def DeedZ (K : PySem.W.Frag) (H : Hp) (v : V) (d : ZD) : Prop := ∃ p, v = .ref p ∧ SqT K H p [.str (wordOf d.1), .int d.2]
theorem DeedZ.ex {K : PySem.W.Frag} {H H' : Hp} {v : V} {d : ZD} (h : DeedZ K H v d) (e : Ex H H') : DeedZ K H' v d := by
  obtain ⟨p, h1, h2⟩ := h
  exact ⟨p, h1, ex_t e h2⟩
abbrev DeedsZ (K : PySem.W.Frag) (H : Hp) : List V → List ZD → Prop := All2 (DeedZ K H)
theorem DeedsZ.ex' {K : PySem.W.Frag} {H H' : Hp} {us : List V} {ds : List ZD} (h : DeedsZ K H us ds) (e : Ex H H') : DeedsZ K H' us ds := All2.mono (fun _ _ r => r.ex e) h
theorem DeedsZ.exB' {K : PySem.W.Frag} {H H' : Hp} {us : List V} {ds : List ZD} {q : Addr} {ys : List V} (e : ExB q H H') (hq : H q = some (.lst ys)) (h : DeedsZ K H us ds) : DeedsZ K H' us ds := All2.mono (fun v d g => by
  obtain ⟨p, h1, h2⟩ := g
  exact ⟨p, h1, e.t hq h2⟩) h
abbrev StZ := HH.Row × List Nat
def Picked (K : PySem.W.Frag) (H : Hp) (pick : Bool) (v : V) (s : StZ) : Prop := if pick then RowAt K H v s.1 else ∃ t, v = .ref t ∧ SqT K H t (natsV s.2)
theorem Picked.ex {K : PySem.W.Frag} {H H' : Hp} {pick : Bool} {v : V} {s : StZ} (h : Picked K H pick v s) (e : Ex H H') : Picked K H' pick v s := by
  unfold Picked at h ⊢
  cases pick with
  | true => exact RowAt.ex h e
  | false =>
    obtain ⟨t, h1, h2⟩ := h
    exact ⟨t, h1, ex_t e h2⟩
end HH
namespace HH
open PySem PySem.Spec PyProof.Rows L2 Evl
section
variable {K : PySem.W.Frag} {σ : L2.St} {H : Hp} {te ta tb tc : TE} {D : Ends}
end
end HH
namespace HH
open PySem PySem.Spec PyProof.Rows L2 Evl
end HH
namespace HH
open PySem PySem.Spec PyProof.Rows L2 Evl
section
variable {K : PySem.W.Frag} {σ : L2.St} {H : Hp} {te to ta tb tc : TE} {D : Ends}
end
end HH
set_option maxHeartbeats 4000000
namespace HH
open PySem PySem.Spec PyProof.Rows L2 Evl RZ
section
variable {K : PySem.W.Frag} {σ : L2.St} {H : Hp} {te ta tb tc td : TE} {D : Ends}
theorem all2_take {α : Type} {R : V → α → Prop} : ∀ {us : List V} {xs : List α} (n : Nat), All2 R us xs → All2 R (us.take n) (xs.take n)
  | _, _, 0, _ => by rw [List.take_zero, List.take_zero]; exact .nil
  | _, _, _ + 1, .nil => .nil
  | _, _, n + 1, .cons a b => .cons a (all2_take n b)
end
end HH
set_option maxHeartbeats 4000000
namespace HH
open PySem PySem.Spec PyProof.Rows L2 Evl RZ
def DueV (K : PySem.W.Frag) (H : Hp) (y : V) : Nat ⊕ StZ → Prop
  | .inr s => ∃ (q : Addr) (v' : V) (t : Addr), y = .ref q ∧ H q = some (.tup [v', .ref t]) ∧ RowAt K H v' s.1 ∧ SqT K H t (natsV s.2)
  | .inl k => y = .int (k : Int)
def ToldV (K : PySem.W.Frag) (H : Hp) (pick : Bool) (y : V) : Nat ⊕ StZ → Prop
  | .inr s => Picked K H pick y s
  | .inl k => y = .int (k : Int)
theorem ToldV.ex {K : PySem.W.Frag} {H H' : Hp} {pick : Bool} {y : V} {r : Nat ⊕ StZ} (h : ToldV K H pick y r) (e : Ex H H') : ToldV K H' pick y r := by
  cases r with
  | inl k => exact h
  | inr s => exact Picked.ex h e
theorem DueV.ex {K : PySem.W.Frag} {H H' : Hp} {y : V} {r : Nat ⊕ StZ} (h : DueV K H y r) (e : Ex H H') : DueV K H' y r := by
  cases r with
  | inl k => exact h
  | inr s =>
    obtain ⟨q, v', t, h1, h2, h3, h4⟩ := h
    exact ⟨q, v', t, h1, e _ _ h2, h3.ex e, ex_t e h4⟩
section
variable {K : PySem.W.Frag} {σ : L2.St} {H : Hp} {te ta tb tc td : TE} {D : Ends}
end
end HH
namespace HH
open PySem PySem.Spec PyProof.Rows L2 Evl RZ
section
variable {K : PySem.W.Frag} {σ : L2.St} {H : Hp} {te ta tb tc td : TE} {D : Ends}
end
end HH
namespace HH
open PySem PySem.Spec PyProof.Rows L2 Evl RZ
end HH
namespace HH
open PySem PySem.Spec PyProof.Rows L2 Evl RZ
theorem q_par2 {i j : Nat} {ta tb : TE} {tz : TS} {D : Ends} {σ : L2.St} {H : Hp} (h : ta σ H fun x H1 => tb σ H1 fun y H2 => ∃ v w, [x, y] = [v, w] ∧ tz D ((σ.set i (some v)).set j (some w)) H2) : tSeq (tPar i j (tCons ta (tCons tb tNil))) tz D σ H := h
end HH
set_option maxHeartbeats 4000000
namespace HH
open PySem PySem.Spec PyProof.Rows L2 Evl RZ
def StrFit (s : Str) : Prop := PyData.strOk s = true ∧ (reprText s).length ≤ 40
def atomOk (c : Nat) : V → PyData → Prop
  | .non, .none => True
  | .bl b, .bool b' => b = b'
  | .int i, .int i' => i = i' ∧ i.natAbs ≤ 10 ^ 30 + c
  | .str s, .str s' => s = s' ∧ StrFit s
  | _, _ => False
def DaS (R : V → PyData → Prop) (xs : List V) (ds : List PyData) : Prop := xs.length = ds.length ∧ ∀ (i : Nat) (x : V) (e : PyData), xs[i]? = some x → ds[i]? = some e → R x e
def Da (P : Addr → Prop) (K : PySem.W.Frag) (c : Nat) (H : Hp) : Nat → V → PyData → Prop
  | 0, v, d => atomOk c v d
  | k + 1, v, d => atomOk c v d ∨ ∃ (a : Addr) (xs : List V) (ds : List PyData), v = .ref a ∧ ((¬ P a ∧ H a = some (.lst xs) ∧ d = .list ds) ∨ (SqT K H a xs ∧ d = .tuple ds)) ∧ DaS (Da P K c H k) xs ds
section
variable {P : Addr → Prop} {K : PySem.W.Frag} {c : Nat} {H H' : Hp}
theorem Da.ex (e : Ex H H') : ∀ {k : Nat} {v : V} {d : PyData}, Da P K c H k v d → Da P K c H' k v d
  | 0, _, _, h => h
  | k + 1, _, _, .inl h => .inl h
  | k + 1, _, _, .inr ⟨a, xs, ds, h1, h2, h3, h4⟩ => .inr ⟨a, xs, ds, h1, h2.imp (fun ⟨q1, q2, q3⟩ => ⟨q1, e _ _ q2, q3⟩) (fun ⟨q1, q2⟩ => ⟨ex_t e q1, q2⟩), h3, fun i x y hx hy => Da.ex e (h4 i x y hx hy)⟩
theorem Da.exB {p : Addr} {ys : List V} (hP : P p) (e : ExB p H H') (hp : H p = some (.lst ys)) : ∀ {k : Nat} {v : V} {d : PyData}, Da P K c H k v d → Da P K c H' k v d
  | 0, _, _, h => h
  | k + 1, _, _, .inl h => .inl h
  | k + 1, _, _, .inr ⟨a, xs, ds, h1, h2, h3, h4⟩ => .inr ⟨a, xs, ds, h1, h2.imp (fun ⟨q1, q2, q3⟩ => ⟨q1, e _ _ (fun z => q1 (by rw [z]; exact hP)) q2, q3⟩) (fun ⟨q1, q2⟩ => ⟨e.t hp q1, q2⟩), h3, fun i x y hx hy => Da.exB hP e hp (h4 i x y hx hy)⟩
theorem Da.up : ∀ {k : Nat} {v : V} {d : PyData}, Da P K c H k v d → Da P K c H (k + 1) v d
  | 0, _, _, h => .inl h
  | k + 1, _, _, .inl h => .inl h
  | k + 1, _, _, .inr ⟨a, xs, ds, h1, h2, h3, h4⟩ => .inr ⟨a, xs, ds, h1, h2, h3, fun i x y hx hy => Da.up (h4 i x y hx hy)⟩
theorem Da.ups {k : Nat} {v : V} {d : PyData} (h : Da P K c H k v d) : ∀ j, Da P K c H (k + j) v d
  | 0 => h
  | j + 1 => (Da.ups h j).up
theorem Da.to {k k' : Nat} {v : V} {d : PyData} (h : Da P K c H k v d) (e : k ≤ k') : Da P K c H k' v d := by
  have := h.ups (k' - k)
  rw [show k + (k' - k) = k' by omega] at this
  exact this
theorem atomOk.cc {c' : Nat} (e : c ≤ c') {v : V} {d : PyData} (h : atomOk c v d) : atomOk c' v d := by
  unfold atomOk at h
  split at h
  · exact True.intro
  · exact h
  · exact ⟨h.1, by have := h.2; omega⟩
  · exact h
  · exact h.elim
theorem Da.cc {c' : Nat} (e : c ≤ c') : ∀ {k : Nat} {v : V} {d : PyData}, Da P K c H k v d → Da P K c' H k v d
  | 0, _, _, h => atomOk.cc e h
  | k + 1, _, _, .inl h => .inl (atomOk.cc e h)
  | k + 1, _, _, .inr ⟨a, xs, ds, h1, h2, h3, h4⟩ => .inr ⟨a, xs, ds, h1, h2, h3, fun i x y hx hy => Da.cc e (h4 i x y hx hy)⟩
end
mutual
def wtD : PyData → Nat
  | .none => 50
  | .bool _ => 50
  | .int _ => 50
  | .str _ => 50
  | .list xs => 10 + wtDs xs
  | .tuple xs => 10 + wtDs xs
  | .dict _ => 50
def wtDs : List PyData → Nat
  | [] => 0
  | x :: xs => wtD x + 2 + wtDs xs
end
def tyD : PyData → String
  | .none => "NoneType"
  | .bool _ => "bool"
  | .int _ => "int"
  | .str _ => "str"
  | .list _ => "list"
  | .tuple _ => "tuple"
  | .dict _ => "dict"
section
variable {P : Addr → Prop} {K : PySem.W.Frag} {c : Nat} {H H' : Hp}
theorem atomOk.ty {v : V} {d : PyData} (h : atomOk c v d) : TyN K H v (tyD d) := by
  unfold atomOk at h
  split at h
  · exact .non
  · exact .bl _
  · exact .int _
  · exact .str _
  · exact h.elim
theorem Da.ty {k : Nat} {v : V} {d : PyData} (h : Da P K c H k v d) : TyN K H v (tyD d) := by
  cases k with
  | zero => exact atomOk.ty h
  | succ k =>
    rcases h with h | ⟨a, xs, ds, rfl, h2, _⟩
    · exact atomOk.ty h
    · rcases h2 with ⟨_, h2, rfl⟩ | ⟨h2, rfl⟩
      · exact .lst (K := K) (sq_of h2)
      · exact .tup h2
theorem daS_all {R : V → PyData → Prop} (hR : ∀ v d, R v d → Dp K H v d) : ∀ {xs : List V} {ds : List PyData}, DaS R xs ds → DpAll K H xs ds
  | [], [], _ => .nil
  | [], _ :: _, h => by cases h.1
  | _ :: _, [], h => by cases h.1
  | x :: xs, d :: ds, h => .cons (hR _ _ (h.2 0 x d rfl rfl)) (daS_all hR ⟨Nat.succ.inj h.1, fun i y e hy he => h.2 (i + 1) y e hy he⟩)
theorem atomOk.dp {v : V} {d : PyData} (h : atomOk c v d) : Dp K H v d ∧ Nice 0 d := by
  unfold atomOk at h
  split at h
  · exact ⟨.non, by simp [PyData.canLay0], by simp [PyData.depth]⟩
  · subst h
    exact ⟨.bl _, by simp [PyData.canLay0], by simp [PyData.depth]⟩
  · obtain ⟨rfl, _⟩ := h
    exact ⟨.int _, by simp [PyData.canLay0], by simp [PyData.depth]⟩
  · obtain ⟨rfl, h⟩ := h
    exact ⟨.str _, by simp only [PyData.canLay0]; exact h.1, by simp [PyData.depth]⟩
  · exact h.elim
theorem Da.dp : ∀ {k : Nat} {v : V} {d : PyData}, Da P K c H k v d → Dp K H v d
  | 0, _, _, h => (atomOk.dp h).1
  | k + 1, _, _, .inl h => (atomOk.dp h).1
  | k + 1, _, _, .inr ⟨a, xs, ds, h1, h2, h3⟩ => by
    subst h1
    have := daS_all (K := K) (H := H) (fun v d h => Da.dp h) h3
    rcases h2 with ⟨_, h2, rfl⟩ | ⟨h2, rfl⟩
    · exact .lst (sq_of h2) this
    · exact .tup h2 this
end
end HH
set_option maxHeartbeats 4000000
namespace HH
open PySem PySem.Spec PyProof.Rows L2 Evl RZ
def iSeqA (K : PySem.W.Frag) (tl : TE) : TI := fun σ H R => tl σ H fun x H1 => ∃ a xs, x = .ref a ∧ ((SqL K H1 a xs ∧ R (Itl K a) H1) ∨ (SqT K H1 a xs ∧ R (Itt K a) H1))
theorem pi_seqA {X : Cx} {tg : Expr} {l : Expr} {tl : TE} (hl : PE X l tl) : PI X tg l (iSeqA X.K tl) := by
  refine ⟨fun pins s σ H R I h => ?_⟩
  refine thn (hl.run pins s σ H _ I h) fun v s1 ⟨x, H1, I1, r1, q1⟩ => ?_
  obtain ⟨a, xs, e, q1⟩ := q1
  subst e
  cases r1
  have fp : ∀ b, b ∈ [s1.heap.objs.size] → FpOk X pins H1 b := fun b hb => by
    have e : b = s1.heap.objs.size := by simpa using hb
    subst e
    exact I1.fpOk (Nat.le_refl _) (I1.hok.fresh (Nat.le_refl _))
  rcases q1 with ⟨hq, q⟩ | ⟨hq, q⟩
  · obtain ⟨its, rv, p, hz⟩ := I1.list hq
    refine wpAny_pyIter_list p.isList ?_
    exact ⟨s1.heap.objs.size, [s1.heap.objs.size], _, _, H1, rfl, I1.kept (t' := s1.toks) fun b o e => Heap.get?_push_of_some _ e, turn_list a _, ⟨_, Heap.get?_push_size _ rfl, rfl, rfl⟩, fp, q⟩
  · obtain ⟨its, rv, p, hz⟩ := I1.tuple hq
    refine wpAny_pyIter_tuple (show s1.heap.IsTuple a its.toArray from p) ?_
    exact ⟨s1.heap.objs.size, [s1.heap.objs.size], _, _, H1, rfl, I1.kept (t' := s1.toks) fun b o e => Heap.get?_push_of_some _ e, turn_tuple a _, ⟨_, Heap.get?_push_size _ rfl, rfl, rfl⟩, fp, q⟩
def isListB : PyData → Bool
  | .list _ => true
  | _ => false
def isTupB : PyData → Bool
  | .tuple _ => true
  | _ => false
section
variable {P : Addr → Prop} {K : PySem.W.Frag} {c k : Nat} {H H' : Hp} {σ : L2.St} {te ta tb : TE} {D : Ends} {v : V} {d : PyData}
theorem Da.cont (hd : Da P K c H (k + 1) v d) (h : (isListB d || isTupB d) = true) : ∃ (a : Addr) (xs : List V) (ds : List PyData), v = .ref a ∧ ((¬ P a ∧ H a = some (.lst xs) ∧ d = .list ds) ∨ (SqT K H a xs ∧ d = .tuple ds)) ∧ DaS (Da P K c H k) xs ds := by
  rcases hd with hd | hd
  · unfold atomOk at hd
    split at hd
    · cases h
    · cases h
    · cases h
    · cases h
    · exact hd.elim
  · exact hd
theorem Da.cont0 (hd : Da P K c H 0 v d) (h : (isListB d || isTupB d) = true) : False := by
  have hd : atomOk c v d := hd
  unfold atomOk at hd
  split at hd
  · cases h
  · cases h
  · cases h
  · cases h
  · exact hd.elim
theorem Da.tupAt {ds : List PyData} (hd : Da P K c H k v (.tuple ds)) : ∃ (k' : Nat) (a : Addr) (xs : List V), k = k' + 1 ∧ v = .ref a ∧ SqT K H a xs ∧ DaS (Da P K c H k') xs ds := by
  cases k with
  | zero => exact (Da.cont0 hd rfl).elim
  | succ k =>
    obtain ⟨a, xs, ds', h1, h2, h3⟩ := hd.cont rfl
    rcases h2 with ⟨_, _, e⟩ | ⟨h2, e⟩
    · cases e
    · cases e
      exact ⟨k, a, xs, rfl, h1, h2, h3⟩
theorem Da.intAt {i : Int} (hd : Da P K c H k v (.int i)) : v = .int i := by
  have at0 : atomOk c v (.int i) → v = .int i := fun h => by
    unfold atomOk at h
    split at h
    · rename_i h0
      cases h0
    · rename_i h0
      cases h0
    · rename_i h0
      cases h0
      rw [h.1]
    · rename_i h0
      cases h0
    · exact h.elim
  cases k with
  | zero => exact at0 hd
  | succ k =>
    rcases hd with h | ⟨a, xs, ds, _, h2, _⟩
    · exact at0 h
    · rcases h2 with ⟨_, _, e⟩ | ⟨_, e⟩ <;> cases e
end
section
variable {P : Addr → Prop} {K : PySem.W.Frag} {c k : Nat} {H H' : Hp} {σ : L2.St} {te ta tb : TE} {D : Ends} {v : V} {d : PyData}
theorem DaS.ex {xs : List V} {ds : List PyData} (h : DaS (Da P K c H k) xs ds) (e : Ex H H') : DaS (Da P K c H' k) xs ds := ⟨h.1, fun i x y hx hy => (h.2 i x y hx hy).ex e⟩
theorem DaS.exB {p : Addr} {xs ys : List V} {ds : List PyData} (h : DaS (Da P K c H k) xs ds) (hP : P p) (e : ExB p H H') (hp : H p = some (.lst ys)) : DaS (Da P K c H' k) xs ds := ⟨h.1, fun i x y hx hy => (h.2 i x y hx hy).exB hP e hp⟩
theorem DaS.to {c' k' : Nat} {xs : List V} {ds : List PyData} (h : DaS (Da P K c H k) xs ds) (e : k ≤ k') (e2 : c ≤ c') : DaS (Da P K c' H k') xs ds := ⟨h.1, fun i x y hx hy => ((h.2 i x y hx hy).to e).cc e2⟩
theorem DaS.nil {R : V → PyData → Prop} : DaS R [] [] := ⟨rfl, fun i x e h => by simp at h⟩
theorem DaS.cons {R : V → PyData → Prop} {x : V} {d : PyData} {xs : List V} {ds : List PyData} (h : R x d) (g : DaS R xs ds) : DaS R (x :: xs) (d :: ds) := ⟨by rw [List.length_cons, List.length_cons, g.1], fun i y e hy he => by
  cases i with
  | zero =>
    cases hy
    cases he
    exact h
  | succ i => exact g.2 i y e hy he⟩
theorem DaS.app {R : V → PyData → Prop} {xs ys : List V} {ds es : List PyData} (h : DaS R xs ds) (g : DaS R ys es) : DaS R (xs ++ ys) (ds ++ es) := ⟨by rw [List.length_append, List.length_append, h.1, g.1], fun i y e hy he => by
  by_cases hi : i < xs.length
  · rw [List.getElem?_append_left hi] at hy
    rw [List.getElem?_append_left (by rw [← h.1]; exact hi)] at he
    exact h.2 i y e hy he
  · rw [List.getElem?_append_right (by omega)] at hy
    rw [List.getElem?_append_right (by rw [← h.1]; omega)] at he
    rw [← h.1] at he
    exact g.2 _ y e hy he⟩
theorem DaS.set {R : V → PyData → Prop} {xs : List V} {ds : List PyData} {i : Nat} {x : V} {d : PyData} (h : DaS R xs ds) (g : R x d) : DaS R (xs.set i x) (ds.set i d) := ⟨by rw [List.length_set, List.length_set, h.1], fun j y e hy he => by
  rw [List.getElem?_set] at hy he
  by_cases c : i = j
  · rw [if_pos c] at hy he
    by_cases c2 : j < xs.length
    · rw [if_pos (by omega)] at hy
      rw [if_pos (by rw [← h.1]; omega)] at he
      cases hy
      cases he
      exact g
    · rw [if_neg (by omega)] at hy
      cases hy
  · rw [if_neg c] at hy he
    exact h.2 j y e hy he⟩
theorem DaS.take {R : V → PyData → Prop} {xs : List V} {ds : List PyData} (n : Nat) (h : DaS R xs ds) : DaS R (xs.take n) (ds.take n) := ⟨by rw [List.length_take, List.length_take, h.1], fun j y e hy he => by
  rw [List.getElem?_take] at hy he
  by_cases c : j < n
  · rw [if_pos c] at hy he
    exact h.2 j y e hy he
  · rw [if_neg c] at hy
    cases hy⟩
theorem DaS.drop {R : V → PyData → Prop} {xs : List V} {ds : List PyData} (n : Nat) (h : DaS R xs ds) : DaS R (xs.drop n) (ds.drop n) := ⟨by rw [List.length_drop, List.length_drop, h.1], fun j y e hy he => by
  rw [List.getElem?_drop] at hy he
  exact h.2 _ y e hy he⟩
theorem DaS.at' {R : V → PyData → Prop} {xs : List V} {ds : List PyData} {i : Nat} (h : DaS R xs ds) (hi : i < xs.length) : ∃ x d, xs[i]? = some x ∧ ds[i]? = some d ∧ R x d := by
  have h2 : i < ds.length := by rw [← h.1]; exact hi
  exact ⟨_, _, List.getElem?_eq_getElem hi, List.getElem?_eq_getElem h2, h.2 i _ _ (List.getElem?_eq_getElem hi) (List.getElem?_eq_getElem h2)⟩
end
end HH
namespace HH
open PySem PySem.Spec PyProof.Rows L2 Evl RZ
section
variable {P : Addr → Prop} {K : PySem.W.Frag} {c k : Nat} {H H' : Hp} {σ : L2.St} {te te2 ta tb : TE} {D : Ends} {v : V} {d : PyData}
end
end HH
namespace HH
open PySem PySem.Spec PyProof.Rows L2 Evl RZ
end HH
namespace HH
open PySem PySem.Spec PyProof.Rows L2 Evl RZ
end HH
namespace HH
open PySem PySem.Spec PyProof.Rows L2 Evl RZ
section
variable {K : PySem.W.Frag} {σ : L2.St} {H : Hp} {t u : TT} {tu tw tz : TS} {D : Ends} {QB : Bool → Hp → Prop}
end
end HH
namespace HH
open PySem PySem.Spec PyProof.Rows L2 Evl RZ
end HH
set_option maxHeartbeats 4000000
namespace HH
open PySem PySem.Spec PyProof.Rows L2 Evl RZ
def ItA (P : Addr → Prop) (K : PySem.W.Frag) (H : Hp) (v : V) : Prop := ∃ d, Da P K 2 H 6 v d ∧ wtD d ≤ 20000
section
variable {P : Addr → Prop} {K : PySem.W.Frag} {c k n : Nat} {H H' : Hp} {σ : L2.St} {te ta tb : TE} {D : Ends} {v : V} {d : PyData} {rs : HH.Row}
theorem ItA.ex (e : Ex H H') (h : ItA P K H v) : ItA P K H' v := by
  obtain ⟨d, h, w⟩ := h
  exact ⟨d, h.ex e, w⟩
theorem ItA.exB {p : Addr} {ys : List V} (hP : P p) (e : ExB p H H') (hp : H p = some (.lst ys)) (h : ItA P K H v) : ItA P K H' v := by
  obtain ⟨d, h, w⟩ := h
  exact ⟨d, h.exB hP e hp, w⟩
end
end HH
namespace HH
end HH
set_option maxHeartbeats 4000000
namespace HH
open PySem PySem.Spec PyProof.Rows L2 Evl
end HH
set_option maxHeartbeats 4000000
namespace HH
open PySem PySem.Spec PyProof.Rows L2 Evl
structure OrdAt (K : PySem.W.Frag) (H : Hp) (v : V) (o : Addr) (rs : HH.Row) (l : List Nat) : Prop where
  row : RowAt K H v rs
  len : rs.length ≤ 30
  tl : ∀ b ∈ rs, 0 ≤ b.2
  ord : SqT K H o (natsV l)
  ids : l.Perm (List.range rs.length)
section
variable {K : PySem.W.Frag} {H H' : Hp} {v : V} {o : Addr} {rs : HH.Row} {l : List Nat}
theorem OrdAt.ex (h : OrdAt K H v o rs l) (e : Ex H H') : OrdAt K H' v o rs l := ⟨h.row.ex e, h.len, h.tl, ex_t e h.ord, h.ids⟩
theorem OrdAt.nd (h : OrdAt K H v o rs l) : l.Nodup := h.ids.nodup_iff.mpr List.nodup_range
theorem OrdAt.lenL (h : OrdAt K H v o rs l) : l.length = rs.length := by rw [h.ids.length_eq, List.length_range]
theorem OrdAt.all (h : OrdAt K H v o rs l) (x : Nat) (hx : x < l.length) : x ∈ l := h.ids.mem_iff.mpr (List.mem_range.mpr (by rw [← h.lenL]; exact hx))
end
end HH
set_option maxHeartbeats 4000000
namespace HH
open PySem PySem.Spec PyProof.Rows L2 Evl
section
variable {K : PySem.W.Frag} {σ : L2.St} {H : Hp} {te t1 t2 : TE} {tt : TT} {l : List Nat} {j : Nat} {vs : List Nat}
end
end HH
set_option maxHeartbeats 4000000
namespace HH
open PySem PySem.Spec PyProof.Rows L2 Evl
section
variable {K : PySem.W.Frag} {σ : L2.St} {H H0 : Hp} {tf tx tv : TE} {D : Ends} {fa a : Addr} {as : List Addr} {t p : Nat → Int} {i : Nat} {d : Int}
end
end HH
set_option maxHeartbeats 4000000
namespace HH
open PySem PySem.Spec PyProof.Rows L2 Evl
section
variable {K : PySem.W.Frag} {σ : L2.St} {H : Hp} {te te2 : TE} {i j : Nat} {vs : List Nat} {a : Addr} {us : List V} {ps : HH.Row}
end
end HH
set_option maxHeartbeats 4000000
namespace HH
open PySem PySem.Spec PyProof.Rows L2 Evl
structure WanF (K : PySem.W.Frag) (H H' : Hp) (p : Addr) (q : Addr) (v' : V) (ot lp : Addr) (us : List V) (L : List Cow) (ds : List Deed) (n m : Nat) : Prop where
  ex : ExB p H H'
  bx : Bx H' p (n + m)
  q : H' q = some (.tup [v', .ref ot, .ref lp])
  row : RowAt K H' v' (rowsOf L)
  ord : FrzT H' ot (natsV (L.map (·.1)))
  lst : H' lp = some (.lst us)
  prs : All2 (DeedAt K H') us ds
def spFirstF (K : PySem.W.Frag) : Sp := fun vs H Q _ => ∃ (v : V) (rs : HH.Row), vs = [v] ∧ RowAt K H v rs ∧ rs.length ≤ 1000 ∧ (∀ b ∈ rs, 0 ≤ b.2) ∧ ∀ q H' (L : List Cow), Ex H H' → LastAtF K H' q L → FSteps (tag 0 rs) L → FfR L → Q (.ref q) H'
end HH
set_option maxHeartbeats 4000000
namespace HH
open PySem PySem.Spec PyProof.Rows L2 Evl RZ
def Sm0 : PyData → Prop
  | .none => True
  | .bool _ => True
  | .int i => i.natAbs ≤ 10 ^ 30
  | _ => False
theorem Sm0.at' {d : PyData} (h : Sm0 d) : ∃ v, atomOk 0 v d := by
  unfold Sm0 at h
  split at h
  · exact ⟨.non, True.intro⟩
  · exact ⟨.bl _, rfl⟩
  · exact ⟨.int _, rfl, h⟩
  · exact h.elim
def NLst (K : PySem.W.Frag) (H : Hp) (v : V) : Prop := Flat v ∨ ∃ a xs, v = .ref a ∧ SqT K H a xs
def lenD : PyData → Nat
  | .list ds => ds.length
  | _ => 0
def AskIt (K : PySem.W.Frag) (H1 H2 : Hp) (v : V) (d : PyData) : Prop := Dp K H2 v d ∧ ((∃ a xs, v = .ref a ∧ H1 a = none ∧ H2 a = some (.lst xs) ∧ xs.length = lenD d) ∨ NLst K H2 v)
section
variable {K : PySem.W.Frag} {H H' H0 H1 H2 : Hp} {σ : L2.St} {te ta tb : TE} {D : Ends} {v : V} {d : PyData} {rs : HH.Row}
theorem NLst.ex (e : Ex H H') (h : NLst K H v) : NLst K H' v := h.imp id fun ⟨a, xs, h1, h2⟩ => ⟨a, xs, h1, ex_t e h2⟩
theorem AskIt.ex (e : Ex H2 H') (h : AskIt K H1 H2 v d) : AskIt K H1 H' v d := ⟨dp_ex e h.1, h.2.imp (fun ⟨a, xs, h1, h2, h3, h4⟩ => ⟨a, xs, h1, h2, e _ _ h3, h4⟩) (NLst.ex e)⟩
theorem AskIt.back (e : Ex H0 H1) (h : AskIt K H1 H2 v d) : AskIt K H0 H2 v d := ⟨h.1, h.2.imp (fun ⟨a, xs, h1, h2, h3, h4⟩ => ⟨a, xs, h1, fresh_back e h2, h3, h4⟩) id⟩
def flatD : V → PyData
  | .int i => .int i
  | .bl b => .bool b
  | _ => .none
end
def AskP (K : PySem.W.Frag) (H1 H3 : Hp) (q : Addr) (v : V) (d : PyData) : Prop := Dp K H3 v d ∧ ((∃ a xs, v = .ref a ∧ a ≠ q ∧ H1 a = none ∧ H3 a = some (.lst xs) ∧ xs.length = lenD d) ∨ NLst K H3 v)
def AskQ (K : PySem.W.Frag) (H1 : Hp) (q : Addr) (H2 : Hp) (v : V) (d : PyData) : Prop := ∀ H3, ExB q H2 H3 → AskP K H1 H3 q v d
section
variable {K : PySem.W.Frag} {H H' H0 H1 H2 : Hp} {σ : L2.St} {te ta tb : TE} {D : Ends} {v : V} {d : PyData} {rs : HH.Row} {q : Addr}
theorem AskIt.put {o : HO} (h : AskIt K H1 H2 v d) (hq : H2 q = none) : AskQ K H1 q (upd H2 q o) v d := fun H3 x => by
  have e : Ex H2 H3 := fun a u ha => x a u (ne_of_none ha hq) (by rw [upd_ne (ne_of_none ha hq)]; exact ha)
  refine ⟨dp_ex e h.1, h.2.imp (fun ⟨a, xs, h1, h2, h3, h4⟩ => ⟨a, xs, h1, ne_of_none h3 hq, h2, e _ _ h3, h4⟩) (NLst.ex e)⟩
theorem AskQ.x (h : AskQ K H1 q H2 v d) (x : ExB q H2 H') : AskQ K H1 q H' v d := fun H3 y => h H3 (x.trans y)
theorem AskQ.it (h : AskQ K H1 q H2 v d) : AskIt K H1 H2 v d := by
  obtain ⟨h1, h2⟩ := h H2 (ExB.refl _ _)
  exact ⟨h1, h2.imp (fun ⟨a, xs, g1, _, g2, g3, g4⟩ => ⟨a, xs, g1, g2, g3, g4⟩) id⟩
end
structure Knows (rs : HH.Row) (L F : List Cow) (z : V) (i : Nat) : Prop where
  len : rs.length ≤ 30
  lt : i < rs.length
  tl : ∀ b ∈ rs, 0 ≤ b.2
  low : ∀ b ∈ rs, Low b
  last : ∀ M, Steps (tag 0 rs) M → NfR M → M = L
  first : ∀ M, FSteps (tag 0 rs) M → FfR M → M = F
  stop : ∀ (M : List Cow) (j : Nat), Steps (tag 0 (rs.take (i + 1))) M → Nf M → (M.map (·.1))[j]? = some i → stopAt (M.map (·.1)) j = z
  flat : Flat z
  dp : ∀ (K : PySem.W.Frag) H', Dp K H' z (flatD z)
section
variable {K : PySem.W.Frag} {H : Hp} {σ : L2.St} {te ta tb tc : TE} {v : V} {rs : HH.Row}
end
end HH
set_option maxHeartbeats 4000000
namespace HH
open PySem PySem.Spec PyProof.Rows L2 Evl RZ
section
variable {P : Addr → Prop} {K : PySem.W.Frag} {c k : Nat} {H : Hp}
end
end HH
namespace HH
open PySem PySem.Spec PyProof.Rows L2 Evl RZ
end HH
namespace HH
open PySem PySem.Spec PyProof.Rows L2 Evl RZ
end HH
set_option maxHeartbeats 4000000
namespace HH
open PySem PySem.Spec PyProof.Rows L2 Evl RZ
end HH
namespace HH
open PySem PySem.Spec PyProof.Rows L2 Evl RZ
end HH
set_option maxHeartbeats 4000000
namespace HH
open PySem PySem.Spec PyProof.Rows L2 Evl RZ
section
variable {K : PySem.W.Frag} {H H' H0 H1 H2 : Hp} {σ : L2.St} {te ta tb : TE} {D : Ends} {v : V} {d : PyData} {rs : HH.Row} {tz : TS}
def Spt (K : PySem.W.Frag) (H0 : Hp) (q : Addr) (n : Nat) (H : Hp) (v : V) : Prop := (∃ a xs, v = .ref a ∧ a ≠ q ∧ H0 a = none ∧ H a = some (.lst xs) ∧ xs.length ≤ n) ∨ NLst K H v
theorem NLst.mut {b : Addr} {xs ys : List V} (h : NLst K H v) (hb : H b = some (.lst xs)) : NLst K (upd H b (.lst ys)) v := h.imp id fun ⟨a, zs, h1, h2⟩ => ⟨a, zs, h1, ((ExB.refl b H).upd (o := .lst ys)).t hb h2⟩
theorem Spt.mut {b q : Addr} {n : Nat} {xs ys : List V} (h : Spt K H0 q n H v) (hb : H b = some (.lst xs)) (hy : ys.length ≤ n + 1) : Spt K H0 q (n + 1) (upd H b (.lst ys)) v := by
  rcases h with ⟨a, zs, rfl, h1, h2, h3, h4⟩ | h
  · by_cases e : a = b
    · subst e
      exact .inl ⟨a, ys, rfl, h1, h2, upd_same, hy⟩
    · exact .inl ⟨a, zs, rfl, h1, h2, by rw [upd_ne e]; exact h3, by omega⟩
  · exact .inr (h.mut hb)
theorem Spt.up {q : Addr} {n : Nat} (h : Spt K H0 q n H v) (e : Ex H H') : Spt K H0 q (n + 1) H' v := by
  rcases h with ⟨a, zs, rfl, h1, h2, h3, h4⟩ | h
  · exact .inl ⟨a, zs, rfl, h1, h2, e _ _ h3, by omega⟩
  · exact .inr (h.ex e)
theorem NLst.ty (h : NLst K H v) : ∃ T, TyN K H v T ∧ kitB T "list" = some false := by
  rcases h with h | ⟨a, xs, rfl, h⟩
  · unfold Flat at h
    split at h
    · exact ⟨"int", .int _, rfl⟩
    · exact ⟨"bool", .bl _, rfl⟩
    · exact ⟨"str", .str _, rfl⟩
    · exact ⟨"NoneType", .non, rfl⟩
    · exact h.elim
  · exact ⟨"tuple", .tup h, rfl⟩
end
end HH
set_option maxHeartbeats 4000000
namespace HH
open PySem PySem.Spec PyProof.Rows L2 Evl RZ
end HH
set_option maxHeartbeats 4000000
namespace HH
open PySem PySem.Spec PyProof.Rows L2 Evl RZ
theorem ListsF.exB {H0 H H' : Hp} {us : List V} {ll : List (List Nat)} {p : Addr} {o : HO} (h : ListsF H0 H us ll) (e : ExB p H H') (hp : H0 p = some o) : ListsF H0 H' us ll := ⟨h.len, fun i l hl => by
  obtain ⟨c, h1, h2, h3⟩ := h.at' i l hl
  exact ⟨c, h1, h2, e _ _ (Ne.symm (ne_of_none hp h2)) h3⟩⟩
end HH
set_option maxHeartbeats 4000000
namespace HH
open PySem PySem.Spec PyProof.Rows L2 Evl RZ
section
variable {K : PySem.W.Frag} {σ : L2.St} {H H' : Hp} {ta tb te te2 : TE} {t : TT} {v : V}
end
end HH
set_option maxHeartbeats 4000000
namespace HH
open PySem PySem.Spec PyProof.Rows L2 Evl RZ
section
variable {K : PySem.W.Frag} {H H' H0 H1 H2 : Hp} {σ : L2.St} {te ta tb tc : TE} {D : Ends} {v : V} {d : PyData} {rs : HH.Row} {tz : TS}
end
end HH
set_option maxHeartbeats 4000000
namespace HH
open PySem PySem.Spec PyProof.Rows L2 Evl
end HH
set_option maxHeartbeats 4000000
namespace HH
open PySem PySem.Spec PyProof.Rows L2 Evl
section
variable {K : PySem.W.Frag} {σ : L2.St} {H H' : Hp} {ta tb te to ts : TE} {v : V}
section
variable {rs : HH.Row} {L E Y M : List Cow} {d1 d2 : List Deed} {px : Nat → Nat} {tT tB tO tN t8 t9 : TE} {vT : V} {bk oT : Addr}
end
end
end HH
set_option maxHeartbeats 4000000
namespace HH
open PySem PySem.Spec PyProof.Rows L2 Evl RZ
theorem FrzT.exL {H H' : Hp} {p a : Addr} {xs ys : List V} (h : FrzT H a xs) (e : ExB p H H') (hp : H p = some (.lst ys)) : FrzT H' a xs := by
  obtain ⟨o, po, h⟩ := h
  refine ⟨o, po, e _ _ (fun z => ?_) h⟩
  rw [z, hp] at h
  cases h
section
variable {X : Cx} {es : List Expr} {t : TA} {pos : Pos}
end
end HH
namespace HH
open PySem PySem.Spec PyProof.Rows L2 Evl RZ
end HH
set_option maxHeartbeats 4000000
namespace HH
open PySem PySem.Spec PyProof.Rows L2 Evl RZ
theorem divW_okW {i m : Int} (h : 0 < m) (g : m < 1152921504606846976) : CDivW i m := wide_div h (show m.natAbs < 2 ^ 60 by
  have : (2 : Nat) ^ 60 = 1152921504606846976 := by decide
  omega) (by decide) (by decide)
structure KnownEnd (r e : HH.Row) (o : List Nat) (tb : List (List Nat)) : Prop where
  len : r.length ≤ 10
  tl : ∀ b ∈ r, 0 ≤ b.2
  end_ : ∃ L, Steps (tag 0 r) L ∧ NfR L ∧ rowsOf L = e ∧ L.map (·.1) = o
  nev : nevT r = tb
  prs : tabP (fun i k => !decide ((i + 1 + k) ∈ tb.getD i [])) r.length r.length = tab o r.length r.length
section
variable {K : PySem.W.Frag} {H H' H0 H1 H2 : Hp} {σ : L2.St} {te ta tb tc : TE} {D : Ends} {v : V} {d : PyData} {rs : HH.Row} {tz : TS}
def ListsA (K : PySem.W.Frag) (H : Hp) : List V → List (List Nat) → Prop := fun us ll => us.length = ll.length ∧ ∀ (i : Nat) (l : List Nat), ll[i]? = some l → ∃ p, us[i]? = some (.ref p) ∧ SqL K H p (natsV l)
theorem ListsA.ex {us : List V} {ll : List (List Nat)} (h : ListsA K H us ll) (e : Ex H H') : ListsA K H' us ll := ⟨h.1, fun i l hl => by
  obtain ⟨p, p1, p2⟩ := h.2 i l hl
  exact ⟨p, p1, ex_l e p2⟩⟩
theorem ListsA.cons {us : List V} {ll : List (List Nat)} {a : Addr} {l : List Nat} (h : ListsA K H us ll) (g : SqL K H a (natsV l)) : ListsA K H (.ref a :: us) (l :: ll) := ⟨by rw [List.length_cons, List.length_cons, h.1], fun i m hm => by
  cases i with
  | zero =>
    cases Option.some.inj hm
    exact ⟨a, rfl, g⟩
  | succ i => exact h.2 i m hm⟩
end
def dear : HH.Row := [(0, 10), (5, 1), (20, 2)]
abbrev Item := Int × HH.Row × List Nat × List (List Nat)
section
variable {K : PySem.W.Frag} {H H' H0 H1 H2 : Hp} {σ : L2.St} {te ta tb tc td : TE} {D : Ends} {v : V} {d : PyData} {rs : HH.Row} {tz : TS}
def ItemAt (K : PySem.W.Frag) (H : Hp) (x : V) (it : Item) : Prop := ∃ a ve oa ta, x = .ref a ∧ SqT K H a [.int it.1, ve, .ref oa, .ref ta] ∧ RowAt K H ve it.2.1 ∧ FrzT H oa (natsV it.2.2.1) ∧ TabAt K H ta it.2.2.2
theorem ItemAt.ex {x : V} {it : Item} (h : ItemAt K H x it) (e : Ex H H') : ItemAt K H' x it := by
  obtain ⟨a, ve, oa, ta, rfl, h1, h2, ⟨o, h3, h4⟩, h5⟩ := h
  exact ⟨a, ve, oa, ta, rfl, ex_t e h1, h2.ex e, ⟨o, h3, e _ _ h4⟩, h5.mono e⟩
end
end HH
set_option maxHeartbeats 4000000
namespace HH
open PySem PySem.Spec PyProof.Rows L2 Evl RZ
abbrev Lot := Int × Int × Int
def LotAt (K : PySem.W.Frag) (H : Hp) (v : V) (l : Lot) : Prop := ∃ p, v = .ref p ∧ SqT K H p [.int l.1, .int l.2.1, .int l.2.2]
abbrev LotsA (K : PySem.W.Frag) (H : Hp) : List V → List Lot → Prop := All2 (LotAt K H)
def HerdAt (K : PySem.W.Frag) (H : Hp) (v : V) (ls : List Lot) : Prop := ∃ a us, v = .ref a ∧ SqT K H a us ∧ LotsA K H us ls
section
variable {K : PySem.W.Frag} {H H' : Hp} {v : V} {l : Lot} {ls : List Lot} {us : List V}
theorem LotAt.ex (h : LotAt K H v l) (e : Ex H H') : LotAt K H' v l := by
  obtain ⟨p, h1, h2⟩ := h
  exact ⟨p, h1, ex_t e h2⟩
theorem LotAt.exB {q : Addr} {ys : List V} (h : LotAt K H v l) (e : ExB q H H') (hq : H q = some (.lst ys)) : LotAt K H' v l := by
  obtain ⟨p, h1, h2⟩ := h
  exact ⟨p, h1, e.t hq h2⟩
theorem LotsA.ex' (h : LotsA K H us ls) (e : Ex H H') : LotsA K H' us ls := All2.mono (fun _ _ r => r.ex e) h
theorem LotsA.exB' {q : Addr} {ys : List V} (h : LotsA K H us ls) (e : ExB q H H') (hq : H q = some (.lst ys)) : LotsA K H' us ls := All2.mono (fun _ _ r => r.exB e hq) h
theorem HerdAt.ex (h : HerdAt K H v ls) (e : Ex H H') : HerdAt K H' v ls := by
  obtain ⟨a, us, h1, h2, h3⟩ := h
  exact ⟨a, us, h1, ex_t e h2, LotsA.ex' h3 e⟩
theorem HerdAt.exB {q : Addr} {n : Nat} (h : HerdAt K H v ls) (e : ExB q H H') (hq : Bx H q n) : HerdAt K H' v ls := by
  obtain ⟨a, us, h1, h2, h3⟩ := h
  obtain ⟨xs, hx⟩ := hq.lst
  exact ⟨a, us, h1, e.t hx h2, LotsA.exB' h3 e hx⟩
theorem alike_lot {u : V} (h : LotAt K H v l) (g : LotAt K H u l) : Alike K H 2 v u := by
  obtain ⟨p, rfl, h2⟩ := h
  obtain ⟨q, rfl, g2⟩ := g
  refine .inr ⟨p, q, _, _, rfl, rfl, .inr ⟨h2, g2⟩, rfl, by show 3 ≤ 40000; decide, fun i x y hx hy => ?_⟩
  rw [hx] at hy
  cases hy
  refine .inl ⟨rfl, ?_⟩
  have := List.mem_of_getElem? hx
  simp only [List.mem_cons, List.not_mem_nil, or_false] at this
  rcases this with rfl | rfl | rfl <;> exact True.intro
theorem alike_herd {u : V} (hl : ls.length ≤ 40000) (h : HerdAt K H v ls) (g : HerdAt K H u ls) : Alike K H 3 v u := by
  obtain ⟨a, us, rfl, h2, h3⟩ := h
  obtain ⟨b, ws, rfl, g2, g3⟩ := g
  refine .inr ⟨a, b, us, ws, rfl, rfl, .inr ⟨h2, g2⟩, by rw [All2.len h3, All2.len g3], by rw [All2.len h3]; exact hl, fun i x y hx hy => ?_⟩
  obtain ⟨l1, e1, r1⟩ := All2.get h3 hx
  obtain ⟨l2, e2, r2⟩ := All2.get g3 hy
  rw [e1] at e2
  cases e2
  exact alike_lot r1 r2
end
def alikeB (acc : List Lot) (s t : Int) : Bool := match acc.getLast? with
  | some l => decide (l.1 = s ∧ l.2.1 = t)
  | none => false
def popL (acc : List Lot) (s t : Int) : List Lot := if alikeB acc s t = true then acc.dropLast else acc
def befL (acc : List Lot) (s t : Int) : Int := if alikeB acc s t = true then (acc.getLast?.getD (0, 0, 0)).2.2 else 0
def packStep (acc : List Lot) (l : Lot) : List Lot := popL acc l.1 l.2.1 ++ [(l.1, l.2.1, befL acc l.1 l.2.1 + l.2.2)]
def packL (ls : List Lot) : List Lot := ls.foldl packStep []
theorem packL_take {ls : List Lot} {k : Nat} {l : Lot} (h : ls[k]? = some l) : packL (ls.take (k + 1)) = packStep (packL (ls.take k)) l := by
  unfold packL
  rw [List.take_add_one, h, List.foldl_append]
  rfl
def ones (rs : HH.Row) : List Lot := rs.map fun b => (b.1, b.2, 1)
def sprR (ls : List Lot) : HH.Row := ls.flatMap fun l => List.replicate l.2.2.toNat (l.1, l.2.1)
theorem alike_snoc (acc : List Lot) (l : Lot) (s t : Int) : alikeB (acc ++ [l]) s t = decide (l.1 = s ∧ l.2.1 = t) := by
  unfold alikeB
  rw [List.getLast?_concat]
theorem step_len (acc : List Lot) (l : Lot) : (packStep acc l).length ≤ acc.length + 1 := by
  unfold packStep popL
  rw [List.length_append]
  split
  · rw [List.length_dropLast]
    show _ - 1 + 1 ≤ _
    omega
  · exact Nat.le_refl _
theorem fold_len : ∀ (ls acc : List Lot), (ls.foldl packStep acc).length ≤ acc.length + ls.length
  | [], acc => Nat.le_refl _
  | l :: ls, acc => by
    have := fold_len ls (packStep acc l)
    have := step_len acc l
    rw [List.foldl_cons, List.length_cons]
    omega
theorem packL_len (ls : List Lot) : (packL ls).length ≤ ls.length := by
  have := fold_len ls []
  show (ls.foldl packStep []).length ≤ _
  simpa using this
theorem spr_app (a b : List Lot) : sprR (a ++ b) = sprR a ++ sprR b := List.flatMap_append ..
theorem alike_ex {acc : List Lot} {s t : Int} (h : alikeB acc s t = true) : ∃ pre m, acc = pre ++ [(s, t, m)] := by
  unfold alikeB at h
  cases c : acc.getLast? with
  | none => rw [c] at h; cases h
  | some l =>
    rw [c] at h
    have h := of_decide_eq_true h
    have hne : acc ≠ [] := fun z => by rw [z] at c; cases c
    refine ⟨acc.dropLast, l.2.2, ?_⟩
    have e := List.dropLast_concat_getLast hne
    rw [List.getLast?_eq_some_getLast hne] at c
    have c := Option.some.inj c
    rw [c] at e
    rw [← h.1, ← h.2]
    exact e.symm
theorem step_alike (pre : List Lot) (s t m k : Int) : packStep (pre ++ [(s, t, m)]) (s, t, k) = pre ++ [(s, t, m + k)] := by
  unfold packStep popL befL
  have e : alikeB (pre ++ [(s, t, m)]) s t = true := by rw [alike_snoc]; exact decide_eq_true ⟨rfl, rfl⟩
  show (if alikeB (pre ++ [(s, t, m)]) s t = true then _ else _) ++ [(s, t, (if alikeB (pre ++ [(s, t, m)]) s t = true then _ else _) + k)] = _
  rw [if_pos e, if_pos e, List.dropLast_concat, List.getLast?_concat]
  rfl
theorem step_other {acc : List Lot} {s t k : Int} (h : alikeB acc s t = false) : packStep acc (s, t, k) = acc ++ [(s, t, k)] := by
  unfold packStep popL befL
  show (if alikeB acc s t = true then _ else _) ++ [(s, t, (if alikeB acc s t = true then _ else _) + k)] = _
  rw [if_neg (by rw [h]; exact Bool.false_ne_true), if_neg (by rw [h]; exact Bool.false_ne_true), Int.zero_add]
def PosL (ls : List Lot) : Prop := ∀ l ∈ ls, 1 ≤ l.2.2
theorem step_pos {acc : List Lot} {l : Lot} (h : PosL acc) (hl : 1 ≤ l.2.2) : PosL (packStep acc l) := by
  obtain ⟨s, t, k⟩ := l
  cases c : alikeB acc s t with
  | true =>
    obtain ⟨pre, m, rfl⟩ := alike_ex c
    rw [step_alike]
    intro x hx
    rcases List.mem_append.mp hx with g | g
    · exact h x (List.mem_append_left _ g)
    · rw [List.mem_singleton.mp g]
      have := h (s, t, m) (by simp)
      show 1 ≤ m + k
      have hl : 1 ≤ k := hl
      have this : 1 ≤ m := this
      omega
  | false =>
    rw [step_other c]
    intro x hx
    rcases List.mem_append.mp hx with g | g
    · exact h x g
    · rw [List.mem_singleton.mp g]
      exact hl
theorem fold_pos : ∀ (ls acc : List Lot), PosL acc → PosL ls → PosL (ls.foldl packStep acc)
  | [], acc, h, _ => h
  | l :: ls, acc, h, g => fold_pos ls (packStep acc l) (step_pos h (g l (List.mem_cons_self ..))) fun x hx => g x (List.mem_cons_of_mem _ hx)
theorem packL_pos {ls : List Lot} (h : PosL ls) : PosL (packL ls) := fold_pos ls [] (fun x hx => nomatch hx) h
theorem step_spr {acc : List Lot} {l : Lot} (h : PosL acc) (hl : 1 ≤ l.2.2) : sprR (packStep acc l) = sprR acc ++ List.replicate l.2.2.toNat (l.1, l.2.1) := by
  obtain ⟨s, t, k⟩ := l
  have one : ∀ m : Int, sprR [(s, t, m)] = List.replicate m.toNat (s, t) := fun m => by
    unfold sprR
    simp
  cases c : alikeB acc s t with
  | true =>
    obtain ⟨pre, m, rfl⟩ := alike_ex c
    have hm : 1 ≤ m := h (s, t, m) (by simp)
    have hk : 1 ≤ k := hl
    rw [step_alike, spr_app, spr_app, one, one, List.append_assoc, List.replicate_append_replicate, show m.toNat + k.toNat = (m + k).toNat by omega]
  | false =>
    rw [step_other c, spr_app, one]
theorem fold_spr : ∀ (ls acc : List Lot), PosL acc → PosL ls → sprR (ls.foldl packStep acc) = sprR acc ++ sprR ls
  | [], acc, _, _ => by
    show sprR acc = sprR acc ++ []
    rw [List.append_nil]
  | l :: ls, acc, h, g => by
    have hl := g l (List.mem_cons_self ..)
    rw [List.foldl_cons, fold_spr ls _ (step_pos h hl) (fun x hx => g x (List.mem_cons_of_mem _ hx)), step_spr h hl, List.append_assoc]
    congr 1
theorem packL_spr {ls : List Lot} (h : PosL ls) : sprR (packL ls) = sprR ls := by
  have := fold_spr ls [] (fun x hx => nomatch hx) h
  exact this
theorem ones_pos (rs : HH.Row) : PosL (ones rs) := fun l hl => by
  obtain ⟨b, _, rfl⟩ := List.mem_map.mp hl
  exact Int.le_refl 1
theorem ones_spr : ∀ rs : HH.Row, sprR (ones rs) = rs
  | [] => rfl
  | b :: rs => by
    have := ones_spr rs
    unfold ones sprR at this ⊢
    rw [List.map_cons, List.flatMap_cons, this]
    rfl
theorem fold_alike (acc : List Lot) (s t : Int) : ∀ m : Nat, (ones (List.replicate (m + 1) (s, t))).foldl packStep acc = packStep acc (s, t, ((m + 1 : Nat) : Int))
  | 0 => rfl
  | m + 1 => by
    have ih := fold_alike acc s t m
    rw [List.replicate_succ']
    unfold ones at ih ⊢
    rw [List.map_append, List.foldl_append, ih]
    show packStep (packStep acc (s, t, ((m + 1 : Nat) : Int))) (s, t, 1) = _
    cases c : alikeB acc s t with
    | true =>
      obtain ⟨pre, k, rfl⟩ := alike_ex c
      rw [step_alike, step_alike, step_alike, show k + ((m + 1 : Nat) : Int) + 1 = k + ((m + 1 + 1 : Nat) : Int) by omega]
    | false =>
      rw [step_other c, step_other c, step_alike, show ((m + 1 : Nat) : Int) + 1 = ((m + 1 + 1 : Nat) : Int) by omega]
theorem fold_ones : ∀ (ls acc : List Lot), PosL ls → (ones (sprR ls)).foldl packStep acc = ls.foldl packStep acc
  | [], acc, _ => rfl
  | l :: ls, acc, h => by
    have hl := h l (List.mem_cons_self ..)
    obtain ⟨s, t, k⟩ := l
    obtain ⟨m, em⟩ : ∃ m : Nat, k = ((m + 1 : Nat) : Int) := ⟨k.toNat - 1, by have : 1 ≤ k := hl; omega⟩
    have ih := fold_ones ls (packStep acc (s, t, k)) fun x hx => h x (List.mem_cons_of_mem _ hx)
    rw [List.foldl_cons, ← ih]
    have e : ones (sprR ((s, t, k) :: ls)) = ones (List.replicate k.toNat (s, t)) ++ ones (sprR ls) := by
      unfold ones sprR
      rw [List.flatMap_cons, List.map_append]
    rw [e, List.foldl_append, em]
    show List.foldl packStep (List.foldl packStep acc (ones (List.replicate (m + 1) (s, t)))) _ = _
    rw [fold_alike]
def adj : List Lot → Prop
  | a :: b :: r => ¬ (a.1 = b.1 ∧ a.2.1 = b.2.1) ∧ adj (b :: r)
  | _ => True
theorem adj_snoc : ∀ (acc : List Lot) (l : Lot), adj acc → alikeB acc l.1 l.2.1 = false → adj (acc ++ [l])
  | [], l, _, _ => True.intro
  | [a], l, _, h => by
    refine ⟨fun z => ?_, True.intro⟩
    have : alikeB ([] ++ [a]) l.1 l.2.1 = false := h
    rw [alike_snoc] at this
    exact of_decide_eq_false this z
  | a :: b :: r, l, h, g => by
    refine ⟨h.1, adj_snoc (b :: r) l h.2 ?_⟩
    unfold alikeB at g ⊢
    rw [List.getLast?_cons_cons] at g
    exact g
theorem adj_lastL : ∀ {pre : List Lot} {a b : Lot}, adj (pre ++ [a]) → a.1 = b.1 → a.2.1 = b.2.1 → adj (pre ++ [b])
  | [], a, b, _, _, _ => True.intro
  | [x], a, b, h, e1, e2 => ⟨fun z => h.1 ⟨z.1.trans e1.symm, z.2.trans e2.symm⟩, True.intro⟩
  | x :: y :: r, a, b, h, e1, e2 => ⟨h.1, adj_lastL (pre := y :: r) h.2 e1 e2⟩
theorem step_adj {acc : List Lot} {l : Lot} (h : adj acc) : adj (packStep acc l) := by
  obtain ⟨s, t, k⟩ := l
  cases c : alikeB acc s t with
  | true =>
    obtain ⟨pre, m, rfl⟩ := alike_ex c
    rw [step_alike]
    exact adj_lastL h rfl rfl
  | false =>
    rw [step_other c]
    exact adj_snoc acc _ h c
theorem fold_adj : ∀ (ls acc : List Lot), adj acc → adj (ls.foldl packStep acc)
  | [], acc, h => h
  | l :: ls, acc, h => fold_adj ls _ (step_adj h)
theorem packL_adj (ls : List Lot) : adj (packL ls) := fold_adj ls [] True.intro
theorem adj_cut : ∀ (pre : List Lot) (a b : Lot) (r : List Lot), adj (pre ++ a :: b :: r) → ¬ (a.1 = b.1 ∧ a.2.1 = b.2.1)
  | [], a, b, r, h => h.1
  | [x], a, b, r, h => h.2.1
  | x :: y :: p, a, b, r, h => adj_cut (y :: p) a b r h.2
theorem adj_get {ls : List Lot} (h : adj ls) {i : Nat} {a b : Lot} (h1 : ls[i]? = some a) (h2 : ls[i + 1]? = some b) : ¬ (a.1 = b.1 ∧ a.2.1 = b.2.1) := by
  obtain ⟨l1, e1⟩ := List.getElem?_eq_some_iff.mp h1
  obtain ⟨l2, e2⟩ := List.getElem?_eq_some_iff.mp h2
  have e : ls = ls.take i ++ a :: b :: ls.drop (i + 2) := by
    conv => lhs; rw [← List.take_append_drop i ls]
    congr 1
    rw [List.drop_eq_getElem_cons l1, e1, List.drop_eq_getElem_cons l2, e2]
  rw [e] at h
  exact adj_cut _ _ _ _ h
section
variable {K : PySem.W.Frag} {σ : L2.St} {H H' : Hp} {te : TE} {v : V} {Q : VK}
theorem sl_lot {l : Lot} (h : LotAt K H v l) (q : ∀ p H1, Ex H H1 → H1 p = some (.tup [.int l.1, .int l.2.1]) → Q (.ref p) H1) : rSlA K v none (some 2) H Q := by
  obtain ⟨p, rfl, sq⟩ := h
  refine ⟨p, _, rfl, sq, fun z => ?_, fun _ p2 hp2 => ?_⟩
  · have e0 := cut_all z
    have e1 := cut_to [V.int l.1, .int l.2.1, .int l.2.2] 2
    have e2 : [V.int l.1, .int l.2.1] = [V.int l.1, .int l.2.1, .int l.2.2] := e1.symm.trans e0
    cases e2
  · have e1 := cut_to [V.int l.1, .int l.2.1, .int l.2.2] 2
    have e2 : cutV [V.int l.1, .int l.2.1, .int l.2.2] none (some 2) = [V.int l.1, .int l.2.1] := e1
    rw [e2]
    exact q p2 _ (Ex.new hp2) upd_same
theorem dp_pair {p : Addr} {s t : Int} (h : H p = some (.tup [.int s, .int t])) : Dp K H (.ref p) (beastD (s, t)) := .tup (st_of h) (.cons (.int _) (.cons (.int _) .nil))
theorem ev_last2 {hd : Addr} {ws : List V} {pre : List Lot} {l : Lot} {ih is it : Nat} {s t : Int} (s1 : σ[ih]? = some (some (.ref hd))) (s2 : σ[is]? = some (some (.int s))) (s3 : σ[it]? = some (some (.int t))) (g : H hd = some (.lst ws)) (ls : LotsA K H ws (pre ++ [l])) :
    Ev (tOp (rEqD K) (tSl (rSlA K) (tOp (rIxL K) (tVar ih) (tUn (rU fun i => .int (-i)) (tC (.int 1)))) tNoPart (tPart (tC (.int 2)))) (tTup (tCons (tVar is) (tCons (tVar it) tNil)))) σ H (.bl (decide (l.1 = s ∧ l.2.1 = t))) := fun H1 e1 Q q => by
  obtain ⟨w1, w2, rfl, _, h2⟩ := All2.split ls
  cases h2 with
  | cons ry nl =>
    cases nl
    rename_i y
    refine (ev_op (ev_var s1) (ev_un ev_c ru_neg) (rv_ixL (K := K) (sq_of (e1 _ _ g)) (atI_last w1 y)) : Ev (tOp (rIxL K) (tVar ih) (tUn (rU fun i => .int (-i)) (tC (.int 1)))) σ H1 y) H1 (Ex.refl H1) _ fun H2 e2 => ⟨2, rfl, ?_⟩
    refine sl_lot (K := K) (ry.ex (e1.trans e2)) fun p H3 e3 gp => ⟨.int s, s2, .int t, s3, by show 2 ≤ sizeLine; decide, fun T hT => ?_⟩
    have n4 := Ex.new (o := .tup [V.int s, .int t]) hT
    refine ⟨beastD (l.1, l.2.1), beastD (s, t), dp_pair (n4 _ _ gp), dp_pair upd_same, (nice_beast _).shaped (by decide), (nice_beast _).shaped (by decide), ?_⟩
    rw [beast_eqv]
    have ed : decide ((l.1, l.2.1) = (s, t)) = decide (l.1 = s ∧ l.2.1 = t) := decide_eq_decide.mpr ⟨fun z => ⟨congrArg Prod.fst z, congrArg Prod.snd z⟩, fun z => Prod.ext z.1 z.2⟩
    rw [ed]
    exact q _ ((e2.trans e3).trans n4)
theorem lots_ones {rs : HH.Row} {i j : Nat} {vs : List Nat} (h : Ev te σ H v) (hv : RowAt K H v rs) (hl : rs.length ≤ 1000) (hw : ∀ x y, wipe (((wipe σ vs).set i (some x)).set j (some y)) vs = wipe σ vs)
    (h1 : ∀ x y : V, (((wipe σ vs).set i (some x)).set j (some y))[i]? = some (some x)) (h2 : ∀ x y : V, (((wipe σ vs).set i (some x)).set j (some y))[j]? = some (some y))
    (q : ∀ (a : Addr) (us : List V) (H2 : Hp), H a = none → Ex H H2 → H2 a = some (.lst us) → LotsA K H2 us (ones rs) → Q (.ref a) H2) :
    tLc (iTup K te) (gTup K 2 (gCons (gName i) (gCons (gName j) gNil))) tYes (tTup (tCons (tVar i) (tCons (tVar j) (tCons (tC (.int 1)) tNil)))) vs σ H Q := by
  obtain ⟨ra, ru, rfl, sq, bs⟩ := hv
  refine h H (Ex.refl H) _ fun H1 e1 => ⟨ra, rfl, ⟨ru, ex_t e1 sq⟩, fun D hD => ?_⟩
  refine in_it (walk_tup (xs := ru)) (fun k H2 => Ex H1 H2 ∧ ∃ ws, H2 D = some (.lst ws) ∧ LotsA K H2 ws (ones (rs.take k))) ⟨Ex.new hD, [], upd_same, .nil⟩ (fun k H2 _ z => ex_t (e1.trans z.1) sq) (fun k x H2 H3 hk z y => ?_) (fun H2 z => ?_)
  · obtain ⟨rfl, hx⟩ := y
    obtain ⟨z1, ws, z2, z3⟩ := z
    have hk' : k < rs.length := by rw [← bs.1]; exact hk
    obtain ⟨u, hu, pp, rfl, hpp⟩ := bs.2 k rs[k] (List.getElem?_eq_getElem hk')
    rw [hx] at hu
    cases hu
    refine ⟨pp, _, rfl, ex_t (e1.trans z1) hpp, rfl, _, _, rfl, _, _, rfl, rfl, hw _ _, t_yes ⟨_, h1 _ _, _, h2 _ _, by show 3 ≤ sizeLine; decide, fun T hT => ?_⟩⟩
    have nT := Ex.new (o := .tup [V.int rs[k].1, .int rs[k].2, .int 1]) hT
    refine ⟨ws, nT _ _ z2, sz_lt (by rw [All2.len z3]; unfold ones; rw [List.length_map, List.length_take]; omega), Ex.mut (z1.trans nT) hD, ws ++ [.ref T], upd_same, ?_⟩
    have eo : ones (rs.take (k + 1)) = ones (rs.take k) ++ [(rs[k].1, rs[k].2, 1)] := by
      unfold ones
      rw [List.take_add_one, List.getElem?_eq_getElem hk', List.map_append]
      rfl
    rw [eo]
    exact LotsA.exB' (All2.app (LotsA.ex' z3 nT) (.cons ⟨T, rfl, st_of upd_same⟩ .nil)) (ExB.refl _ _).upd (nT _ _ z2)
  · obtain ⟨z1, ws, z2, z3⟩ := z
    rw [bs.1, List.take_length] at z3
    exact q D ws H2 (fresh_back e1 hD) (e1.trans z1) z2 z3
theorem spr_take {ls : List Lot} {k : Nat} {l : Lot} (h : ls[k]? = some l) : sprR (ls.take (k + 1)) = sprR (ls.take k) ++ List.replicate l.2.2.toNat (l.1, l.2.1) := by
  unfold sprR
  rw [List.take_add_one, h, List.flatMap_append]
  simp
theorem spr_le (ls : List Lot) (k : Nat) : (sprR (ls.take k)).length ≤ (sprR ls).length := by
  have e : sprR ls = sprR (ls.take k) ++ sprR (ls.drop k) := by rw [← spr_app, List.take_append_drop]
  rw [e, List.length_append]
  omega
theorem ev_lenTup {p : Addr} {xs : List V} (h : Ev te σ H (.ref p)) (sq : SqT K H p xs) : Ev (tCB (rLenS K) (tCons te tNil)) σ H (.int (xs.length : Int)) := fun H1 e1 Q q =>
  h H1 e1 _ fun H2 e2 => ⟨p, xs, rfl, .inr (ex_t (e1.trans e2) sq), q H2 e2⟩
theorem el_allTup {tl : TE} {a : Addr} {xs : List V} {j : Nat} {vs : List Nat} (h : Ev tl σ H (.ref a)) (sq : SqT K H a xs) (hl : xs.length ≤ 40000) (hw : ∀ x, wipe ((wipe σ vs).set j (some x)) vs = wipe σ vs)
    (he : ∀ (i : Nat) (x : V) H1, Ex H H1 → xs[i]? = some x → Ev te ((wipe σ vs).set j (some x)) H1 (.bl true)) : EvL (tLc (iTup K tl) (gName j) tYes te vs) σ H ((List.replicate xs.length true).map V.bl) := fun H0 e0 Q q => by
  refine h H0 e0 _ fun H1 e1 => ⟨a, rfl, ⟨xs, ex_t (e0.trans e1) sq⟩, fun D hD => ?_⟩
  have e01 := e0.trans e1
  refine in_it (walk_tup (xs := xs)) (fun k H2 => Ex H1 H2 ∧ H2 D = some (.lst ((List.replicate k true).map V.bl))) ⟨Ex.new hD, upd_same⟩ (fun k H2 _ z => ex_t (e01.trans z.1) sq) (fun k x H2 H3 hk z y => ?_) (fun H2 z => ?_)
  · obtain ⟨rfl, hx⟩ := y
    refine ⟨hw _, t_yes ((he k x _ (e01.trans z.1) hx) _ (Ex.refl _) _ fun H4 e4 => ⟨_, e4 _ _ z.2, sz_lt (by rw [List.length_map, List.length_replicate]; omega), Ex.mut (z.1.trans e4) hD, ?_⟩)⟩
    rw [upd_same, List.replicate_succ', List.map_append]
    rfl
  · exact q D H2 (fresh_back e1 hD) (e1.trans z.1) z.2
theorem dp_lots : ∀ {us : List V} {ls : List Lot}, LotsA K H us ls → DpAll K H us (ls.map fun l => .tuple [.int l.1, .int l.2.1, .int l.2.2])
  | _, _, .nil => .nil
  | _, _, .cons ⟨p, e, sq⟩ h => by
    subst e
    exact .cons (.tup sq (.cons (.int _) (.cons (.int _) (.cons (.int _) .nil)))) (dp_lots h)
end
section
variable {X : Cx}
theorem op_neDK {K : PySem.W.Frag} (hu : X.A.units + 64 < cLine) (hK : X.K = K := by rfl) : OpR X (compareOp .NotEq) (rNeD K) := by
  subst hK
  exact op_neD hu
end
theorem ret_run {te : TE} {D : Ends} {σ : L2.St} {H : Hp} (h : te σ H D.rt) : tRet te D σ H := h
theorem call1_run {sp : Sp} {te : TE} {E : XK} {σ : L2.St} {H : Hp} {Q : VK} (h : te σ H fun x H1 => sp [x] H1 Q E) : tCall sp [] E (tCons te tNil) σ H Q := h
def spTogether (K : PySem.W.Frag) : Sp := fun vs H Q _ => ∃ (a : Addr) (us : List V) (ls : List Lot), vs = [.ref a] ∧ SqL K H a us ∧ LotsA K H us ls ∧ ls.length ≤ 1000 ∧ ∀ z H', Ex H H' → HerdAt K H' z (packL ls) → Q z H'
def spHerdOf (K : PySem.W.Frag) : Sp := fun vs H Q _ => ∃ (v : V) (rs : HH.Row), vs = [v] ∧ RowAt K H v rs ∧ rs.length ≤ 1000 ∧ ∀ z H', Ex H H' → HerdAt K H' z (packL (ones rs)) → Q z H'
def spRowOf (K : PySem.W.Frag) : Sp := fun vs H Q _ => ∃ (v : V) (ls : List Lot), vs = [v] ∧ HerdAt K H v ls ∧ PosL ls ∧ (sprR ls).length ≤ 1000 ∧ ∀ z H', Ex H H' → RowAt K H' z (sprR ls) → Q z H'
def spIsLot (K : PySem.W.Frag) : Sp := fun vs H Q _ => ∃ (v : V) (l : Lot), vs = [v] ∧ LotAt K H v l ∧ 0 ≤ l.2.1 ∧ 1 ≤ l.2.2 ∧ RetV (.bl true) H Q
def spIsHerd (K : PySem.W.Frag) : Sp := fun vs H Q _ => ∃ (v : V) (ls : List Lot), vs = [v] ∧ HerdAt K H v ls ∧ 0 < ls.length ∧ ls.length ≤ 1000 ∧ (∀ l ∈ ls, 0 ≤ l.2.1 ∧ 1 ≤ l.2.2) ∧ adj ls ∧ RetV (.bl true) H Q
end HH
set_option maxHeartbeats 4000000
namespace HH
open PySem PySem.Spec PyProof.Rows L2 Evl RZ
def manyP (spare toll many : Int) : Int := if spare ≤ 0 then 0 else if toll = 0 then many else if (spare - 1) / toll < many then (spare - 1) / toll else many
def lS (ls : List Lot) (i : Nat) : Int := (ls[i]?.getD (0, 0, 0)).1
def lT (ls : List Lot) (i : Nat) : Int := (ls[i]?.getD (0, 0, 0)).2.1
def lM (ls : List Lot) (i : Nat) : Int := (ls[i]?.getD (0, 0, 0)).2.2
def goL (st : List Int) (ls : List Lot) (w : Nat) : HH.Row → HH.Row → Int → Int → HH.Row × Int × Int
  | [], B, s, t => (((w : Int), lM ls w) :: B, s, t)
  | x :: r, B, s, t =>
    if manyP (s - st.getD x.1.toNat 0) (lT ls x.1.toNat) x.2 < x.2 then
      (if manyP (s - st.getD x.1.toNat 0) (lT ls x.1.toNat) x.2 > 0 then r.reverse ++ (x.1, x.2 - manyP (s - st.getD x.1.toNat 0) (lT ls x.1.toNat) x.2) :: ((w : Int), lM ls w) :: (x.1, manyP (s - st.getD x.1.toNat 0) (lT ls x.1.toNat) x.2) :: B else r.reverse ++ x :: ((w : Int), lM ls w) :: B,
        s - manyP (s - st.getD x.1.toNat 0) (lT ls x.1.toNat) x.2 * lT ls x.1.toNat, t + manyP (s - st.getD x.1.toNat 0) (lT ls x.1.toNat) x.2)
    else goL st ls w r (x :: B) (s - manyP (s - st.getD x.1.toNat 0) (lT ls x.1.toNat) x.2 * lT ls x.1.toNat) (t + manyP (s - st.getD x.1.toNat 0) (lT ls x.1.toNat) x.2)
theorem goL_cons (st : List Int) (ls : List Lot) (w : Nat) (x : Int × Int) (r B : HH.Row) (s t : Int) : goL st ls w (x :: r) B s t = if manyP (s - st.getD x.1.toNat 0) (lT ls x.1.toNat) x.2 < x.2 then
      (if manyP (s - st.getD x.1.toNat 0) (lT ls x.1.toNat) x.2 > 0 then r.reverse ++ (x.1, x.2 - manyP (s - st.getD x.1.toNat 0) (lT ls x.1.toNat) x.2) :: ((w : Int), lM ls w) :: (x.1, manyP (s - st.getD x.1.toNat 0) (lT ls x.1.toNat) x.2) :: B else r.reverse ++ x :: ((w : Int), lM ls w) :: B,
        s - manyP (s - st.getD x.1.toNat 0) (lT ls x.1.toNat) x.2 * lT ls x.1.toNat, t + manyP (s - st.getD x.1.toNat 0) (lT ls x.1.toNat) x.2)
    else goL st ls w r (x :: B) (s - manyP (s - st.getD x.1.toNat 0) (lT ls x.1.toNat) x.2 * lT ls x.1.toNat) (t + manyP (s - st.getD x.1.toNat 0) (lT ls x.1.toNat) x.2) := by rw [goL]
def endG (ls : List Lot) : Nat → HH.Row × List Int × List Int
  | 0 => ([], ls.map (·.1), [])
  | w + 1 => let e := endG ls w; let R := goL e.2.1 ls w e.1.reverse [] (e.2.1.getD w 0) 0; (R.1, e.2.1.set w R.2.1, e.2.2 ++ [R.2.2])
def Fit (ls : List Lot) : Prop := ls.length ≤ 100 ∧ ∀ l ∈ ls, 0 ≤ l.2.1 ∧ l.2.1 < 1152921504606846976 ∧ 0 ≤ l.2.2 ∧ l.2.2 < 1152921504606846976
theorem lot_get {ls : List Lot} {i : Nat} (h : i < ls.length) : ls[i]? = some (lS ls i, lT ls i, lM ls i) := by
  unfold lS lT lM
  rw [List.getElem?_eq_getElem h]
  rfl
theorem Fit.at' {ls : List Lot} (h : Fit ls) {i : Nat} (hi : i < ls.length) : 0 ≤ lT ls i ∧ lT ls i < 1152921504606846976 ∧ 0 ≤ lM ls i ∧ lM ls i < 1152921504606846976 := h.2 _ (List.mem_of_getElem? (lot_get hi))
def Bel (w : Nat) (line : HH.Row) : Prop := ∀ x ∈ line, ∃ j : Nat, x.1 = (j : Int) ∧ j < w
theorem Bel.app {w : Nat} {a b : HH.Row} (h : Bel w a) (g : Bel w b) : Bel w (a ++ b) := fun x hx => (List.mem_append.mp hx).elim (h x) (g x)
theorem Bel.up {w : Nat} {a : HH.Row} (h : Bel w a) : Bel (w + 1) a := fun x hx => by
  obtain ⟨j, e, hj⟩ := h x hx
  exact ⟨j, e, by omega⟩
theorem goL_bel {st : List Int} {ls : List Lot} {w : Nat} : ∀ {r B : HH.Row} {s t : Int}, Bel w r → Bel w B → Bel (w + 1) (goL st ls w r B s t).1 ∧ (goL st ls w r B s t).1.length ≤ r.length + B.length + 2
  | [], B, s, t, _, hB => by
    refine ⟨fun x hx => ?_, by show (B.length + 1) ≤ _; simp only [List.length_nil]; omega⟩
    rcases List.mem_cons.mp hx with rfl | hx
    · exact ⟨w, rfl, by omega⟩
    · exact hB.up x hx
  | x :: r, B, s, t, hr, hB => by
    have hx := hr x (List.mem_cons_self ..)
    have hr' : Bel w r := fun y hy => hr y (List.mem_cons_of_mem _ hy)
    unfold goL
    split
    · have hw : ∃ j : Nat, (w : Int) = (j : Int) ∧ j < w + 1 := ⟨w, rfl, by omega⟩
      have hx' : ∃ j : Nat, x.1 = (j : Int) ∧ j < w + 1 := by
        obtain ⟨j, e, hj⟩ := hx
        exact ⟨j, e, by omega⟩
      dsimp only
      split
      · refine ⟨fun y hy => ?_, by simp only [List.length_append, List.length_reverse, List.length_cons]; omega⟩
        simp only [List.mem_append, List.mem_reverse, List.mem_cons] at hy
        rcases hy with hy | rfl | rfl | rfl | hy
        · exact hr'.up y hy
        · exact hx'
        · exact hw
        · exact hx'
        · exact hB.up y hy
      · refine ⟨fun y hy => ?_, by simp only [List.length_append, List.length_reverse, List.length_cons]; omega⟩
        simp only [List.mem_append, List.mem_reverse, List.mem_cons] at hy
        rcases hy with hy | rfl | rfl | hy
        · exact hr'.up y hy
        · exact hx'
        · exact hw
        · exact hB.up y hy
    · have := goL_bel (st := st) (ls := ls) (s := s - manyP (s - st.getD x.1.toNat 0) (lT ls x.1.toNat) x.2 * lT ls x.1.toNat) (t := t + manyP (s - st.getD x.1.toNat 0) (lT ls x.1.toNat) x.2) hr' (B := x :: B) (fun y hy => by
        rcases List.mem_cons.mp hy with rfl | hy
        · exact hx
        · exact hB y hy)
      refine ⟨this.1, ?_⟩
      have := this.2
      simp only [List.length_cons] at this ⊢
      omega
theorem endG_facts (ls : List Lot) : ∀ w, Bel w (endG ls w).1 ∧ (endG ls w).1.length ≤ 2 * w ∧ (endG ls w).2.1.length = ls.length ∧ (endG ls w).2.2.length = w
  | 0 => ⟨(fun x hx => by cases hx), Nat.le_refl _, List.length_map .., rfl⟩
  | w + 1 => by
    obtain ⟨h1, h2, h3, h4⟩ := endG_facts ls w
    have g := goL_bel (st := (endG ls w).2.1) (ls := ls) (w := w) (r := (endG ls w).1.reverse) (B := []) (s := (endG ls w).2.1.getD w 0) (t := 0) (fun x hx => h1 x (List.mem_reverse.mp hx)) (fun x hx => by cases hx)
    rw [List.length_reverse] at g
    refine ⟨g.1, ?_, ?_, ?_⟩
    · show (goL _ _ _ _ _ _ _).1.length ≤ _
      have := g.2
      simp only [List.length_nil] at this
      omega
    · show (List.set _ _ _).length = _
      rw [List.length_set, h3]
    · show (_ ++ [_]).length = _
      rw [List.length_append, h4]
      rfl
def goF (st : List Int) (ls : List Lot) (w : Nat) : List Nat → List Nat → Int → List Nat × Int
  | pre, [], s => (pre ++ [w], s)
  | pre, x :: r, s => if s > st.getD x 0 then goF st ls w (pre ++ [x]) r (s + lM ls x * lT ls x) else (pre ++ w :: x :: r, s)
def begG (ls : List Lot) (n : Nat) : Nat → List Nat × List Int
  | 0 => ([], ls.map (·.1))
  | k + 1 => let e := begG ls n k; let R := goF e.2 ls (n - (k + 1)) [] e.1 (e.2.getD (n - (k + 1)) 0); (R.1, e.2.set (n - (k + 1)) R.2)
def lastLots (ls : List Lot) : List Lot := (endG ls ls.length).1.map fun x => ((endG ls ls.length).2.1.getD x.1.toNat 0, lT ls x.1.toNat, x.2)
def firstLots (ls : List Lot) : List Lot := (begG ls ls.length ls.length).1.map fun x => ((begG ls ls.length ls.length).2.getD x 0, lT ls x, lM ls x)
def plcF (l : Nat) : HH.Row → Int → Option Int → Option Int
  | [], _, o => o
  | x :: r, p, o => plcF l r (p + x.2) (if x.1 = (l : Int) ∧ o = none then some p else o)
def plcB (l : Nat) : HH.Row → Int → Option Int → Option Int
  | [], _, o => o
  | x :: r, p, o => plcB l r (p + x.2) (if x.1 = (l : Int) then some (p + x.2 - 1) else o)
def placesG (ls : List Lot) : HH.Row := (List.range ls.length).map fun l => ((plcF l (endG ls ls.length).1 0 none).getD 0, (plcB l (endG ls ls.length).1 0 none).getD 0)
theorem goF_perm {st : List Int} {ls : List Lot} {w : Nat} : ∀ {R pre : List Nat} {s : Int}, (goF st ls w pre R s).1.Perm (w :: (pre ++ R))
  | [], pre, s => by
    rw [goF, List.append_nil]
    exact List.perm_append_singleton ..
  | x :: r, pre, s => by
    rw [goF]
    split
    · refine goF_perm.trans ?_
      rw [List.append_assoc]
      exact .refl _
    · exact List.perm_middle
theorem begG_facts (ls : List Lot) : ∀ k, k ≤ ls.length → (∀ x ∈ (begG ls ls.length k).1, ls.length ≤ x + k ∧ x < ls.length) ∧ (begG ls ls.length k).1.length = k ∧ (begG ls ls.length k).2.length = ls.length
  | 0, _ => ⟨(fun x hx => by cases hx), rfl, List.length_map ..⟩
  | k + 1, hk => by
    obtain ⟨h1, h2, h3⟩ := begG_facts ls k (by omega)
    have p := goF_perm (st := (begG ls ls.length k).2) (ls := ls) (w := ls.length - (k + 1)) (R := (begG ls ls.length k).1) (pre := []) (s := (begG ls ls.length k).2.getD (ls.length - (k + 1)) 0)
    refine ⟨fun x hx => ?_, ?_, ?_⟩
    · have hx := p.mem_iff.mp hx
      rcases List.mem_cons.mp hx with rfl | hx
      · omega
      · have := h1 x hx
        omega
    · have := p.length_eq
      rw [List.length_cons] at this
      show (goF _ _ _ _ _ _).1.length = _
      rw [this]
      show (begG ls ls.length k).1.length + 1 = k + 1
      rw [h2]
    · show (List.set _ _ _).length = _
      rw [List.length_set, h3]
theorem plcF_some {l : Nat} : ∀ {line : HH.Row} {p : Int} {o : Option Int}, (o ≠ none ∨ ∃ x ∈ line, x.1 = (l : Int)) → ∃ i, plcF l line p o = some i
  | [], p, o, h => by
    rcases h with h | ⟨x, hx, _⟩
    · exact Option.ne_none_iff_exists'.mp h
    · cases hx
  | x :: r, p, o, h => by
    rw [plcF]
    refine plcF_some ?_
    by_cases hc : x.1 = (l : Int) ∧ o = none
    · rw [if_pos hc]
      exact .inl (by simp)
    · rw [if_neg hc]
      rcases h with h | ⟨y, hy, e⟩
      · exact .inl h
      · rcases List.mem_cons.mp hy with rfl | hy
        · exact .inl fun z => hc ⟨e, z⟩
        · exact .inr ⟨y, hy, e⟩
theorem plcB_some {l : Nat} : ∀ {line : HH.Row} {p : Int} {o : Option Int}, (o ≠ none ∨ ∃ x ∈ line, x.1 = (l : Int)) → ∃ i, plcB l line p o = some i
  | [], p, o, h => by
    rcases h with h | ⟨x, hx, _⟩
    · exact Option.ne_none_iff_exists'.mp h
    · cases hx
  | x :: r, p, o, h => by
    rw [plcB]
    refine plcB_some ?_
    by_cases hc : x.1 = (l : Int)
    · rw [if_pos hc]
      exact .inl (by simp)
    · rw [if_neg hc]
      rcases h with h | ⟨y, hy, e⟩
      · exact .inl h
      · rcases List.mem_cons.mp hy with rfl | hy
        · exact (hc e).elim
        · exact .inr ⟨y, hy, e⟩
end HH
set_option maxHeartbeats 4000000
namespace HH
open PySem PySem.Spec PyProof.Rows L2 Evl RZ
def spManyP : Sp := fun vs H Q _ => ∃ a b c : Int, vs = [.int a, .int b, .int c] ∧ 0 ≤ b ∧ b < 1152921504606846976 ∧ RetV (.int (manyP a b c)) H Q
def spPassLots (K : PySem.W.Frag) : Sp := fun vs H Q _ => ∃ (l sa : Addr) (v : V) (us : List V) (line : HH.Row) (st : List Int) (ls : List Lot) (w : Nat), vs = [.ref l, .ref sa, v, .int (w : Int)] ∧ H l = some (.lst us) ∧ BeastsT H us line ∧ H sa = some (.lst (st.map V.int)) ∧ l ≠ sa ∧ HerdAt K H v ls ∧ Fit ls ∧ st.length = ls.length ∧ w < ls.length ∧ Bel w line ∧ line.length ≤ 1000 ∧
  ∀ us' H', ExB2 l sa H H' → H' l = some (.lst us') → BeastsT H' us' (goL st ls w line.reverse [] (st.getD w 0) 0).1 → H' sa = some (.lst ((st.set w (goL st ls w line.reverse [] (st.getD w 0) 0).2.1).map V.int)) → Q (.int (goL st ls w line.reverse [] (st.getD w 0) 0).2.2) H'
def spHerdEnd (K : PySem.W.Frag) : Sp := fun vs H Q _ => ∃ (v : V) (ls : List Lot), vs = [v] ∧ HerdAt K H v ls ∧ Fit ls ∧ ∀ (q l sa ta : Addr) (us : List V) H', Ex H H' → H l = none → H sa = none → H ta = none → SqT K H' q [.ref l, .ref sa, .ref ta] → H' l = some (.lst us) → BeastsT H' us (endG ls ls.length).1 → H' sa = some (.lst ((endG ls ls.length).2.1.map V.int)) → H' ta = some (.lst ((endG ls ls.length).2.2.map V.int)) → Q (.ref q) H'
def spHerd1 (K : PySem.W.Frag) (f : List Lot → List Lot) : Sp := fun vs H Q _ => ∃ (v : V) (ls : List Lot), vs = [v] ∧ HerdAt K H v ls ∧ Fit ls ∧ ∀ z H', Ex H H' → HerdAt K H' z (packL (f ls)) → Q z H'
def spFallLots (K : PySem.W.Frag) : Sp := fun vs H Q _ => ∃ (l sa : Addr) (v : V) (line : List Nat) (st : List Int) (ls : List Lot) (w : Nat), vs = [.ref l, .ref sa, v, .int (w : Int)] ∧ H l = some (.lst (natsV line)) ∧ H sa = some (.lst (st.map V.int)) ∧ l ≠ sa ∧ HerdAt K H v ls ∧ Fit ls ∧ st.length = ls.length ∧ w < ls.length ∧ (∀ x ∈ line, w < x ∧ x < ls.length) ∧ line.length ≤ 1000 ∧
  ∀ H', ExB2 l sa H H' → H' l = some (.lst (natsV (goF st ls w [] line (st.getD w 0)).1)) → H' sa = some (.lst ((st.set w (goF st ls w [] line (st.getD w 0)).2).map V.int)) → Q .non H'
def spHerdPassed (K : PySem.W.Frag) : Sp := fun vs H Q _ => ∃ (v : V) (ls : List Lot), vs = [v] ∧ HerdAt K H v ls ∧ Fit ls ∧ RetL ((endG ls ls.length).2.2.map V.int) H Q
def passingsG (ls : List Lot) : Int := ((List.range ls.length).map fun i => (endG ls ls.length).2.2.getD i 0 * lM ls i).sum
def spHerdPassings (K : PySem.W.Frag) : Sp := fun vs H Q _ => ∃ (v : V) (ls : List Lot), vs = [v] ∧ HerdAt K H v ls ∧ Fit ls ∧ RetV (.int (passingsG ls)) H Q
def spHerdPlaces (K : PySem.W.Frag) : Sp := fun vs H Q _ => ∃ (v : V) (ls : List Lot), vs = [v] ∧ HerdAt K H v ls ∧ Fit ls ∧ (∀ i, i < ls.length → ∃ x ∈ (endG ls ls.length).1, x.1 = (i : Int)) ∧ ∀ (q : Addr) (us : List V) H', H q = none → Ex H H' → H' q = some (.lst us) → BeastsT H' us (placesG ls) → Q (.ref q) H'
section
variable {K : PySem.W.Frag} {H H' H0 H1 H2 : Hp} {σ : L2.St} {te ta tb tc ti : TE} {D : Ends} {v : V} {ls : List Lot} {tz : TS}
theorem HerdAt.exL {q : Addr} {ys : List V} (h : HerdAt K H v ls) (e : ExB q H H') (hq : H q = some (.lst ys)) : HerdAt K H' v ls := by
  obtain ⟨a, us, h1, h2, h3⟩ := h
  exact ⟨a, us, h1, e.t hq h2, LotsA.exB' h3 e hq⟩
theorem herd_at (h : HerdAt K H v ls) {i : Nat} (hi : i < ls.length) : ∃ a us p, v = .ref a ∧ SqT K H a us ∧ us[i]? = some (.ref p) ∧ SqT K H p [.int (lS ls i), .int (lT ls i), .int (lM ls i)] := by
  obtain ⟨a, us, rfl, h2, h3⟩ := h
  obtain ⟨u, hu⟩ : ∃ u, us[i]? = some u := ⟨_, List.getElem?_eq_getElem (by rw [All2.len h3]; exact hi)⟩
  obtain ⟨l, hl, p, rfl, hp⟩ := All2.get h3 hu
  rw [lot_get hi] at hl
  cases hl
  exact ⟨a, us, p, rfl, h2, hu, hp⟩
theorem ev_lotT {i : Nat} (h : Ev te σ H v) (hi : Ev ti σ H (.int (i : Int))) (hv : HerdAt K H v ls) (hlt : i < ls.length) : Ev (tOp (rIxT K) (tOp (rIxT K) te ti) (tC (.int 1))) σ H (.int (lT ls i)) := by
  obtain ⟨a, us, p, rfl, h1, h2, h3⟩ := herd_at hv hlt
  exact ev_op (ev_op h hi (rv_ixT h1 (atI_nat h2))) ev_c (rv_ixT h3 rfl)
theorem ev_lotM {i : Nat} (h : Ev te σ H v) (hi : Ev ti σ H (.int (i : Int))) (hv : HerdAt K H v ls) (hlt : i < ls.length) : Ev (tOp (rIxT K) (tOp (rIxT K) te ti) (tC (.int 2))) σ H (.int (lM ls i)) := by
  obtain ⟨a, us, p, rfl, h1, h2, h3⟩ := herd_at hv hlt
  exact ev_op (ev_op h hi (rv_ixT h1 (atI_nat h2))) ev_c (rv_ixT h3 rfl)
theorem ev_lenH (h : Ev te σ H v) (hv : HerdAt K H v ls) : Ev (tCB (rLenS K) (tCons te tNil)) σ H (.int (ls.length : Int)) := by
  obtain ⟨a, us, rfl, h2, h3⟩ := hv
  rw [← All2.len h3]
  exact ev_lenT h h2
theorem getD_at {st : List Int} {i : Nat} (h : i < st.length) : atI (st.map V.int) (i : Int) = some (.int (st.getD i 0)) := atI_nat (by
  rw [List.getElem?_map, List.getElem?_eq_getElem h, List.getD_eq_getElem?_getD, List.getElem?_eq_getElem h]
  rfl)
theorem getD_set {st : List Int} {i j : Nat} {x : Int} (hi : i < st.length) : (st.set i x).getD j 0 = if i = j then x else st.getD j 0 := by
  rw [List.getD_eq_getElem?_getD, List.getD_eq_getElem?_getD]
  by_cases h : i = j
  · subst h
    rw [if_pos rfl, List.getElem?_set_self hi]
    rfl
  · rw [if_neg h, List.getElem?_set_ne h]
theorem lt_map {t1 t2 t3 : TE} {i j : Nat} {vs : List Nat} {ps : HH.Row} {l : Addr} {us : List V} (f : Int × Int → Lot) (h : Ev te σ H (.ref l)) (hl : H l = some (.lst us)) (bs : BeastsT H us ps) (hn : ps.length ≤ 2000) (hw : ∀ x y, wipe (((wipe σ vs).set i (some x)).set j (some y)) vs = wipe σ vs)
    (h1 : ∀ (b : Int × Int) H1, Ex H H1 → b ∈ ps → Ev t1 (((wipe σ vs).set i (some (.int b.1))).set j (some (.int b.2))) H1 (.int (f b).1)) (h2 : ∀ (b : Int × Int) H1, Ex H H1 → b ∈ ps → Ev t2 (((wipe σ vs).set i (some (.int b.1))).set j (some (.int b.2))) H1 (.int (f b).2.1)) (h3 : ∀ (b : Int × Int) H1, Ex H H1 → b ∈ ps → Ev t3 (((wipe σ vs).set i (some (.int b.1))).set j (some (.int b.2))) H1 (.int (f b).2.2)) :
    ∀ H1, Ex H H1 → ∀ Q : VK, (∀ q ws H2, H1 q = none → Ex H1 H2 → H2 q = some (.lst ws) → LotsA K H2 ws (ps.map f) → Q (.ref q) H2) → tLc (iList K te) (gTup K 2 (gCons (gName i) (gCons (gName j) gNil))) tYes (tTup (tCons t1 (tCons t2 (tCons t3 tNil)))) vs σ H1 Q := fun H0 e0 Q q => by
  refine h H0 e0 _ fun H1 e1 => ⟨l, rfl, ⟨us, sq_of ((e0.trans e1) _ _ hl)⟩, fun D hD => ?_⟩
  have e01 := e0.trans e1
  have ul : us.length = ps.length := bs.len
  have hl1 := e01 _ _ hl
  refine in_it (walk_list (xs := us)) (fun k H2 => Ex H1 H2 ∧ ∃ ws, H2 D = some (.lst ws) ∧ LotsA K H2 ws ((ps.take k).map f)) ⟨Ex.new hD, [], upd_same, .nil⟩ (fun k H2 _ z => sq_of (z.1 _ _ hl1)) (fun k x H2 H3 hk z y => ?_) (fun H2 z => ?_)
  · obtain ⟨rfl, hx⟩ := y
    obtain ⟨z1, ws, z2, z3⟩ := z
    obtain ⟨b, hb, pp, rfl, hpp⟩ := bs.get hx
    have hm := List.mem_of_getElem? hb
    refine ⟨pp, _, rfl, st_of (z1 _ _ (e01 _ _ hpp)), rfl, _, _, rfl, _, _, rfl, rfl, hw _ _, ?_⟩
    refine t_yes ?_
    refine (h1 b _ (e01.trans z1) hm) _ (Ex.refl _) _ fun H4 e4 => ?_
    refine (h2 b H4 ((e01.trans z1).trans e4) hm) H4 (Ex.refl _) _ fun H5 e5 => ?_
    refine (h3 b H5 (((e01.trans z1).trans e4).trans e5) hm) H5 (Ex.refl _) _ fun H6 e6 => ⟨by show 3 ≤ sizeLine; decide, fun T hT => ?_⟩
    have nT := Ex.new (o := .tup [V.int (f b).1, .int (f b).2.1, .int (f b).2.2]) hT
    have e25 := (e4.trans e5).trans e6
    have g7 := nT _ _ (e25 _ _ z2)
    refine ⟨ws, g7, sz_lt (by rw [All2.len z3, List.length_map, List.length_take]; omega), Ex.mut ((z1.trans e25).trans nT) hD, ws ++ [.ref T], upd_same, ?_⟩
    rw [List.take_add_one, hb, List.map_append]
    exact All2.app (LotsA.exB' (LotsA.ex' z3 (e25.trans nT)) (ExB.refl _ _).upd g7) (.cons (LotAt.exB ⟨T, rfl, st_of upd_same⟩ (ExB.refl _ _).upd g7) .nil)
  · obtain ⟨z1, ws, z2, z3⟩ := z
    rw [ul, List.take_length] at z3
    exact q D ws H2 (fresh_back e1 hD) (e1.trans z1) z2 z3
theorem lt_mapN {t1 t2 t3 : TE} {j : Nat} {vs : List Nat} {ns : List Nat} {l : Addr} (f : Nat → Lot) (h : Ev te σ H (.ref l)) (hl : H l = some (.lst (natsV ns))) (hn : ns.length ≤ 2000) (hw : ∀ x, wipe ((wipe σ vs).set j (some x)) vs = wipe σ vs)
    (h1 : ∀ b H1, Ex H H1 → b ∈ ns → Ev t1 ((wipe σ vs).set j (some (.int (b : Int)))) H1 (.int (f b).1)) (h2 : ∀ b H1, Ex H H1 → b ∈ ns → Ev t2 ((wipe σ vs).set j (some (.int (b : Int)))) H1 (.int (f b).2.1)) (h3 : ∀ b H1, Ex H H1 → b ∈ ns → Ev t3 ((wipe σ vs).set j (some (.int (b : Int)))) H1 (.int (f b).2.2)) :
    ∀ H1, Ex H H1 → ∀ Q : VK, (∀ q ws H2, H1 q = none → Ex H1 H2 → H2 q = some (.lst ws) → LotsA K H2 ws (ns.map f) → Q (.ref q) H2) → tLc (iList K te) (gName j) tYes (tTup (tCons t1 (tCons t2 (tCons t3 tNil)))) vs σ H1 Q := fun H0 e0 Q q => by
  refine h H0 e0 _ fun H1 e1 => ⟨l, rfl, ⟨_, sq_of ((e0.trans e1) _ _ hl)⟩, fun D hD => ?_⟩
  have e01 := e0.trans e1
  have hl1 := e01 _ _ hl
  refine in_it (walk_list (xs := natsV ns)) (fun k H2 => Ex H1 H2 ∧ ∃ ws, H2 D = some (.lst ws) ∧ LotsA K H2 ws ((ns.take k).map f)) ⟨Ex.new hD, [], upd_same, .nil⟩ (fun k H2 _ z => sq_of (z.1 _ _ hl1)) (fun k x H2 H3 hk z y => ?_) (fun H2 z => ?_)
  · obtain ⟨rfl, hx⟩ := y
    obtain ⟨z1, ws, z2, z3⟩ := z
    have hk' : k < ns.length := by
      rw [natsV_len] at hk
      exact hk
    have hb : ns[k]? = some ns[k] := List.getElem?_eq_getElem hk'
    have hx' : x = .int (ns[k] : Int) := by
      have := natsV_at hb
      rw [hx] at this
      exact Option.some.inj this
    subst hx'
    generalize ns[k] = b at hb hx
    have hm := List.mem_of_getElem? hb
    refine ⟨hw _, t_yes ?_⟩
    refine (h1 b _ (e01.trans z1) hm) _ (Ex.refl _) _ fun H4 e4 => ?_
    refine (h2 b H4 ((e01.trans z1).trans e4) hm) H4 (Ex.refl _) _ fun H5 e5 => ?_
    refine (h3 b H5 (((e01.trans z1).trans e4).trans e5) hm) H5 (Ex.refl _) _ fun H6 e6 => ⟨by show 3 ≤ sizeLine; decide, fun T hT => ?_⟩
    have nT := Ex.new (o := .tup [V.int (f b).1, .int (f b).2.1, .int (f b).2.2]) hT
    have e25 := (e4.trans e5).trans e6
    have g7 := nT _ _ (e25 _ _ z2)
    refine ⟨ws, g7, sz_lt (by rw [All2.len z3, List.length_map, List.length_take]; omega), Ex.mut ((z1.trans e25).trans nT) hD, ws ++ [.ref T], upd_same, ?_⟩
    rw [List.take_add_one, hb, List.map_append]
    exact All2.app (LotsA.exB' (LotsA.ex' z3 (e25.trans nT)) (ExB.refl _ _).upd g7) (.cons (LotAt.exB ⟨T, rfl, st_of upd_same⟩ (ExB.refl _ _).upd g7) .nil)
  · obtain ⟨z1, ws, z2, z3⟩ := z
    rw [natsV_len, List.take_length] at z3
    exact q D ws H2 (fresh_back e1 hD) (e1.trans z1) z2 z3
theorem sqt_ex2 {a b c : Addr} {xs ys zs : List V} (h : SqT K H c zs) (e : ExB2 a b H H') (ha : H a = some (.lst xs)) (hb : H b = some (.lst ys)) : SqT K H' c zs := by
  rcases h with h | h
  · refine .inl ?_
    rcases h with h | ⟨o, h⟩
    · exact .inl (e c _ (fun z => by rw [z, ha] at h; cases h) (fun z => by rw [z, hb] at h; cases h) h)
    · exact .inr ⟨o, e c _ (fun z => by rw [z, ha] at h; cases h) (fun z => by rw [z, hb] at h; cases h) h⟩
  · exact .inr h
theorem HerdAt.ex2 {a b : Addr} {xs ys : List V} (h : HerdAt K H v ls) (e : ExB2 a b H H') (ha : H a = some (.lst xs)) (hb : H b = some (.lst ys)) : HerdAt K H' v ls := by
  obtain ⟨c, us, h1, h2, h3⟩ := h
  exact ⟨c, us, h1, sqt_ex2 h2 e ha hb, All2.mono (fun _ _ ⟨p, g1, g2⟩ => ⟨p, g1, sqt_ex2 g2 e ha hb⟩) h3⟩
theorem ExB2.of {a b : Addr} (e : Ex H H') : ExB2 a b H H' := fun c o _ _ h => e c o h
theorem ExB2.trans {a b : Addr} (x : ExB2 a b H H1) (y : ExB2 a b H1 H2) : ExB2 a b H H2 := fun c o n1 n2 h => y c o n1 n2 (x c o n1 n2 h)
theorem ExB2.fst {a b : Addr} {o : HO} (x : ExB2 a b H H') : ExB2 a b H (upd H' a o) := fun c u n1 n2 h => by
  rw [upd_ne n1]
  exact x c u n1 n2 h
theorem ExB2.snd {a b : Addr} {o : HO} (x : ExB2 a b H H') : ExB2 a b H (upd H' b o) := fun c u n1 n2 h => by
  rw [upd_ne n2]
  exact x c u n1 n2 h
def rIns : V → List V → Hp → VK → Prop := fun x vs H Q => ∃ (l : Addr) (xs : List V) (i : Int) (y : V), x = .ref l ∧ vs = [.int i, y] ∧ H l = some (.lst xs) ∧ xs.length < sizeLine ∧ 0 ≤ i ∧ i < 2 ^ 63 ∧ Q .non (upd H l (.lst (xs.take i.toNat ++ [y] ++ xs.drop i.toNat)))
theorem s_setPT {l : Addr} {xs : List V} {j : Nat} {a b : Int} (hl : H l = some (.lst xs)) (h1 : Ev ta σ H (.int a)) (h2 : Ev tb σ H (.int b)) (ho : Ev tc σ H (.ref l)) (hi : Ev ti σ H (.int (j : Int))) (hj : j < xs.length) (k : ∀ T H1, Ex H H1 → H1 l = some (.lst xs) → H1 T = some (.tup [.int a, .int b]) → D.nx σ (upd H1 l (.lst (xs.set j (.ref T))))) : tAsg (tTup (tCons ta (tCons tb tNil))) (gSub tc ti rSetL) D σ H :=
  h1 H (Ex.refl H) _ fun H1 e1 => h2 H1 e1 _ fun H2 e2 => ⟨by show 2 ≤ sizeLine; decide, fun T hT => by
    have e3 := (e1.trans e2).trans (Ex.new (o := .tup [V.int a, .int b]) hT)
    have g3 : (upd H2 T (.tup [V.int a, .int b])) T = some (.tup [V.int a, .int b]) := upd_same
    generalize upd H2 T (.tup [V.int a, .int b]) = H3 at e3 g3
    refine ho H3 e3 _ fun H4 e4 => hi H4 (e3.trans e4) _ fun H5 e5 => ⟨l, xs, (j : Int), j, rfl, rfl, (e3.trans (e4.trans e5)) _ _ hl, ixN_nat hj, k T H5 (e3.trans (e4.trans e5)) ((e3.trans (e4.trans e5)) _ _ hl) ((e4.trans e5) _ _ g3)⟩⟩
theorem q_setPT {l : Addr} {xs : List V} {j : Nat} {a b : Int} (hl : H l = some (.lst xs)) (h1 : Ev ta σ H (.int a)) (h2 : Ev tb σ H (.int b)) (ho : Ev tc σ H (.ref l)) (hi : Ev ti σ H (.int (j : Int))) (hj : j < xs.length) (k : ∀ T H1, Ex H H1 → H1 l = some (.lst xs) → H1 T = some (.tup [.int a, .int b]) → tz D σ (upd H1 l (.lst (xs.set j (.ref T))))) : tSeq (tAsg (tTup (tCons ta (tCons tb tNil))) (gSub tc ti rSetL)) tz D σ H := s_setPT (D := { D with nx := tz D }) hl h1 h2 ho hi hj k
theorem s_insPT {l : Addr} {xs : List V} {j : Nat} {a b : Int} (hl : H l = some (.lst xs)) (h1 : Ev ta σ H (.int a)) (h2 : Ev tb σ H (.int b)) (ho : Ev tc σ H (.ref l)) (hi : Ev ti σ H (.int (j : Int))) (hn : xs.length ≤ 5000) (hj : j ≤ 10000) (k : ∀ T H1, Ex H H1 → H1 l = some (.lst xs) → H1 T = some (.tup [.int a, .int b]) → D.nx σ (upd H1 l (.lst (xs.take j ++ .ref T :: xs.drop j)))) : tDrop (tBM K "list" rIns tc (tCons ti (tCons (tTup (tCons ta (tCons tb tNil))) tNil))) D σ H :=
  ho H (Ex.refl H) _ fun H1 e1 => ⟨.inl ⟨rfl, xs, sq_of (e1 _ _ hl)⟩, hi H1 e1 _ fun H2 e2 => h1 H2 (e1.trans e2) _ fun H3 e3 => h2 H3 ((e1.trans e2).trans e3) _ fun H4 e4 => ⟨by show 2 ≤ sizeLine; decide, fun T hT => by
    have e5 := (((e1.trans e2).trans e3).trans e4).trans (Ex.new (o := .tup [V.int a, .int b]) hT)
    have := k T _ e5 (e5 _ _ hl) upd_same
    refine ⟨l, xs, (j : Int), .ref T, rfl, rfl, e5 _ _ hl, sz_lt (by omega), by omega, by omega, ?_⟩
    rw [Int.toNat_natCast, List.append_assoc]
    exact this⟩⟩
theorem q_insPT {l : Addr} {xs : List V} {j : Nat} {a b : Int} (hl : H l = some (.lst xs)) (h1 : Ev ta σ H (.int a)) (h2 : Ev tb σ H (.int b)) (ho : Ev tc σ H (.ref l)) (hi : Ev ti σ H (.int (j : Int))) (hn : xs.length ≤ 5000) (hj : j ≤ 10000) (k : ∀ T H1, Ex H H1 → H1 l = some (.lst xs) → H1 T = some (.tup [.int a, .int b]) → tz D σ (upd H1 l (.lst (xs.take j ++ .ref T :: xs.drop j)))) : tSeq (tDrop (tBM K "list" rIns tc (tCons ti (tCons (tTup (tCons ta (tCons tb tNil))) tNil)))) tz D σ H := s_insPT (D := { D with nx := tz D }) hl h1 h2 ho hi hn hj k
theorem ex_ex2 {a b : Addr} (e : Ex H0 H) (x : ExB2 a b H H') (na : H0 a = none) (nb : H0 b = none) : Ex H0 H' := fun c o h => x c o (ne_of_none h na) (ne_of_none h nb) (e c o h)
theorem el_mapH {t : TE} {i j k : Nat} {vs : List Nat} (g : Lot → V) (h : Ev te σ H v) (hv : HerdAt K H v ls) (hl : ls.length ≤ 1000) (hw : ∀ x y z, wipe ((((wipe σ vs).set i (some x)).set j (some y)).set k (some z)) vs = wipe σ vs)
    (h1 : ∀ (b : Lot) H1, Ex H H1 → b ∈ ls → Ev t ((((wipe σ vs).set i (some (.int b.1))).set j (some (.int b.2.1))).set k (some (.int b.2.2))) H1 (g b)) : EvL (tLc (iTup K te) (gTup K 3 (gCons (gName i) (gCons (gName j) (gCons (gName k) gNil)))) tYes t vs) σ H (ls.map g) := fun H0 e0 Q q => by
  obtain ⟨a, us, rfl, hs, la⟩ := hv
  refine h H0 e0 _ fun H1 e1 => ⟨a, rfl, ⟨us, ex_t (e0.trans e1) hs⟩, fun D hD => ?_⟩
  have e01 := e0.trans e1
  have hs := ex_t e01 hs
  have la := LotsA.ex' la e01
  have ul := All2.len la
  refine in_it (walk_tup (xs := us)) (fun n H2 => Ex H1 H2 ∧ H2 D = some (.lst ((ls.take n).map g))) ⟨Ex.new hD, upd_same⟩ (fun n H2 _ z => ex_t z.1 hs) (fun n x H2 H3 hn z y => ?_) (fun H2 z => ?_)
  · obtain ⟨rfl, hx⟩ := y
    obtain ⟨z1, z2⟩ := z
    obtain ⟨b, hb, pp, rfl, hpp⟩ := All2.get la hx
    have hm := List.mem_of_getElem? hb
    refine ⟨pp, _, rfl, ex_t z1 hpp, rfl, _, _, rfl, _, _, rfl, _, _, rfl, rfl, hw _ _ _, ?_⟩
    refine t_yes ?_
    refine (h1 b _ (e01.trans z1) hm) _ (Ex.refl _) _ fun H4 e4 => ?_
    refine ⟨_, e4 _ _ z2, sz_lt (by rw [List.length_map, List.length_take]; omega), Ex.mut (z1.trans e4) hD, ?_⟩
    rw [List.take_add_one, hb, List.map_append]
    exact upd_same
  · obtain ⟨z1, z2⟩ := z
    rw [ul, List.take_length] at z2
    exact q D H2 (fresh_back e1 hD) (e1.trans z1) z2
theorem q_forL0 {te : TE} {g : TG} {tu tz : TS} (h : te σ H fun x H1 => tSeq (tFor (iList K (tC x)) g tu) tz D σ H1) : tSeq (tFor (iList K te) g tu) tz D σ H := h
theorem ev_sumI {ns : List Int} (h : EvL te σ H (ns.map V.int)) : Ev (tCB (rSum K) (tCons te tNil)) σ H (.int ns.sum) := fun H1 e Q q => h H1 e _ fun p H2 hp e2 g => ⟨p, ns, rfl, sq_of g, q H2 e2⟩
theorem el_zipH {i j k m : Nat} {vs : List Nat} {os : List Int} (h : EvL ta σ H (os.map V.int)) (hb : ∀ H1, Ex H H1 → Ev tb σ H1 v) (hv : HerdAt K H v ls) (ho : os.length = ls.length) (hl : ls.length ≤ 1000) (hm : ∀ l ∈ ls, 0 ≤ l.2.2 ∧ l.2.2 < 1152921504606846976) (hw : ∀ a b c d, wipe (((((wipe σ vs).set i (some a)).set j (some b)).set k (some c)).set m (some d)) vs = wipe σ vs)
    (hi : ∀ a b c d : V, (((((wipe σ vs).set i (some a)).set j (some b)).set k (some c)).set m (some d))[i]? = some (some a)) (hmm : ∀ a b c d : V, (((((wipe σ vs).set i (some a)).set j (some b)).set k (some c)).set m (some d))[m]? = some (some d)) :
    EvL (tLc (iZipM K (tCons ta (tCons tb tNil))) (gTup K 2 (gCons (gName i) (gCons (gTup K 3 (gCons (gName j) (gCons (gName k) (gCons (gName m) gNil)))) gNil))) tYes (tOp (rI CMul fun i j => .int (i * j)) (tVar i) (tVar m)) vs) σ H (((List.range ls.length).map fun n => os.getD n 0 * lM ls n).map V.int) := fun H0 e0 Q q => by
  obtain ⟨a, us, rfl, hs, la⟩ := hv
  refine h H0 e0 _ fun p H1 hp e1 g1 => hb H1 (e0.trans e1) H1 (Ex.refl H1) _ fun H2 e2 => ⟨p, a, _, us, rfl, sq_of (e2 _ _ g1), ex_t (e0.trans (e1.trans e2)) hs, fun D hD => ?_⟩
  have e02 := e0.trans (e1.trans e2)
  have hs := ex_t e02 hs
  have la := LotsA.ex' la e02
  have ul := All2.len la
  have gp := e2 _ _ g1
  have hlen : (os.map V.int).length = us.length := by rw [List.length_map, ho, ul]
  refine in_it (walk_zipM hlen) (fun n H3 => Ex H2 H3 ∧ H3 D = some (.lst (((List.range n).map fun n => os.getD n 0 * lM ls n).map V.int))) ⟨Ex.new hD, upd_same⟩ (fun n H3 _ z => ⟨sq_of (z.1 _ _ gp), ex_t z.1 hs⟩) (fun n x H3 H4 hn z y => ?_) (fun H3 z => ?_)
  · obtain ⟨z1, z2⟩ := z
    obtain ⟨T, x1, x2, rfl, hT, rfl, hx1, hx2⟩ := y
    have hx2 : us[n]? = some x2 := hx2
    have hx1 : (os.map V.int)[n]? = some x1 := hx1
    obtain ⟨b, hb', pp, rfl, hpp⟩ := All2.get la hx2
    have hn' : n < ls.length := (List.getElem?_eq_some_iff.mp hb').1
    rw [lot_get hn'] at hb'
    cases hb'
    have hno : n < os.length := by omega
    rw [List.getElem?_map, List.getElem?_eq_getElem hno] at hx1
    cases hx1
    have eo : os.getD n 0 = os[n] := by
      rw [List.getD_eq_getElem?_getD, List.getElem?_eq_getElem hno]
      rfl
    have e5 : Ex H3 (upd H3 T (.tup [V.int os[n], .ref pp])) := Ex.new hT
    refine ⟨T, _, rfl, st_of upd_same, rfl, _, _, rfl, _, _, rfl, ⟨pp, _, rfl, ex_t (z1.trans e5) hpp, rfl, _, _, rfl, _, _, rfl, _, _, rfl, rfl, rfl, hw _ _ _ _, ?_⟩⟩
    refine t_yes ?_
    have bd := hm _ (List.mem_of_getElem? (lot_get hn'))
    refine (ev_op (ev_var (hi _ _ _ _)) (ev_var (hmm _ _ _ _)) (rv_I (.inr ⟨by show -(2 ^ 64) < lM ls n; have := bd.1; dsimp only at this; omega, by show lM ls n < 2 ^ 64; have := bd.2; dsimp only at this; omega⟩))) _ (Ex.refl _) _ fun H6 e6 => ?_
    refine ⟨_, e6 _ _ (e5 _ _ z2), sz_lt (by rw [List.length_map, List.length_map, List.length_range]; omega), Ex.mut ((z1.trans e5).trans e6) hD, ?_⟩
    rw [upd_same, List.range_succ, List.map_append, List.map_append]
    show some (HO.lst (_ ++ [V.int (os[n] * lM ls n)])) = some (HO.lst (_ ++ [V.int (os.getD n 0 * lM ls n)]))
    rw [eo]
  · obtain ⟨z1, z2⟩ := z
    rw [List.length_map, ho] at z2
    exact q D H3 (fresh_back (e1.trans e2) hD) ((e1.trans e2).trans z1) z2
theorem ept_rng {t1 t2 : TE} {tr : TA} {j n : Nat} {vs : List Nat} (f g : Nat → Int) (h : EvA tr σ H [.int (n : Int)]) (hn : n ≤ 1000) (hw : ∀ x, wipe ((wipe σ vs).set j (some x)) vs = wipe σ vs)
    (h1 : ∀ i H1, Ex H H1 → i < n → Ev t1 ((wipe σ vs).set j (some (.int (i : Int)))) H1 (.int (f i))) (h2 : ∀ i H1, Ex H H1 → i < n → Ev t2 ((wipe σ vs).set j (some (.int (i : Int)))) H1 (.int (g i))) :
    EvPr PairT (tLc (iRng1 tr) (gName j) tYes (tTup (tCons t1 (tCons t2 tNil))) vs) σ H ((List.range n).map fun i => (f i, g i)) := fun H0 e0 Q q => by
  refine h H0 e0 _ fun H1 e1 => ⟨(n : Int), rfl, by omega, by omega, fun D hD => ?_⟩
  have e01 := e0.trans e1
  refine in_it walk_range (fun m H2 => Ex H1 H2 ∧ ∃ us, H2 D = some (.lst us) ∧ All2 (PairT H2) us ((List.range m).map fun i => (f i, g i))) ⟨Ex.new hD, [], upd_same, .nil⟩ (fun _ _ _ _ => True.intro) (fun m x H2 H3 hm p y => ?_) (fun H2 p => ?_)
  · obtain ⟨rfl, hx⟩ := y
    have hx : x = V.int (0 + (m : Int)) := hx
    rw [Int.zero_add] at hx
    subst hx
    obtain ⟨p1, us, p2, p3⟩ := p
    have hm' : m < n := by
      have : ((n : Int) - 0).toNat = n := by omega
      omega
    refine ⟨hw _, t_yes ?_⟩
    refine (h1 m _ (e01.trans p1) hm') _ (Ex.refl _) _ fun H4 e4 => ?_
    refine (h2 m H4 ((e01.trans p1).trans e4) hm') H4 (Ex.refl _) _ fun H5 e5 => ⟨by show 2 ≤ sizeLine; decide, fun T hT => ?_⟩
    have nT := Ex.new (o := .tup [V.int (f m), .int (g m)]) hT
    have e25 := e4.trans e5
    refine ⟨us, nT _ _ (e25 _ _ p2), sz_lt (by rw [All2.len p3, List.length_map, List.length_range]; omega), Ex.mut ((p1.trans e25).trans nT) hD, us ++ [.ref T], upd_same, ?_⟩
    rw [List.range_succ, List.map_append]
    exact stb_T.allL (nT _ _ (e25 _ _ p2)) (All2.app (stb_T.all (e25.trans nT) p3) (.cons ⟨T, rfl, upd_same⟩ .nil))
  · obtain ⟨p1, us, p2, p3⟩ := p
    rw [Int.toNat_natCast] at p3
    exact q D us H2 (fresh_back e1 hD) (e1.trans p1) p2 p3
theorem beasts_exD {a b : Addr} {ka kb : List (Key × V)} {us : List V} {ps : HH.Row} (h : BeastsT H us ps) (e : ExB2 a b H H') (ha : H a = some (.dK ka)) (hb : H b = some (.dK kb)) : BeastsT H' us ps := All2.mono (fun _ _ ⟨p, g1, g2⟩ => ⟨p, g1, e p _ (fun z => by rw [z, ha] at g2; cases g2) (fun z => by rw [z, hb] at g2; cases g2) g2⟩) h
theorem et_notinK {d : Addr} {kvs : List (Key × V)} {k : Key} (h1 : Ev ta σ H (kV k)) (h2 : Ev tb σ H (.ref d)) (hd : H d = some (.dK kvs)) : EvT (tB (tDNotIn ta tb)) σ H (!(valV kvs k).isSome) := fun H1 e1 Q q =>
  h1 H1 e1 _ fun H2 e2 => h2 H2 (e1.trans e2) _ fun H3 e3 => ⟨d, _, rfl, DGet.k (((e1.trans e2).trans e3) _ _ hd), _, rfl, q H3 (e2.trans e3)⟩
theorem s_setK {d : Addr} {kvs : List (Key × V)} {k : Key} (h : Ev te σ H v) (ho : Ev ta σ H (.ref d)) (hi : Ev tb σ H (kV k)) (hd : H d = some (.dK kvs)) (hl : kvs.length ≤ 10000) (kk : ∀ H1, Ex H H1 → D.nx σ (upd H1 d (.dK (putK kvs k v)))) : tAsg te (gSub ta tb rSetD) D σ H :=
  h H (Ex.refl H) _ fun H1 e1 => ho H1 e1 _ fun H2 e2 => hi H2 (e1.trans e2) _ fun H3 e3 => ⟨d, _, rfl, DPut.k (((e1.trans e2).trans e3) _ _ hd) (sz_lt (by omega)), kk H3 ((e1.trans e2).trans e3)⟩
theorem putK_len {kvs : List (Key × V)} {k : Key} {v : V} : (putK kvs k v).length ≤ kvs.length + 1 := by
  unfold putK
  split
  · rw [List.length_map]
    omega
  · rw [List.length_append]
    exact Nat.le_refl _
end
end HH
set_option maxHeartbeats 4000000
namespace HH
open PySem PySem.Spec PyProof.Rows L2 Evl RZ
theorem Step.appR {L M : List Cow} (X : List Cow) (h : Step L M) : Step (L ++ X) (M ++ X) := by
  obtain ⟨pre, post, a, b, rfl, hp, rfl⟩ := h
  exact ⟨pre, post ++ X, a, b, by simp, hp, by simp⟩
theorem Step.consL {L M : List Cow} (x : Cow) (h : Step L M) : Step (x :: L) (x :: M) := by
  obtain ⟨pre, post, a, b, rfl, hp, rfl⟩ := h
  exact ⟨x :: pre, post, a, b, rfl, hp, rfl⟩
theorem Steps.appR {L M : List Cow} (X : List Cow) (h : Steps L M) : Steps (L ++ X) (M ++ X) := by
  induction h with
  | refl => exact .refl _
  | head s _ ih => exact .head (s.appR X) ih
theorem Steps.consL {L M : List Cow} (x : Cow) (h : Steps L M) : Steps (x :: L) (x :: M) := by
  induction h with
  | refl => exact .refl _
  | head s _ ih => exact .head (s.consL x) ih
section
variable {K : PySem.W.Frag} {σ : L2.St} {H : Hp} {te ta tb t2 : TE} {D : Ends} {tz : TS}
end
def invJ (l : List Nat) : Nat → HH.Row
  | 0 => []
  | k + 1 => invJ l k ++ ((List.range k).filter fun i => bef l k i).map fun (i : Nat) => ((i : Int), (k : Int))
theorem mem_invJ {l : List Nat} {x : Int × Int} : ∀ {m : Nat}, x ∈ invJ l m ↔ ∃ i j : Nat, i < j ∧ j < m ∧ x = ((i : Int), (j : Int)) ∧ bef l j i = true
  | 0 => ⟨fun h => (by cases h), fun ⟨i, j, h1, h2, _⟩ => absurd h2 (by omega)⟩
  | m + 1 => by
    show x ∈ invJ l m ++ _ ↔ _
    rw [List.mem_append, mem_invJ]
    constructor
    · rintro (⟨i, j, h1, h2, h3, h4⟩ | h)
      · exact ⟨i, j, h1, by omega, h3, h4⟩
      · obtain ⟨i, hi, rfl⟩ := List.mem_map.mp h
        obtain ⟨h1, h2⟩ := List.mem_filter.mp hi
        exact ⟨i, m, List.mem_range.mp h1, by omega, rfl, h2⟩
    · rintro ⟨i, j, h1, h2, rfl, h4⟩
      rcases Nat.lt_or_ge j m with c | c
      · exact .inl ⟨i, j, h1, c, rfl, h4⟩
      · have : j = m := by omega
        subst this
        exact .inr (List.mem_map.mpr ⟨i, List.mem_filter.mpr ⟨List.mem_range.mpr h1, h4⟩, rfl⟩)
theorem nd_invJ {l : List Nat} : ∀ {m : Nat}, (invJ l m).Nodup
  | 0 => List.nodup_nil
  | m + 1 => by
    refine List.nodup_append.mpr ⟨nd_invJ, ?_, fun a ha b hb e => ?_⟩
    · refine List.Pairwise.map _ (fun a b (h : a ≠ b) z => h ?_) (List.nodup_range.filter _)
      have := congrArg Prod.fst z
      exact Int.ofNat.inj this
    · subst e
      obtain ⟨i, j, _, h2, rfl, _⟩ := mem_invJ.mp ha
      obtain ⟨i', _, h3⟩ := List.mem_map.mp hb
      have h4 : (m : Int) = (j : Int) := congrArg Prod.snd h3
      omega
theorem invJ_succ (l : List Nat) (m : Nat) : (invJ l (m + 1)).length = (invJ l m).length + ((List.range m).filter fun i => bef l m i).length := by
  show (invJ l m ++ _).length = _
  rw [List.length_append, List.length_map]
section
variable {K : PySem.W.Frag} {σ : L2.St} {H : Hp} {te ta tb t2 : TE} {D : Ends} {tz : TS}
end
end HH
set_option maxHeartbeats 4000000
namespace HH
open PySem PySem.Spec PyProof.Rows L2 Evl RZ
theorem Steps.appL {L M : List Cow} (X : List Cow) (h : Steps L M) : Steps (X ++ L) (X ++ M) := by
  have := h.under X []
  simpa using this
theorem FSteps.appL {L M : List Cow} (X : List Cow) (h : FSteps L M) : FSteps (X ++ L) (X ++ M) := by
  have := h.under X []
  simpa using this
theorem FSteps.appRR {L M : List Cow} (X : List Cow) (h : FSteps L M) : FSteps (L ++ X) (M ++ X) := by
  have := h.under [] X
  simpa using this
theorem rep_snoc {α : Type} (m : Nat) (y : α) : List.replicate (m + 1) y = List.replicate m y ++ [y] := by
  rw [List.replicate_succ']
theorem pass_rep (w : Nat) (t : Int) (y : Cow) (ht : 0 ≤ y.2.2) : ∀ (m : Nat) (s : Int), (∀ j : Nat, j < m → s - (j : Int) * y.2.2 - y.2.2 > y.2.1) → Steps (List.replicate m y ++ [(w, (s, t))]) ((w, (s - (m : Int) * y.2.2, t)) :: List.replicate m y)
  | 0, s, h => by
    show Steps [(w, (s, t))] [(w, (s - ((0 : Nat) : Int) * y.2.2, t))]
    have : s - ((0 : Nat) : Int) * y.2.2 = s := by simp
    rw [this]
    exact .refl _
  | m + 1, s, h => by
    rw [rep_snoc, List.append_assoc]
    have h0 := h 0 (by omega)
    have h0 : s - y.2.2 > y.2.1 := by simpa using h0
    have st : Step (List.replicate m y ++ ([y] ++ [(w, (s, t))])) (List.replicate m y ++ (w, (s - y.2.2, t)) :: [y]) := ⟨List.replicate m y, [], y, (w, (s, t)), rfl, h0, rfl⟩
    refine .head st ?_
    have ih := pass_rep w t y ht m (s - y.2.2) fun j hj => by
      have := h (j + 1) (by omega)
      have e : ((j + 1 : Nat) : Int) * y.2.2 = (j : Int) * y.2.2 + y.2.2 := by rw [Int.natCast_add, Int.add_mul]; simp
      rw [e] at this
      omega
    have ih := ih.appR [y]
    have e : s - y.2.2 - (m : Int) * y.2.2 = s - ((m + 1 : Nat) : Int) * y.2.2 := by
      have e : ((m + 1 : Nat) : Int) * y.2.2 = (m : Int) * y.2.2 + y.2.2 := by rw [Int.natCast_add, Int.add_mul]; simp
      rw [e]
      omega
    rw [e] at ih
    have e2 : List.replicate m y ++ (w, (s - y.2.2, t)) :: [y] = List.replicate m y ++ [(w, (s - y.2.2, t))] ++ [y] := by simp
    have e3 : (w, (s - ((m + 1 : Nat) : Int) * y.2.2, t)) :: List.replicate (m + 1) y = (w, (s - ((m + 1 : Nat) : Int) * y.2.2, t)) :: List.replicate m y ++ [y] := by
      rw [rep_snoc]
      rfl
    rw [← rep_snoc, e2, e3]
    exact ih
theorem pass_lot (w : Nat) (s t : Int) (y : Cow) (ht : 0 ≤ y.2.2) (m : Nat) (h : ∀ j : Nat, j < m → s - (j : Int) * y.2.2 - y.2.2 > y.2.1) : ∀ M : Nat, Steps (List.replicate m y ++ List.replicate M (w, (s, t))) (List.replicate M (w, (s - (m : Int) * y.2.2, t)) ++ List.replicate m y)
  | 0 => by
    show Steps (List.replicate m y ++ []) ([] ++ List.replicate m y)
    rw [List.append_nil]
    exact .refl _
  | M + 1 => by
    have h1 := (pass_rep w t y ht m s h).appR (List.replicate M (w, (s, t)))
    have h2 := (pass_lot w s t y ht m h M).consL (w, (s - (m : Int) * y.2.2, t))
    have e : List.replicate m y ++ List.replicate (M + 1) (w, (s, t)) = List.replicate m y ++ [(w, (s, t))] ++ List.replicate M (w, (s, t)) := by
      rw [List.append_assoc]
      rfl
    rw [e]
    exact h1.trans h2
theorem many_ok {spare t many : Int} (ht : 0 ≤ t) (hm : 0 ≤ many) : 0 ≤ manyP spare t many ∧ manyP spare t many ≤ many ∧ (∀ j : Nat, (j : Int) < manyP spare t many → spare - (j : Int) * t - t > 0) ∧ (manyP spare t many < many → spare - manyP spare t many * t - t ≤ 0) ∧ (0 < manyP spare t many → spare - manyP spare t many * t > 0) := by
  unfold manyP
  split
  · refine ⟨Int.le_refl _, hm, fun j hj => absurd hj (by omega), fun _ => ?_, fun h => absurd h (by omega)⟩
    rw [Int.zero_mul]
    omega
  · rename_i hs
    split
    · rename_i h0
      subst h0
      refine ⟨hm, Int.le_refl _, fun j _ => ?_, fun h => absurd h (by omega), fun _ => ?_⟩
      · rw [Int.mul_zero]; omega
      · rw [Int.mul_zero]; omega
    · rename_i h0
      have tp : 0 < t := by omega
      have d1 : (spare - 1) / t * t ≤ spare - 1 := Int.ediv_mul_le _ h0
      have d2 : spare - 1 < (spare - 1) / t * t + t := by
        have := Int.lt_ediv_add_one_mul_self (spare - 1) tp
        rw [Int.add_mul, Int.one_mul] at this
        exact this
      have d0 : 0 ≤ (spare - 1) / t := Int.ediv_nonneg (by omega) ht
      have key : ∀ k : Int, 0 ≤ k → k ≤ (spare - 1) / t → k * t ≤ spare - 1 := fun k _ hk => Int.le_trans (Int.mul_le_mul_of_nonneg_right hk ht) d1
      split
      · rename_i hlt
        refine ⟨d0, by omega, fun j hj => ?_, fun _ => by omega, fun _ => by omega⟩
        have := key ((j : Int) + 1) (by omega) (by omega)
        rw [Int.add_mul, Int.one_mul] at this
        omega
      · rename_i hge
        refine ⟨hm, Int.le_refl _, fun j hj => ?_, fun h => absurd h (by omega), fun h => ?_⟩
        · have := key ((j : Int) + 1) (by omega) (by omega)
          rw [Int.add_mul, Int.one_mul] at this
          omega
        · have := key many hm (by omega)
          omega
end HH
set_option maxHeartbeats 4000000
namespace HH
open PySem PySem.Spec PyProof.Rows L2 Evl RZ
def expL (ls : List Lot) (st : List Int) (line : HH.Row) : List Cow := line.flatMap fun x => List.replicate x.2.toNat (x.1.toNat, (st.getD x.1.toNat 0, lT ls x.1.toNat))
theorem exp_app (ls : List Lot) (st : List Int) (a b : HH.Row) : expL ls st (a ++ b) = expL ls st a ++ expL ls st b := List.flatMap_append
theorem exp_cons (ls : List Lot) (st : List Int) (x : Int × Int) (b : HH.Row) : expL ls st (x :: b) = List.replicate x.2.toNat (x.1.toNat, (st.getD x.1.toNat 0, lT ls x.1.toNat)) ++ expL ls st b := List.flatMap_cons
def blkL (ls : List Lot) (w : Nat) (s : Int) : List Cow := List.replicate (lM ls w).toNat (w, (s, lT ls w))
theorem exp_set {ls : List Lot} {st : List Int} {w : Nat} {s : Int} {line : HH.Row} (h : Bel w line) : expL ls (st.set w s) line = expL ls st line := by
  unfold expL
  rw [List.flatMap_def, List.flatMap_def]
  congr 1
  refine List.map_congr_left fun x hx => ?_
  obtain ⟨j, e, hj⟩ := h x hx
  have : (st.set w s).getD x.1.toNat 0 = st.getD x.1.toNat 0 := by
    rw [List.getD_eq_getElem?_getD, List.getD_eq_getElem?_getD, List.getElem?_set_ne (by rw [e, Int.toNat_natCast]; omega)]
  rw [this]
theorem exp_own {ls : List Lot} {st : List Int} {w : Nat} {s : Int} (hw : w < st.length) : expL ls (st.set w s) [((w : Int), lM ls w)] = blkL ls w s := by
  rw [exp_cons]
  show List.replicate (lM ls w).toNat (((w : Int)).toNat, ((st.set w s).getD ((w : Int)).toNat 0, lT ls ((w : Int)).toNat)) ++ [] = _
  rw [List.append_nil, Int.toNat_natCast, List.getD_eq_getElem?_getD, List.getElem?_set_self hw]
  rfl
def PosR (line : HH.Row) : Prop := ∀ x ∈ line, 1 ≤ x.2
def cntR (line : HH.Row) : Int := (line.map (·.2)).sum
structure GoOk (ls : List Lot) (st : List Int) (w : Nat) (r B : HH.Row) (s t : Int) (R : HH.Row × Int × Int) : Prop where
  s1 : Steps (expL ls st r.reverse ++ blkL ls w s ++ expL ls st B) (expL ls (st.set w R.2.1) R.1)
  cut : ∃ F B', R.1 = F ++ ((w : Int), lM ls w) :: B' ∧ Bel w F ∧ Bel w B' ∧ PosR F ∧ PosR B' ∧ expL ls st F ++ expL ls st B' = expL ls st r.reverse ++ expL ls st B ∧ cntR B' = cntR B + (R.2.2 - t)
theorem posR_app {a b : HH.Row} (h : PosR a) (g : PosR b) : PosR (a ++ b) := fun x hx => (List.mem_append.mp hx).elim (h x) (g x)
theorem rep_add {α : Type} {m n k : Int} (y : α) (h0 : 0 ≤ m) (h1 : 0 ≤ n) (h : m + n = k) : List.replicate m.toNat y ++ List.replicate n.toNat y = List.replicate k.toNat y := by
  rw [List.replicate_append_replicate]
  congr 1
  omega
theorem go_ok {ls : List Lot} {st : List Int} {w : Nat} (fit : Fit ls) (hw : w < ls.length) (hst : st.length = ls.length) (hm : 1 ≤ lM ls w) : ∀ {r B : HH.Row} {s t : Int}, Bel w r → Bel w B → PosR r → PosR B → GoOk ls st w r B s t (goL st ls w r B s t)
  | [], B, s, t, _, hB, _, pB => by
    refine ⟨?_, [], B, rfl, (fun x hx => by cases hx), hB, (fun x hx => by cases hx), pB, rfl, by show cntR B = cntR B + (t - t); omega⟩
    show Steps ([] ++ blkL ls w s ++ expL ls st B) (expL ls (st.set w s) (((w : Int), lM ls w) :: B))
    have e : expL ls (st.set w s) (((w : Int), lM ls w) :: B) = blkL ls w s ++ expL ls st B := by
      have h1 := exp_own (ls := ls) (st := st) (w := w) (s := s) (by omega)
      have h2 := exp_set (ls := ls) (st := st) (w := w) (s := s) hB
      have h3 := exp_app ls (st.set w s) [((w : Int), lM ls w)] B
      rw [h1, h2] at h3
      exact h3
    rw [e]
    exact .refl _
  | x :: r, B, s, t, hr, hB, pr, pB => by
    have hx := hr x (List.mem_cons_self ..)
    have hr' : Bel w r := fun y hy => hr y (List.mem_cons_of_mem _ hy)
    have pr' : PosR r := fun y hy => pr y (List.mem_cons_of_mem _ hy)
    have px := pr x (List.mem_cons_self ..)
    obtain ⟨j, ej, hj⟩ := hx
    have ft := fit.at' (show j < ls.length by omega)
    have hT : 0 ≤ lT ls x.1.toNat := by rw [ej, Int.toNat_natCast]; exact ft.1
    obtain ⟨m0, m1, m2, m3, m4⟩ := many_ok (spare := s - st.getD x.1.toNat 0) hT (show 0 ≤ x.2 by omega)
    rw [goL_cons]
    generalize hmm : manyP (s - st.getD x.1.toNat 0) (lT ls x.1.toNat) x.2 = m at m0 m1 m2 m3 m4 ⊢
    have pass : Steps (List.replicate m.toNat (x.1.toNat, (st.getD x.1.toNat 0, lT ls x.1.toNat)) ++ blkL ls w s) (blkL ls w (s - m * lT ls x.1.toNat) ++ List.replicate m.toNat (x.1.toNat, (st.getD x.1.toNat 0, lT ls x.1.toNat))) := by
      have := pass_lot w s (lT ls w) (x.1.toNat, (st.getD x.1.toNat 0, lT ls x.1.toNat)) hT m.toNat (fun k hk => by
        have := m2 k (by omega)
        show s - (k : Int) * lT ls x.1.toNat - lT ls x.1.toNat > st.getD x.1.toNat 0
        omega) (lM ls w).toNat
      have e : ((m.toNat : Nat) : Int) = m := Int.toNat_of_nonneg m0
      rw [e] at this
      exact this
    by_cases c : m < x.2
    · rw [if_pos c]
      have hF : Bel w (r.reverse) := fun y hy => hr' y (List.mem_reverse.mp hy)
      have pF : PosR r.reverse := fun y hy => pr' y (List.mem_reverse.mp hy)
      have hxx : Bel w [(x.1, x.2 - m)] := fun y hy => by
        cases List.mem_singleton.mp hy
        exact ⟨j, ej, hj⟩
      by_cases c0 : m > 0
      · rw [if_pos c0]
        have hxm : Bel w ((x.1, m) :: B) := fun y hy => by
          rcases List.mem_cons.mp hy with rfl | hy
          · exact ⟨j, ej, hj⟩
          · exact hB y hy
        have hFx : Bel w (r.reverse ++ [(x.1, x.2 - m)]) := hF.app hxx
        refine ⟨?_, r.reverse ++ [(x.1, x.2 - m)], (x.1, m) :: B, by simp, hFx, hxm, posR_app pF (fun y hy => by cases List.mem_singleton.mp hy; show 1 ≤ x.2 - m; omega), (fun y hy => by
          rcases List.mem_cons.mp hy with rfl | hy
          · show 1 ≤ m; omega
          · exact pB y hy), ?_, ?_⟩
        · dsimp only
          have e1 : r.reverse ++ (x.1, x.2 - m) :: ((w : Int), lM ls w) :: (x.1, m) :: B = (r.reverse ++ [(x.1, x.2 - m)]) ++ [((w : Int), lM ls w)] ++ ((x.1, m) :: B) := by simp
          rw [e1, exp_app, exp_app, exp_set hFx, exp_set hxm, exp_own (by omega), exp_app, List.reverse_cons, exp_app, exp_cons, exp_cons, exp_cons]
          dsimp only
          have e2 : expL ls st [] = [] := rfl
          rw [e2, List.append_nil, List.append_nil]
          have e3 := rep_add (m := x.2 - m) (n := m) (k := x.2) (x.1.toNat, (st.getD x.1.toNat 0, lT ls x.1.toNat)) (by omega) m0 (by omega)
          rw [← e3]
          have s1 := (pass.appL (expL ls st r.reverse ++ List.replicate (x.2 - m).toNat (x.1.toNat, (st.getD x.1.toNat 0, lT ls x.1.toNat)))).appR (expL ls st B)
          simp only [List.append_assoc] at s1 ⊢
          exact s1
        · rw [exp_app, List.reverse_cons, exp_app, exp_cons, exp_cons, exp_cons]
          have e2 : expL ls st [] = [] := rfl
          rw [e2, List.append_nil, List.append_nil]
          dsimp only
          have e3 := rep_add (m := x.2 - m) (n := m) (k := x.2) (x.1.toNat, (st.getD x.1.toNat 0, lT ls x.1.toNat)) (by omega) m0 (by omega)
          rw [← e3]
          simp only [List.append_assoc]
        · show m + cntR B = cntR B + (t + m - t)
          omega
      · rw [if_neg c0]
        have hm0 : m = 0 := by omega
        subst hm0
        have hFx : Bel w (r.reverse ++ [x]) := hF.app fun y hy => by
          cases List.mem_singleton.mp hy
          exact ⟨j, ej, hj⟩
        refine ⟨?_, r.reverse ++ [x], B, by simp, hFx, hB, posR_app pF (fun y hy => by cases List.mem_singleton.mp hy; exact px), pB, by rw [List.reverse_cons], by dsimp only; omega⟩
        dsimp only
        have e1 : r.reverse ++ x :: ((w : Int), lM ls w) :: B = (r.reverse ++ [x]) ++ [((w : Int), lM ls w)] ++ B := by simp
        rw [e1, exp_app, exp_app, exp_set hFx, exp_set hB, exp_own (by omega), List.reverse_cons, Int.zero_mul, Int.sub_zero]
        exact .refl _
    · rw [if_neg c]
      have hmx : m = x.2 := by omega
      subst hmx
      have ih := go_ok fit hw hst hm (r := r) (B := x :: B) (s := s - x.2 * lT ls x.1.toNat) (t := t + x.2) hr' (fun y hy => by
        rcases List.mem_cons.mp hy with rfl | hy
        · exact ⟨j, ej, hj⟩
        · exact hB y hy) pr' (fun y hy => by
        rcases List.mem_cons.mp hy with rfl | hy
        · exact px
        · exact pB y hy)
      obtain ⟨s1, F, B', f1, f2, f3, f4, f5, f6, f7⟩ := ih
      refine ⟨?_, F, B', f1, f2, f3, f4, f5, ?_, ?_⟩
      · have s0 := (pass.appL (expL ls st r.reverse)).appR (expL ls st B)
        rw [exp_cons] at s1
        have s2 : Steps (expL ls st (x :: r).reverse ++ blkL ls w s ++ expL ls st B) (expL ls st r.reverse ++ blkL ls w (s - x.2 * lT ls x.1.toNat) ++ (List.replicate x.2.toNat (x.1.toNat, (st.getD x.1.toNat 0, lT ls x.1.toNat)) ++ expL ls st B)) := by
          rw [List.reverse_cons, exp_app, exp_cons]
          have e2 : expL ls st [] = [] := rfl
          rw [e2, List.append_nil]
          simp only [List.append_assoc] at s0 ⊢
          exact s0
        exact s2.trans s1
      · rw [f6, List.reverse_cons, exp_app, exp_cons, exp_cons]
        have e2 : expL ls st [] = [] := rfl
        rw [e2, List.append_nil, List.append_assoc]
      · rw [f7]
        show x.2 + cntR B + _ = _
        omega
end HH
set_option maxHeartbeats 4000000
namespace HH
open PySem PySem.Spec PyProof.Rows L2 Evl RZ
theorem nfr_cat : ∀ {a b : List Cow}, NfR a → NfR b → (∀ x y, a.getLast? = some x → b.head? = some y → ¬ (y.2.1 - x.2.2 > x.2.1)) → NfR (a ++ b)
  | [], b, _, hb, _ => hb
  | [x], [], _, _, _ => True.intro
  | [x], y :: b, _, hb, h => ⟨h x y rfl rfl, hb⟩
  | x :: z :: a, b, ha, hb, h => by
    have ih := nfr_cat (a := z :: a) (b := b) ha.2 hb fun u v hu hv => h u v (by rw [List.getLast?_cons_cons]; exact hu) hv
    exact ⟨ha.1, ih⟩
theorem nfr_left : ∀ {a b : List Cow}, NfR (a ++ b) → NfR a
  | [], _, _ => True.intro
  | [x], _, _ => True.intro
  | x :: z :: a, b, h => ⟨h.1, nfr_left (a := z :: a) (b := b) h.2⟩
theorem nfr_right : ∀ {a b : List Cow}, NfR (a ++ b) → NfR b
  | [], _, h => h
  | x :: a, b, h => nfr_right (a := a) (nfr_tail h)
theorem nfr_rep {y : Cow} (ht : 0 ≤ y.2.2) : ∀ m, NfR (List.replicate m y)
  | 0 => True.intro
  | 1 => True.intro
  | m + 2 => ⟨by omega, nfr_rep ht (m + 1)⟩
theorem last_rep {α : Type} {y x : α} {m : Nat} (h : (List.replicate m y).getLast? = some x) : x = y := by
  have := List.mem_of_getLast? h
  exact (List.mem_replicate.mp this).2
theorem head_rep {α : Type} {y x : α} {m : Nat} (h : (List.replicate m y).head? = some x) : x = y := by
  have := List.mem_of_head? h
  exact (List.mem_replicate.mp this).2
theorem go_nfr {ls : List Lot} {st : List Int} {w : Nat} (fit : Fit ls) (hw : w < ls.length) (hst : st.length = ls.length) (hm : 1 ≤ lM ls w) : ∀ {r B : HH.Row} {s t : Int}, Bel w r → Bel w B → PosR r → PosR B → NfR (expL ls st r.reverse ++ expL ls st B) → (∀ y, (expL ls st B).head? = some y → s > y.2.1) → NfR (expL ls (st.set w (goL st ls w r B s t).2.1) (goL st ls w r B s t).1)
  | [], B, s, t, _, hB, _, pB, h, hs => by
    have tw := (fit.at' hw).1
    show NfR (expL ls (st.set w s) (((w : Int), lM ls w) :: B))
    have e : expL ls (st.set w s) (((w : Int), lM ls w) :: B) = blkL ls w s ++ expL ls st B := by
      have h1 := exp_own (ls := ls) (st := st) (w := w) (s := s) (by omega)
      have h2 := exp_set (ls := ls) (st := st) (w := w) (s := s) hB
      have h3 := exp_app ls (st.set w s) [((w : Int), lM ls w)] B
      rw [h1, h2] at h3
      exact h3
    rw [e]
    refine nfr_cat (nfr_rep tw _) (nfr_right h) fun x y hx hy => ?_
    have := last_rep hx
    subst this
    have := hs y hy
    show ¬ (y.2.1 - lT ls w > s)
    omega
  | x :: r, B, s, t, hr, hB, pr, pB, h, hs => by
    have tw := (fit.at' hw).1
    have hx := hr x (List.mem_cons_self ..)
    have hr' : Bel w r := fun y hy => hr y (List.mem_cons_of_mem _ hy)
    have pr' : PosR r := fun y hy => pr y (List.mem_cons_of_mem _ hy)
    have px := pr x (List.mem_cons_self ..)
    obtain ⟨j, ej, hj⟩ := hx
    have ft := fit.at' (show j < ls.length by omega)
    have hT : 0 ≤ lT ls x.1.toNat := by rw [ej, Int.toNat_natCast]; exact ft.1
    obtain ⟨m0, m1, m2, m3, m4⟩ := many_ok (spare := s - st.getD x.1.toNat 0) hT (show 0 ≤ x.2 by omega)
    rw [goL_cons]
    generalize hmm : manyP (s - st.getD x.1.toNat 0) (lT ls x.1.toNat) x.2 = m at m0 m1 m2 m3 m4 ⊢
    have e2 : expL ls st [] = [] := rfl
    rw [List.reverse_cons, exp_app, exp_cons, e2, List.append_nil] at h
    by_cases c : m < x.2
    · rw [if_pos c]
      have hF : Bel w (r.reverse) := fun y hy => hr' y (List.mem_reverse.mp hy)
      have hxx : Bel w [(x.1, x.2 - m)] := fun y hy => by
        cases List.mem_singleton.mp hy
        exact ⟨j, ej, hj⟩
      have hFx : Bel w (r.reverse ++ [(x.1, x.2 - m)]) := hF.app hxx
      have hxm : Bel w ((x.1, m) :: B) := fun y hy => by
        rcases List.mem_cons.mp hy with rfl | hy
        · exact ⟨j, ej, hj⟩
        · exact hB y hy
      have e3 := rep_add (m := x.2 - m) (n := m) (k := x.2) (x.1.toNat, (st.getD x.1.toNat 0, lT ls x.1.toNat)) (by omega) m0 (by omega)
      rw [← e3] at h
      have main : NfR ((expL ls st r.reverse ++ List.replicate (x.2 - m).toNat (x.1.toNat, (st.getD x.1.toNat 0, lT ls x.1.toNat))) ++ (blkL ls w (s - m * lT ls x.1.toNat) ++ (List.replicate m.toNat (x.1.toNat, (st.getD x.1.toNat 0, lT ls x.1.toNat)) ++ expL ls st B))) := by
        have h' : NfR ((expL ls st r.reverse ++ List.replicate (x.2 - m).toNat (x.1.toNat, (st.getD x.1.toNat 0, lT ls x.1.toNat))) ++ (List.replicate m.toNat (x.1.toNat, (st.getD x.1.toNat 0, lT ls x.1.toNat)) ++ expL ls st B)) := by
          simp only [List.append_assoc] at h ⊢
          exact h
        refine nfr_cat (nfr_left h') (nfr_cat (nfr_rep tw _) (nfr_right h') fun u v hu hv => ?_) fun u v hu hv => ?_
        · have := last_rep hu
          subst this
          show ¬ (v.2.1 - lT ls w > s - m * lT ls x.1.toNat)
          by_cases c0 : 0 < m
          · have hv2 : v = (x.1.toNat, (st.getD x.1.toNat 0, lT ls x.1.toNat)) := by
              obtain ⟨k, hk⟩ : ∃ k, m.toNat = k + 1 := ⟨m.toNat - 1, by omega⟩
              rw [hk] at hv
              exact (Option.some.inj hv).symm
            subst hv2
            have := m4 c0
            show ¬ (st.getD x.1.toNat 0 - lT ls w > s - m * lT ls x.1.toNat)
            omega
          · have hm0 : m = 0 := by omega
            subst hm0
            have := hs v hv
            rw [Int.zero_mul, Int.sub_zero]
            omega
        · have hu2 : u = (x.1.toNat, (st.getD x.1.toNat 0, lT ls x.1.toNat)) := by
            obtain ⟨k, hk⟩ : ∃ k, (x.2 - m).toNat = k + 1 := ⟨(x.2 - m).toNat - 1, by omega⟩
            rw [hk, rep_snoc, ← List.append_assoc, List.getLast?_concat] at hu
            exact (Option.some.inj hu).symm
          subst hu2
          have hv2 : v = (w, (s - m * lT ls x.1.toNat, lT ls w)) := by
            obtain ⟨k, hk⟩ : ∃ k, (lM ls w).toNat = k + 1 := ⟨(lM ls w).toNat - 1, by omega⟩
            unfold blkL at hv
            rw [hk] at hv
            exact (Option.some.inj hv).symm
          subst hv2
          have := m3 c
          show ¬ (s - m * lT ls x.1.toNat - lT ls x.1.toNat > st.getD x.1.toNat 0)
          omega
      by_cases c0 : m > 0
      · rw [if_pos c0]
        dsimp only
        have e1 : r.reverse ++ (x.1, x.2 - m) :: ((w : Int), lM ls w) :: (x.1, m) :: B = (r.reverse ++ [(x.1, x.2 - m)]) ++ [((w : Int), lM ls w)] ++ ((x.1, m) :: B) := by simp
        rw [e1, exp_app, exp_app, exp_set hFx, exp_set hxm, exp_own (by omega), exp_app, exp_cons, exp_cons, e2, List.append_nil]
        simp only [List.append_assoc] at main ⊢
        exact main
      · rw [if_neg c0]
        have hm0 : m = 0 := by omega
        subst hm0
        dsimp only
        have hFx' : Bel w (r.reverse ++ [x]) := hF.app fun y hy => by
          cases List.mem_singleton.mp hy
          exact ⟨j, ej, hj⟩
        have e1 : r.reverse ++ x :: ((w : Int), lM ls w) :: B = (r.reverse ++ [x]) ++ [((w : Int), lM ls w)] ++ B := by simp
        rw [e1, exp_app, exp_app, exp_set hFx', exp_set hB, exp_own (by omega), exp_app, exp_cons, e2, List.append_nil]
        have e9 : x.2 - 0 = x.2 := by omega
        rw [e9] at main
        simp only [List.append_assoc] at main ⊢
        exact main
    · rw [if_neg c]
      have hmx : m = x.2 := by omega
      subst hmx
      refine go_nfr fit hw hst hm (r := r) (B := x :: B) hr' (fun y hy => by
        rcases List.mem_cons.mp hy with rfl | hy
        · exact ⟨j, ej, hj⟩
        · exact hB y hy) pr' (fun y hy => by
        rcases List.mem_cons.mp hy with rfl | hy
        · exact px
        · exact pB y hy) (by
        rw [exp_cons, ← List.append_assoc]
        exact h) fun y hy => ?_
      rw [exp_cons] at hy
      have hv2 : y = (x.1.toNat, (st.getD x.1.toNat 0, lT ls x.1.toNat)) := by
        obtain ⟨k, hk⟩ : ∃ k, x.2.toNat = k + 1 := ⟨x.2.toNat - 1, by omega⟩
        rw [hk] at hy
        exact (Option.some.inj hy).symm
      subst hv2
      have := m4 (by omega)
      show s - x.2 * lT ls x.1.toNat > st.getD x.1.toNat 0
      omega
def sprC (ls : List Lot) (w : Nat) : List Cow := (List.range w).flatMap fun u => List.replicate (lM ls u).toNat (u, (lS ls u, lT ls u))
theorem sprC_succ (ls : List Lot) (w : Nat) : sprC ls (w + 1) = sprC ls w ++ blkL ls w (lS ls w) := by
  unfold sprC
  rw [List.range_succ, List.flatMap_append]
  show _ ++ (List.replicate (lM ls w).toNat (w, (lS ls w, lT ls w)) ++ []) = _
  rw [List.append_nil]
  rfl
def lowB (X : List Cow) (p u : Nat) : Nat := ((X.drop (p + 1)).filter fun c => decide (c.1 < u)).length
structure EndOk (ls : List Lot) (w : Nat) : Prop where
  s1 : Steps (sprC ls w) (expL ls (endG ls w).2.1 (endG ls w).1)
  nf : NfR (expL ls (endG ls w).2.1 (endG ls w).1)
  pos : PosR (endG ls w).1
  low : ∀ (p u : Nat) (c : Cow), (expL ls (endG ls w).2.1 (endG ls w).1)[p]? = some c → c.1 = u → (lowB (expL ls (endG ls w).2.1 (endG ls w).1) p u : Int) = (endG ls w).2.2.getD u 0
  st : ∀ u, w ≤ u → u < ls.length → (endG ls w).2.1.getD u 0 = lS ls u
theorem exp_own_lt {ls : List Lot} {st : List Int} {w : Nat} {line : HH.Row} (h : Bel w line) : ∀ c ∈ expL ls st line, c.1 < w := fun c hc => by
  obtain ⟨x, hx, h2⟩ := List.mem_flatMap.mp hc
  obtain ⟨j, e, hj⟩ := h x hx
  rw [(List.mem_replicate.mp h2).2]
  show x.1.toNat < w
  rw [e, Int.toNat_natCast]
  exact hj
theorem exp_len {ls : List Lot} {st : List Int} : ∀ {line : HH.Row}, PosR line → ((expL ls st line).length : Int) = cntR line
  | [], _ => rfl
  | x :: r, h => by
    have px := h x (List.mem_cons_self ..)
    rw [exp_cons, List.length_append, List.length_replicate]
    have := exp_len (ls := ls) (st := st) (line := r) fun y hy => h y (List.mem_cons_of_mem _ hy)
    show ((x.2.toNat + (expL ls st r).length : Nat) : Int) = x.2 + cntR r
    omega
end HH
set_option maxHeartbeats 4000000
namespace HH
open PySem PySem.Spec PyProof.Rows L2 Evl RZ
theorem low_left {a b : List Cow} {p u : Nat} (h : p < a.length) : lowB (a ++ b) p u = lowB a p u + (b.filter fun c => decide (c.1 < u)).length := by
  unfold lowB
  rw [List.drop_append_of_le_length (by omega), List.filter_append, List.length_append]
theorem low_right {a b : List Cow} {q u : Nat} : lowB (a ++ b) (a.length + q) u = lowB b q u := by
  unfold lowB
  rw [show a.length + q + 1 = a.length + (q + 1) by omega, ← List.drop_drop, List.drop_left]
theorem none_low {b : List Cow} {u : Nat} (h : ∀ c ∈ b, ¬ c.1 < u) : (b.filter fun c => decide (c.1 < u)).length = 0 := by
  rw [List.length_eq_zero_iff, List.filter_eq_nil_iff]
  exact fun c hc z => h c hc (of_decide_eq_true z)
theorem all_low {b : List Cow} {u : Nat} (h : ∀ c ∈ b, c.1 < u) : (b.filter fun c => decide (c.1 < u)).length = b.length := by
  rw [List.filter_eq_self.mpr fun c hc => decide_eq_true (h c hc)]
theorem end_ok {ls : List Lot} (fit : Fit ls) (pos : PosL ls) : ∀ w, w ≤ ls.length → EndOk ls w
  | 0, _ => ⟨.refl _, True.intro, (fun x hx => by cases hx), (fun p u c h => by cases h), fun u _ hu => by
      show (ls.map (·.1)).getD u 0 = lS ls u
      rw [List.getD_eq_getElem?_getD, List.getElem?_map, lot_get hu]
      rfl⟩
  | w + 1, hw => by
    obtain ⟨i1, i2, i3, i4, i5⟩ := end_ok fit pos w (by omega)
    obtain ⟨g1, g2, g3, g4⟩ := endG_facts ls w
    have hlen : w < ls.length := by omega
    have hm : 1 ≤ lM ls w := pos _ (List.mem_of_getElem? (lot_get hlen))
    have hs := i5 w (Nat.le_refl _) hlen
    have br : Bel w (endG ls w).1.reverse := fun x hx => g1 x (List.mem_reverse.mp hx)
    have pr : PosR (endG ls w).1.reverse := fun x hx => i3 x (List.mem_reverse.mp hx)
    have gk := go_ok (st := (endG ls w).2.1) fit hlen g3 hm (r := (endG ls w).1.reverse) (B := []) (s := lS ls w) (t := 0) br (fun x hx => by cases hx) pr (fun x hx => by cases hx)
    have gn := go_nfr (st := (endG ls w).2.1) fit hlen g3 hm (r := (endG ls w).1.reverse) (B := []) (s := lS ls w) (t := 0) br (fun x hx => by cases hx) pr (fun x hx => by cases hx) (by
      rw [List.reverse_reverse]
      show NfR (expL ls (endG ls w).2.1 (endG ls w).1 ++ [])
      rw [List.append_nil]
      exact i2) (fun y hy => by cases hy)
    have e1 : (endG ls (w + 1)).1 = (goL (endG ls w).2.1 ls w (endG ls w).1.reverse [] (lS ls w) 0).1 := by
      show (goL _ ls w _ [] ((endG ls w).2.1.getD w 0) 0).1 = _
      rw [hs]
    have e2 : (endG ls (w + 1)).2.1 = (endG ls w).2.1.set w (goL (endG ls w).2.1 ls w (endG ls w).1.reverse [] (lS ls w) 0).2.1 := by
      show List.set _ w (goL _ ls w _ [] ((endG ls w).2.1.getD w 0) 0).2.1 = _
      rw [hs]
    have e3 : (endG ls (w + 1)).2.2 = (endG ls w).2.2 ++ [(goL (endG ls w).2.1 ls w (endG ls w).1.reverse [] (lS ls w) 0).2.2] := by
      show _ ++ [(goL _ ls w _ [] ((endG ls w).2.1.getD w 0) 0).2.2] = _
      rw [hs]
    obtain ⟨s1, F, B', f1, f2, f3, f4, f5, f6, f7⟩ := gk
    generalize goL (endG ls w).2.1 ls w (endG ls w).1.reverse [] (lS ls w) 0 = R at e1 e2 e3 s1 f1 f7 gn
    generalize (endG ls w).2.1 = st at *
    generalize (endG ls w).1 = line at *
    generalize (endG ls w).2.2 = told at *
    have nil : expL ls st [] = [] := rfl
    rw [List.reverse_reverse, nil, List.append_nil] at s1 f6
    have hX : expL ls (st.set w R.2.1) R.1 = expL ls st F ++ (blkL ls w R.2.1 ++ expL ls st B') := by
      have e9 : F ++ ((w : Int), lM ls w) :: B' = F ++ [((w : Int), lM ls w)] ++ B' := by simp
      rw [f1, e9, exp_app, exp_app, exp_set f2, exp_set f3, exp_own (by omega), List.append_assoc]
    refine ⟨?_, ?_, ?_, ?_, ?_⟩
    · rw [e1, e2, sprC_succ]
      exact (i1.appR _).trans s1
    · rw [e1, e2]
      exact gn
    · rw [e1, f1]
      refine posR_app f4 fun y hy => ?_
      rcases List.mem_cons.mp hy with rfl | hy
      · exact hm
      · exact f5 y hy
    · rw [e1, e2, e3, hX]
      have oF : ∀ c ∈ expL ls st F, c.1 < w := exp_own_lt f2
      have oB : ∀ c ∈ expL ls st B', c.1 < w := exp_own_lt f3
      have oK : ∀ c ∈ blkL ls w R.2.1, c.1 = w := fun c hc => by rw [(List.mem_replicate.mp hc).2]
      rw [← f6] at i4
      have toldL : ∀ u, u < w → (told ++ [R.2.2]).getD u 0 = told.getD u 0 := fun u hu => by
        rw [List.getD_eq_getElem?_getD, List.getD_eq_getElem?_getD, List.getElem?_append_left (by omega)]
      intro p u c hp hc
      by_cases c1 : p < (expL ls st F).length
      · rw [List.getElem?_append_left c1] at hp
        have hu : u < w := by rw [← hc]; exact oF c (List.mem_of_getElem? hp)
        have h4 := i4 p u c (by rw [List.getElem?_append_left c1]; exact hp) hc
        rw [low_left c1] at h4 ⊢
        rw [toldL u hu, ← h4, List.filter_append, List.length_append, none_low (b := blkL ls w R.2.1) fun d hd z => by rw [oK d hd] at z; omega, Nat.zero_add]
      · obtain ⟨q, rfl⟩ : ∃ q, p = (expL ls st F).length + q := ⟨p - (expL ls st F).length, by omega⟩
        rw [List.getElem?_append_right (by omega), Nat.add_sub_cancel_left] at hp
        rw [low_right]
        by_cases c2 : q < (blkL ls w R.2.1).length
        · rw [List.getElem?_append_left c2] at hp
          have hu : u = w := by rw [← hc]; exact oK c (List.mem_of_getElem? hp)
          subst hu
          rw [low_left c2, all_low oB]
          have : lowB (blkL ls u R.2.1) q u = 0 := none_low fun d hd z => by rw [oK d (List.mem_of_mem_drop hd)] at z; omega
          rw [this, Nat.zero_add, exp_len f5, f7, List.getD_eq_getElem?_getD, ← g4, List.getElem?_append_right (Nat.le_refl _), Nat.sub_self]
          show cntR [] + (R.2.2 - 0) = R.2.2
          show (0 : Int) + (R.2.2 - 0) = R.2.2
          omega
        · obtain ⟨q2, rfl⟩ : ∃ q2, q = (blkL ls w R.2.1).length + q2 := ⟨q - (blkL ls w R.2.1).length, by omega⟩
          rw [List.getElem?_append_right (by omega), Nat.add_sub_cancel_left] at hp
          have hu : u < w := by rw [← hc]; exact oB c (List.mem_of_getElem? hp)
          have h4 := i4 ((expL ls st F).length + q2) u c (by rw [List.getElem?_append_right (by omega), Nat.add_sub_cancel_left]; exact hp) hc
          rw [low_right] at h4 ⊢
          rw [toldL u hu, ← h4]
    · intro u hu hul
      rw [e2, ← i5 u (by omega) hul, List.getD_eq_getElem?_getD, List.getD_eq_getElem?_getD, List.getElem?_set_ne (by omega)]
end HH
set_option maxHeartbeats 4000000
namespace HH
open PySem PySem.Spec PyProof.Rows L2 Evl RZ
theorem fall_rep (w : Nat) (t : Int) (y : Cow) (ht : 0 ≤ y.2.2) : ∀ (m : Nat) (s : Int), s > y.2.1 → FSteps ((w, (s, t)) :: List.replicate m y) (List.replicate m y ++ [(w, (s + (m : Int) * y.2.2, t))])
  | 0, s, h => by
    show FSteps [(w, (s, t))] [(w, (s + ((0 : Nat) : Int) * y.2.2, t))]
    have : s + ((0 : Nat) : Int) * y.2.2 = s := by simp
    rw [this]
    exact .refl _
  | m + 1, s, h => by
    have st : FStep ((w, (s, t)) :: List.replicate (m + 1) y) (y :: (w, (s + y.2.2, t)) :: List.replicate m y) := ⟨[], List.replicate m y, (w, (s, t)), y, rfl, h, rfl⟩
    refine .head st ?_
    have ih := (fall_rep w t y ht m (s + y.2.2) (by omega)).appL [y]
    have e : s + y.2.2 + (m : Int) * y.2.2 = s + ((m + 1 : Nat) : Int) * y.2.2 := by
      have e : ((m + 1 : Nat) : Int) * y.2.2 = (m : Int) * y.2.2 + y.2.2 := by rw [Int.natCast_add, Int.add_mul]; simp
      rw [e]
      omega
    rw [e] at ih
    exact ih
theorem fall_lot (w : Nat) (s t : Int) (y : Cow) (ht : 0 ≤ y.2.2) (m : Nat) (h : s > y.2.1) : ∀ M : Nat, FSteps (List.replicate M (w, (s, t)) ++ List.replicate m y) (List.replicate m y ++ List.replicate M (w, (s + (m : Int) * y.2.2, t)))
  | 0 => by
    show FSteps ([] ++ List.replicate m y) (List.replicate m y ++ [])
    rw [List.append_nil]
    exact .refl _
  | M + 1 => by
    have h1 := (fall_rep w t y ht m s h).appL (List.replicate M (w, (s, t)))
    have h2 := (fall_lot w s t y ht m h M).appRR [(w, (s + (m : Int) * y.2.2, t))]
    rw [rep_snoc, rep_snoc, ← List.append_assoc]
    have e : List.replicate M (w, (s, t)) ++ [(w, (s, t))] ++ List.replicate m y = List.replicate M (w, (s, t)) ++ (w, (s, t)) :: List.replicate m y := by simp
    rw [e]
    rw [← List.append_assoc] at h1
    exact h1.trans h2
def expF (ls : List Lot) (st : List Int) (line : List Nat) : List Cow := line.flatMap fun u => List.replicate (lM ls u).toNat (u, (st.getD u 0, lT ls u))
theorem expF_app (ls : List Lot) (st : List Int) (a b : List Nat) : expF ls st (a ++ b) = expF ls st a ++ expF ls st b := List.flatMap_append
theorem expF_cons (ls : List Lot) (st : List Int) (x : Nat) (b : List Nat) : expF ls st (x :: b) = List.replicate (lM ls x).toNat (x, (st.getD x 0, lT ls x)) ++ expF ls st b := List.flatMap_cons
theorem expF_set {ls : List Lot} {st : List Int} {w : Nat} {s : Int} {line : List Nat} (h : ∀ x ∈ line, w ≠ x) : expF ls (st.set w s) line = expF ls st line := by
  unfold expF
  rw [List.flatMap_def, List.flatMap_def]
  congr 1
  refine List.map_congr_left fun x hx => ?_
  have : (st.set w s).getD x 0 = st.getD x 0 := by
    rw [List.getD_eq_getElem?_getD, List.getD_eq_getElem?_getD, List.getElem?_set_ne (h x hx)]
  rw [this]
theorem expF_own {ls : List Lot} {st : List Int} {w : Nat} {s : Int} (hw : w < st.length) : expF ls (st.set w s) [w] = blkL ls w s := by
  rw [expF_cons]
  show List.replicate (lM ls w).toNat (w, ((st.set w s).getD w 0, lT ls w)) ++ [] = _
  rw [List.append_nil, List.getD_eq_getElem?_getD, List.getElem?_set_self hw]
  rfl
theorem ffr_cat : ∀ {a b : List Cow}, FfR a → FfR b → (∀ x y, a.getLast? = some x → b.head? = some y → ¬ (x.2.1 > y.2.1)) → FfR (a ++ b)
  | [], b, _, hb, _ => hb
  | [x], [], _, _, _ => True.intro
  | [x], y :: b, _, hb, h => ⟨h x y rfl rfl, hb⟩
  | x :: z :: a, b, ha, hb, h => by
    have ih := ffr_cat (a := z :: a) (b := b) ha.2 hb fun u v hu hv => h u v (by rw [List.getLast?_cons_cons]; exact hu) hv
    exact ⟨ha.1, ih⟩
theorem ffr_left : ∀ {a b : List Cow}, FfR (a ++ b) → FfR a
  | [], _, _ => True.intro
  | [x], _, _ => True.intro
  | x :: z :: a, b, h => ⟨h.1, ffr_left (a := z :: a) (b := b) h.2⟩
theorem ffr_right : ∀ {a b : List Cow}, FfR (a ++ b) → FfR b
  | [], _, h => h
  | x :: a, b, h => ffr_right (a := a) (ffr_tail h)
theorem ffr_rep {y : Cow} : ∀ m, FfR (List.replicate m y)
  | 0 => True.intro
  | 1 => True.intro
  | m + 2 => ⟨by omega, ffr_rep (m + 1)⟩
theorem goF_ok {ls : List Lot} {st : List Int} {w : Nat} (fit : Fit ls) (hw : w < st.length) (hm : 1 ≤ lM ls w) : ∀ {R pre : List Nat} {s : Int}, (∀ x ∈ R, w ≠ x ∧ x < ls.length ∧ 1 ≤ lM ls x) → (∀ x ∈ pre, w ≠ x) → FfR (expF ls st pre ++ expF ls st R) → (∀ y, (expF ls st pre).getLast? = some y → s > y.2.1) →
    FSteps (expF ls st pre ++ blkL ls w s ++ expF ls st R) (expF ls (st.set w (goF st ls w pre R s).2) (goF st ls w pre R s).1) ∧ FfR (expF ls (st.set w (goF st ls w pre R s).2) (goF st ls w pre R s).1)
  | [], pre, s, _, hp, hf, hs => by
    show FSteps (expF ls st pre ++ blkL ls w s ++ expF ls st []) (expF ls (st.set w s) (pre ++ [w])) ∧ FfR (expF ls (st.set w s) (pre ++ [w]))
    have nil : expF ls st [] = [] := rfl
    rw [expF_app, expF_set hp, expF_own hw, nil, List.append_nil]
    rw [nil, List.append_nil] at hf
    refine ⟨.refl _, ffr_cat hf (ffr_rep _) fun x y hx hy => ?_⟩
    have := head_rep hy
    subst this
    have := hs x hx
    show ¬ (x.2.1 > s)
    omega
  | x :: R, pre, s, hR, hp, hf, hs => by
    obtain ⟨hx1, hx2, hx3⟩ := hR x (List.mem_cons_self ..)
    have ft := (fit.at' hx2).1
    rw [goF]
    split
    · rename_i c
      have ih := goF_ok fit hw hm (R := R) (pre := pre ++ [x]) (s := s + lM ls x * lT ls x) (fun y hy => hR y (List.mem_cons_of_mem _ hy)) (fun y hy => by
        rcases List.mem_append.mp hy with hy | hy
        · exact hp y hy
        · cases List.mem_singleton.mp hy
          exact hx1) (by
        rw [expF_app, expF_cons]
        rw [expF_cons] at hf
        have nil : expF ls st [] = [] := rfl
        rw [nil, List.append_nil, List.append_assoc]
        exact hf) fun y hy => by
        rw [expF_app, expF_cons] at hy
        have nil : expF ls st [] = [] := rfl
        rw [nil, List.append_nil] at hy
        obtain ⟨k, hk⟩ : ∃ k, (lM ls x).toNat = k + 1 := ⟨(lM ls x).toNat - 1, by omega⟩
        rw [hk, rep_snoc, ← List.append_assoc, List.getLast?_concat] at hy
        cases Option.some.inj hy
        have : 0 ≤ lM ls x * lT ls x := Int.mul_nonneg (by omega) ft
        show s + lM ls x * lT ls x > st.getD x 0
        omega
      refine ⟨?_, ih.2⟩
      have h1 := fall_lot w s (lT ls w) (x, (st.getD x 0, lT ls x)) ft (lM ls x).toNat c (lM ls w).toNat
      have e : (((lM ls x).toNat : Nat) : Int) = lM ls x := Int.toNat_of_nonneg (by omega)
      rw [e] at h1
      have h2 := (h1.appL (expF ls st pre)).appRR (expF ls st R)
      refine FSteps.trans ?_ ih.1
      rw [expF_cons, expF_app, expF_cons]
      have nil : expF ls st [] = [] := rfl
      rw [nil, List.append_nil]
      simp only [List.append_assoc] at h2 ⊢
      exact h2
    · rename_i c
      dsimp only
      have hR' : ∀ y ∈ x :: R, w ≠ y := fun y hy => (hR y hy).1
      have e1 : pre ++ w :: x :: R = pre ++ [w] ++ (x :: R) := by simp
      rw [e1, expF_app, expF_app, expF_set hp, expF_set hR', expF_own hw]
      refine ⟨.refl _, ?_⟩
      rw [List.append_assoc]
      refine ffr_cat (ffr_left hf) (ffr_cat (ffr_rep _) (ffr_right hf) fun u v hu hv => ?_) fun u v hu hv => ?_
      · have := last_rep hu
        subst this
        rw [expF_cons] at hv
        obtain ⟨k, hk⟩ : ∃ k, (lM ls x).toNat = k + 1 := ⟨(lM ls x).toNat - 1, by omega⟩
        rw [hk] at hv
        cases Option.some.inj hv
        exact c
      · obtain ⟨k, hk⟩ : ∃ k, (lM ls w).toNat = k + 1 := ⟨(lM ls w).toNat - 1, by omega⟩
        unfold blkL at hv
        rw [hk] at hv
        cases Option.some.inj hv
        have := hs u hu
        show ¬ (u.2.1 > s)
        omega
def sprB (ls : List Lot) (n : Nat) : Nat → List Cow
  | 0 => []
  | k + 1 => blkL ls (n - (k + 1)) (lS ls (n - (k + 1))) ++ sprB ls n k
theorem beg_ok {ls : List Lot} (fit : Fit ls) (pos : PosL ls) : ∀ k, k ≤ ls.length → FSteps (sprB ls ls.length k) (expF ls (begG ls ls.length k).2 (begG ls ls.length k).1) ∧ FfR (expF ls (begG ls ls.length k).2 (begG ls ls.length k).1) ∧ ∀ u, u + k < ls.length → (begG ls ls.length k).2.getD u 0 = lS ls u
  | 0, _ => ⟨.refl _, True.intro, fun u hu => by
      show (ls.map (·.1)).getD u 0 = lS ls u
      rw [List.getD_eq_getElem?_getD, List.getElem?_map, lot_get (by omega)]
      rfl⟩
  | k + 1, hk => by
    obtain ⟨i1, i2, i3⟩ := beg_ok fit pos k (by omega)
    obtain ⟨g1, g2, g3⟩ := begG_facts ls k (by omega)
    have hw : ls.length - (k + 1) < ls.length := by omega
    have hmp : ∀ x, x < ls.length → 1 ≤ lM ls x := fun x hx => pos _ (List.mem_of_getElem? (lot_get hx))
    have hs := i3 (ls.length - (k + 1)) (by omega)
    have nil : expF ls (begG ls ls.length k).2 [] = [] := rfl
    have gk := goF_ok (st := (begG ls ls.length k).2) (w := ls.length - (k + 1)) fit (by omega) (hmp _ hw) (R := (begG ls ls.length k).1) (pre := []) (s := lS ls (ls.length - (k + 1))) (fun x hx => by
      have := g1 x hx
      exact ⟨by omega, this.2, hmp x this.2⟩) (fun x hx => by cases hx) (by
      rw [nil]
      exact i2) (fun y hy => by cases hy)
    rw [nil] at gk
    have e1 : begG ls ls.length (k + 1) = ((goF (begG ls ls.length k).2 ls (ls.length - (k + 1)) [] (begG ls ls.length k).1 (lS ls (ls.length - (k + 1)))).1, (begG ls ls.length k).2.set (ls.length - (k + 1)) (goF (begG ls ls.length k).2 ls (ls.length - (k + 1)) [] (begG ls ls.length k).1 (lS ls (ls.length - (k + 1)))).2) := by
      rw [begG]
      rw [hs]
    rw [e1]
    refine ⟨?_, gk.2, fun u hu => ?_⟩
    · have := (i1.appL (blkL ls (ls.length - (k + 1)) (lS ls (ls.length - (k + 1))))).trans gk.1
      exact this
    · rw [← i3 u (by omega)]
      show (List.set _ _ _).getD u 0 = _
      rw [List.getD_eq_getElem?_getD, List.getD_eq_getElem?_getD, List.getElem?_set_ne (by omega)]
theorem spr_both (ls : List Lot) : ∀ k, k ≤ ls.length → sprC ls (ls.length - k) ++ sprB ls ls.length k = sprC ls ls.length
  | 0, _ => by
    show sprC ls ls.length ++ [] = _
    rw [List.append_nil]
  | k + 1, hk => by
    have ih := spr_both ls k (by omega)
    have e : ls.length - k = ls.length - (k + 1) + 1 := by omega
    rw [e, sprC_succ, List.append_assoc] at ih
    exact ih
end HH
set_option maxHeartbeats 4000000
namespace HH
open PySem PySem.Spec PyProof.Rows L2 Evl RZ
def ownL (ls : List Lot) : List Nat := (sprC ls ls.length).map (·.1)
theorem lots_map (ls : List Lot) : (List.range ls.length).map (fun u => (lS ls u, lT ls u, lM ls u)) = ls := by
  refine List.ext_getElem? fun i => ?_
  rw [List.getElem?_map]
  rcases Nat.lt_or_ge i ls.length with c | c
  · rw [List.getElem?_range c, lot_get c]
    rfl
  · rw [List.getElem?_eq_none (by rw [List.length_range]; exact c), List.getElem?_eq_none c]
    rfl
theorem lots_row (ls : List Lot) : rowsOf (sprC ls ls.length) = sprR ls := by
  have h : sprR ls = ((List.range ls.length).map (fun u => (lS ls u, lT ls u, lM ls u))).flatMap fun l => List.replicate l.2.2.toNat (l.1, l.2.1) := by
    rw [lots_map]
    rfl
  rw [h, rowsOf, sprC, List.flatMap_map, List.map_flatMap, List.flatMap_def, List.flatMap_def]
  congr 1
  refine List.map_congr_left fun u _ => ?_
  rw [List.map_replicate]
theorem own_len (ls : List Lot) : (ownL ls).length = (sprR ls).length := by
  rw [← lots_row, ownL, rowsOf, List.length_map, List.length_map]
theorem spr_sorted (ls : List Lot) : ∀ w, ((sprC ls w).map (·.1)).Pairwise (· ≤ ·) ∧ ∀ x ∈ (sprC ls w).map (·.1), x < w
  | 0 => ⟨.nil, (fun x hx => by cases hx)⟩
  | w + 1 => by
    obtain ⟨h1, h2⟩ := spr_sorted ls w
    have hb : (blkL ls w (lS ls w)).map (·.1) = List.replicate (lM ls w).toNat w := by
      unfold blkL
      rw [List.map_replicate]
    rw [sprC_succ, List.map_append, hb]
    refine ⟨List.pairwise_append.mpr ⟨h1, ?_, fun a ha b hb => ?_⟩, fun x hx => ?_⟩
    · refine List.pairwise_iff_getElem.mpr fun i j hi hj _ => ?_
      rw [List.getElem_replicate, List.getElem_replicate]
      exact Nat.le_refl _
    · rw [(List.mem_replicate.mp hb).2]
      exact Nat.le_of_lt (h2 a ha)
    · rcases List.mem_append.mp hx with hx | hx
      · exact Nat.lt_succ_of_lt (h2 x hx)
      · rw [(List.mem_replicate.mp hx).2]
        exact Nat.lt_succ_self _
theorem own_at {ls : List Lot} {i : Nat} (h : i < (sprR ls).length) : ∃ u, u < ls.length ∧ (ownL ls)[i]? = some u ∧ ixN (ownL ls) i = u ∧ (sprR ls)[i]? = some (lS ls u, lT ls u) := by
  rw [← own_len, ownL, List.length_map] at h
  have hc := List.getElem?_eq_getElem h
  obtain ⟨u, hu, h2⟩ := List.mem_flatMap.mp (List.getElem_mem h)
  have e := (List.mem_replicate.mp h2).2
  have hu := List.mem_range.mp hu
  have h3 : (ownL ls)[i]? = some u := by
    rw [ownL, List.getElem?_map, hc]
    show some ((sprC ls ls.length)[i]).1 = some u
    rw [e]
  refine ⟨u, hu, h3, ?_, ?_⟩
  · unfold ixN
    rw [h3]
    rfl
  · rw [← lots_row, rowsOf, List.getElem?_map, hc]
    show some ((sprC ls ls.length)[i]).2 = _
    rw [e]
theorem own_mono {ls : List Lot} {i j : Nat} (h : i ≤ j) (hj : j < (sprR ls).length) : ixN (ownL ls) i ≤ ixN (ownL ls) j := by
  rcases Nat.lt_or_ge i j with c | c
  · have hl := own_len ls
    have := List.pairwise_iff_getElem.mp (spr_sorted ls ls.length).1 i j (by rw [← hl] at hj; unfold ownL at hj; omega) (by rw [← hl] at hj; exact hj) c
    unfold ixN ownL
    rw [List.getElem?_eq_getElem (by rw [← hl] at hj; unfold ownL at hj; omega), List.getElem?_eq_getElem (by rw [← hl] at hj; exact hj)]
    exact this
  · have : i = j := by omega
    rw [this]
    exact Nat.le_refl _
theorem spr_tl {ls : List Lot} (fit : Fit ls) : ∀ x ∈ sprC ls ls.length, 0 ≤ x.2.2 := fun x hx => by
  obtain ⟨u, hu, h2⟩ := List.mem_flatMap.mp hx
  rw [(List.mem_replicate.mp h2).2]
  exact (fit.at' (List.mem_range.mp hu)).1
theorem sprR_tl {ls : List Lot} (fit : Fit ls) : ∀ b ∈ sprR ls, 0 ≤ b.2 := fun b hb => by
  rw [← lots_row] at hb
  exact tolls_rows (spr_tl fit) b hb
theorem ends_lots {ls : List Lot} (fit : Fit ls) (pos : PosL ls) {E : List Cow} (s : Steps (tag 0 (sprR ls)) E) (n : Nf E) : rlL (ixN (ownL ls)) E = expL ls (endG ls ls.length).2.1 (endG ls ls.length).1 := by
  have s2 := s.map (ixN (ownL ls))
  rw [← lots_row, ownL, rl_tag] at s2
  have k := end_ok fit pos ls.length (Nat.le_refl _)
  exact nf_any (spr_tl fit) s2 (nf_map n) k.s1 (nfr_nf k.nf)
theorem starts_lots {ls : List Lot} (fit : Fit ls) (pos : PosL ls) {B : List Cow} (s : FSteps (tag 0 (sprR ls)) B) (n : Ff B) : rlL (ixN (ownL ls)) B = expF ls (begG ls ls.length ls.length).2 (begG ls ls.length ls.length).1 := by
  have s2 := s.map (ixN (ownL ls))
  rw [← lots_row, ownL, rl_tag] at s2
  obtain ⟨k1, k2, k3⟩ := beg_ok fit pos ls.length (Nat.le_refl _)
  have k4 := spr_both ls ls.length (Nat.le_refl _)
  rw [Nat.sub_self] at k4
  have k4 : sprB ls ls.length ls.length = sprC ls ls.length := k4
  rw [k4] at k1
  exact ff_any (spr_tl fit) s2 (ff_map n) k1 (ffr_ff k2)
theorem pass_strong {rs : HH.Row} {E : List Cow} (tl : ∀ b ∈ rs, 0 ≤ b.2) (s : Steps (tag 0 rs) E) (n : Nf E) {i j : Nat} (hij : i < j) (hj : j < rs.length) (h : bef (E.map (·.1)) j i = true) : sS rs i < sS rs j := by
  have hm : ((i : Int), (j : Int)) ∈ tab (E.map (·.1)) rs.length rs.length := mem_tab.mpr ⟨i, j, hij, hj, rfl, h⟩
  obtain ⟨i', j', h1, h2, h3, h4⟩ := (mem_tabN tl s n).mp hm
  have e1 : i = i' := by
    have := congrArg Prod.fst h3
    exact Int.ofNat.inj this
  have e2 : j = j' := by
    have := congrArg Prod.snd h3
    exact Int.ofNat.inj this
  subst e1 e2
  have := bar_low tl (i := i) (j - i - 1)
  have t0 : 0 ≤ tS rs i := by
    have hi : i < rs.length := by omega
    have := tl _ (List.getElem_mem hi)
    unfold tS
    rw [List.getElem?_eq_getElem hi]
    exact this
  omega
theorem often_is {ls : List Lot} (fit : Fit ls) (pos : PosL ls) {E : List Cow} (s : Steps (tag 0 (sprR ls)) E) (n : Nf E) {who : Nat} (hw : who < (sprR ls).length) : (((List.range who).filter fun i => bef (E.map (·.1)) who i).length : Int) = (endG ls ls.length).2.2.getD (ixN (ownL ls) who) 0 := by
  have ids := s.idsT
  have nd : (E.map (·.1)).Nodup := ids.nodup_iff.mpr List.nodup_range
  obtain ⟨p, hp⟩ := List.getElem?_of_mem (ids.mem_iff.mpr (List.mem_range.mpr hw))
  have k := end_ok fit pos ls.length (Nat.le_refl _)
  have e := ends_lots fit pos s n
  have hp' := hp
  rw [List.getElem?_map, Option.map_eq_some_iff] at hp'
  obtain ⟨c, hc, hcw⟩ := hp'
  have low := k.low p (ixN (ownL ls) who) (rl (ixN (ownL ls)) c) (by rw [← e, rlL, List.getElem?_map, hc]; rfl) (by show ixN (ownL ls) c.1 = _; rw [hcw])
  rw [← low, ← e]
  congr 1
  have h2 : lowB (rlL (ixN (ownL ls)) E) p (ixN (ownL ls) who) = (((E.map (·.1)).drop (p + 1)).filter fun i => decide (ixN (ownL ls) i < ixN (ownL ls) who)).length := by
    unfold lowB rlL
    rw [← List.map_drop, ← List.map_drop, List.filter_map, List.filter_map, List.length_map, List.length_map]
    rfl
  rw [h2]
  refine List.Perm.length_eq ((List.perm_ext_iff_of_nodup (List.nodup_range.filter _) ((nd.sublist (List.drop_sublist _ _)).filter _)).mpr fun i => ?_)
  rw [List.mem_filter, List.mem_filter, List.mem_range, decide_eq_true_iff]
  constructor
  · rintro ⟨h3, h4⟩
    have him := (bef_mem h4).2
    obtain ⟨q, hq⟩ := List.getElem?_of_mem him
    rw [bef_iff nd hp hq] at h4
    have hpq := of_decide_eq_true h4
    refine ⟨List.mem_of_getElem? (i := q - (p + 1)) (by rw [List.getElem?_drop]; rw [show p + 1 + (q - (p + 1)) = q by omega]; exact hq), ?_⟩
    have hle := own_mono (ls := ls) (Nat.le_of_lt h3) hw
    rcases Nat.lt_or_ge (ixN (ownL ls) i) (ixN (ownL ls) who) with c | c
    · exact c
    · exfalso
      have eq : ixN (ownL ls) i = ixN (ownL ls) who := by omega
      obtain ⟨u1, _, _, v1, w1⟩ := own_at (ls := ls) (i := i) (by omega)
      obtain ⟨u2, _, _, v2, w2⟩ := own_at (ls := ls) hw
      have h5 := pass_strong (sprR_tl fit) s n h3 hw (by rw [bef_iff nd hp hq]; exact h4)
      unfold sS at h5
      rw [w1, w2] at h5
      have : u1 = u2 := by omega
      rw [this] at h5
      exact absurd h5 (Int.lt_irrefl _)
  · rintro ⟨h3, h4⟩
    obtain ⟨q, hq⟩ := List.getElem?_of_mem h3
    rw [List.getElem?_drop] at hq
    have hi : i < (sprR ls).length := List.mem_range.mp (ids.mem_iff.mp (List.mem_of_getElem? hq))
    refine ⟨?_, ?_⟩
    · rcases Nat.lt_or_ge i who with c | c
      · exact c
      · have := own_mono (ls := ls) c hi
        omega
    · rw [bef_iff nd hp hq]
      exact decide_eq_true (by omega)
theorem sum_append (xs ys : List Int) : (xs ++ ys).sum = xs.sum + ys.sum := by
  induction xs with
  | nil => show ys.sum = 0 + ys.sum; omega
  | cons x r ih => show x + (r ++ ys).sum = x + r.sum + ys.sum; omega
theorem sum_rep (n : Nat) (x : Int) : (List.replicate n x).sum = x * (n : Int) := by
  induction n with
  | zero => show (0 : Int) = x * 0; omega
  | succ n ih =>
    show x + (List.replicate n x).sum = x * ((n + 1 : Nat) : Int)
    rw [ih, Int.natCast_add, Int.mul_add]
    show x + x * (n : Int) = x * (n : Int) + x * 1
    omega
theorem own_sum (ls : List Lot) (pos : PosL ls) (f : Nat → Int) : ∀ w, w ≤ ls.length → (((sprC ls w).map (·.1)).map f).sum = ((List.range w).map fun i => f i * lM ls i).sum
  | 0, _ => rfl
  | w + 1, hw => by
    have ih := own_sum ls pos f w (by omega)
    have hb : ((blkL ls w (lS ls w)).map (·.1)).map f = List.replicate (lM ls w).toNat (f w) := by
      unfold blkL
      rw [List.map_replicate, List.map_replicate]
    have hm : 1 ≤ lM ls w := pos _ (List.mem_of_getElem? (lot_get (by omega)))
    rw [sprC_succ, List.map_append, List.map_append, sum_append, ih, hb, sum_rep, List.range_succ, List.map_append, sum_append]
    show _ + f w * (((lM ls w).toNat : Nat) : Int) = _ + (f w * lM ls w + 0)
    rw [Int.toNat_of_nonneg (by omega)]
    omega
theorem all_pairs {ls : List Lot} (fit : Fit ls) (pos : PosL ls) {E : List Cow} (s : Steps (tag 0 (sprR ls)) E) (n : Nf E) : ((invJ (E.map (·.1)) (sprR ls).length).length : Int) = passingsG ls := by
  have key : ∀ m, m ≤ (sprR ls).length → ((invJ (E.map (·.1)) m).length : Int) = (((ownL ls).take m).map fun u => (endG ls ls.length).2.2.getD u 0).sum := by
    intro m
    induction m with
    | zero => intro _; rfl
    | succ m ih =>
      intro hm
      have ho := own_at (ls := ls) (i := m) (by omega)
      obtain ⟨u, _, h1, h2, _⟩ := ho
      have := often_is fit pos s n (who := m) (by omega)
      rw [h2] at this
      rw [invJ_succ, List.take_add_one, h1, List.map_append, sum_append, ← ih (by omega)]
      show ((_ + _ : Nat) : Int) = _ + ((endG ls ls.length).2.2.getD u 0 + 0)
      rw [← this]
      omega
  rw [key _ (Nat.le_refl _), ← own_len, List.take_length]
  exact own_sum ls pos _ ls.length (Nat.le_refl _)
theorem count_invJ {l : List Nat} {k : Nat} : ∀ m, (((invJ l m).map (·.2)).count (k : Int)) = if k < m then ((List.range k).filter fun i => bef l k i).length else 0
  | 0 => rfl
  | m + 1 => by
    show ((invJ l m ++ _).map (·.2)).count (k : Int) = _
    rw [List.map_append, List.count_append, count_invJ m, List.map_map]
    have e : (((List.range m).filter fun i => bef l m i).map ((·.2) ∘ fun (i : Nat) => ((i : Int), (m : Int)))) = List.replicate ((List.range m).filter fun i => bef l m i).length (m : Int) := by
      rw [← List.map_const']
      rfl
    rw [e]
    by_cases c : k = m
    · subst c
      rw [if_neg (Nat.lt_irrefl _), if_pos (Nat.lt_succ_self _), List.count_replicate_self, Nat.zero_add]
    · have h0 : (List.replicate ((List.range m).filter fun i => bef l m i).length (m : Int)).count (k : Int) = 0 := by
        rw [List.count_eq_zero]
        intro h
        have := (List.mem_replicate.mp h).2
        omega
      rw [h0, Nat.add_zero]
      by_cases c2 : k < m
      · rw [if_pos c2, if_pos (by omega)]
      · rw [if_neg c2, if_neg (by omega)]
theorem exp_rows {ls : List Lot} {st : List Int} : ∀ line : HH.Row, rowsOf (expL ls st line) = sprR (line.map fun x => (st.getD x.1.toNat 0, lT ls x.1.toNat, x.2))
  | [] => rfl
  | x :: r => by
    have ih := exp_rows (ls := ls) (st := st) r
    rw [exp_cons]
    unfold rowsOf at ih ⊢
    rw [List.map_append, ih, List.map_replicate]
    rfl
theorem expF_rows {ls : List Lot} {st : List Int} : ∀ line : List Nat, rowsOf (expF ls st line) = sprR (line.map fun x => (st.getD x 0, lT ls x, lM ls x))
  | [] => rfl
  | x :: r => by
    have ih := expF_rows (ls := ls) (st := st) r
    rw [expF_cons]
    unfold rowsOf at ih ⊢
    rw [List.map_append, ih, List.map_replicate]
    rfl
theorem last_pack {ls : List Lot} (fit : Fit ls) (pos : PosL ls) {E : List Cow} (s : Steps (tag 0 (sprR ls)) E) (n : Nf E) : packL (ones (rowsOf E)) = packL (lastLots ls) := by
  have k := end_ok fit pos ls.length (Nat.le_refl _)
  have e : rowsOf E = sprR (lastLots ls) := by
    rw [← rl_rows (ixN (ownL ls)) E, ends_lots fit pos s n, exp_rows]
    rfl
  rw [e]
  refine fold_ones _ [] fun l hl => ?_
  obtain ⟨x, hx, rfl⟩ := List.mem_map.mp hl
  exact k.pos x hx
theorem first_pack {ls : List Lot} (fit : Fit ls) (pos : PosL ls) {B : List Cow} (s : FSteps (tag 0 (sprR ls)) B) (n : Ff B) : packL (ones (rowsOf B)) = packL (firstLots ls) := by
  have e : rowsOf B = sprR (firstLots ls) := by
    rw [← rl_rows (ixN (ownL ls)) B, starts_lots fit pos s n, expF_rows]
    rfl
  rw [e]
  refine fold_ones _ [] fun l hl => ?_
  obtain ⟨x, hx, rfl⟩ := List.mem_map.mp hl
  have := (begG_facts ls ls.length (Nat.le_refl _)).1 x hx
  have h := pos _ (List.mem_of_getElem? (lot_get this.2))
  exact h
end HH
set_option maxHeartbeats 4000000
namespace HH
open PySem PySem.Spec PyProof.Rows L2 Evl RZ
def posX (l : Nat) : List Cow → Int → List Int
  | [], _ => []
  | c :: r, k => (if c.1 = l then [k] else []) ++ posX l r (k + 1)
theorem posX_app (l : Nat) : ∀ (a b : List Cow) (k : Int), posX l (a ++ b) k = posX l a k ++ posX l b (k + (a.length : Int))
  | [], b, k => by
    show posX l b k = [] ++ posX l b (k + 0)
    rw [Int.add_zero]
    rfl
  | c :: a, b, k => by
    show (if c.1 = l then [k] else []) ++ posX l (a ++ b) (k + 1) = (if c.1 = l then [k] else []) ++ posX l a (k + 1) ++ posX l b (k + ((a.length + 1 : Nat) : Int))
    rw [posX_app l a b (k + 1), List.append_assoc]
    congr 3
    omega
theorem posX_rep_no {l : Nat} {y : Cow} (h : y.1 ≠ l) : ∀ (m : Nat) (k : Int), posX l (List.replicate m y) k = []
  | 0, _ => rfl
  | m + 1, k => by
    show (if y.1 = l then [k] else []) ++ posX l (List.replicate m y) (k + 1) = []
    rw [if_neg h, posX_rep_no h m (k + 1)]
    rfl
theorem posX_rep {l : Nat} {y : Cow} (h : y.1 = l) : ∀ (m : Nat) (k : Int), (posX l (List.replicate (m + 1) y) k).head? = some k ∧ (posX l (List.replicate (m + 1) y) k).getLast? = some (k + (m : Int))
  | 0, k => by
    show (((if y.1 = l then [k] else []) ++ []).head? = some k) ∧ ((if y.1 = l then [k] else []) ++ []).getLast? = some (k + 0)
    rw [if_pos h, Int.add_zero]
    exact ⟨rfl, rfl⟩
  | m + 1, k => by
    obtain ⟨h1, h2⟩ := posX_rep h m (k + 1)
    show (((if y.1 = l then [k] else []) ++ posX l (List.replicate (m + 1) y) (k + 1)).head? = some k) ∧ ((if y.1 = l then [k] else []) ++ posX l (List.replicate (m + 1) y) (k + 1)).getLast? = _
    rw [if_pos h]
    refine ⟨rfl, ?_⟩
    rw [List.getLast?_append, h2]
    show some (k + 1 + (m : Int)) = some (k + ((m + 1 : Nat) : Int))
    congr 1
    omega
theorem plcF_is {ls : List Lot} {st : List Int} {l : Nat} : ∀ {line : HH.Row} {p : Int} {o : Option Int}, PosR line → (∀ x ∈ line, 0 ≤ x.1) → plcF l line p o = (o <|> (posX l (expL ls st line) p).head?)
  | [], p, o, _, _ => by cases o <;> rfl
  | x :: r, p, o, h, g => by
    have px := h x (List.mem_cons_self ..)
    have gx := g x (List.mem_cons_self ..)
    obtain ⟨m, hm⟩ : ∃ m, x.2.toNat = m + 1 := ⟨x.2.toNat - 1, by omega⟩
    rw [plcF, plcF_is (ls := ls) (st := st) (fun y hy => h y (List.mem_cons_of_mem _ hy)) (fun y hy => g y (List.mem_cons_of_mem _ hy)), exp_cons, posX_app, List.length_replicate]
    have e : p + ((x.2.toNat : Nat) : Int) = p + x.2 := by omega
    rw [e, hm]
    by_cases c : x.1 = (l : Int)
    · have c2 : x.1.toNat = l := by omega
      obtain ⟨h1, h2⟩ := posX_rep (l := l) (y := (x.1.toNat, (st.getD x.1.toNat 0, lT ls x.1.toNat))) c2 m p
      rw [List.head?_append, h1]
      cases o with
      | none => rw [if_pos ⟨c, rfl⟩]; rfl
      | some i => rw [if_neg (fun z => by cases z.2)]; rfl
    · have c2 : x.1.toNat ≠ l := by omega
      rw [posX_rep_no (l := l) (y := (x.1.toNat, (st.getD x.1.toNat 0, lT ls x.1.toNat))) c2, if_neg (fun z => c z.1), List.nil_append]
theorem plcB_is {ls : List Lot} {st : List Int} {l : Nat} : ∀ {line : HH.Row} {p : Int} {o : Option Int}, PosR line → (∀ x ∈ line, 0 ≤ x.1) → plcB l line p o = ((posX l (expL ls st line) p).getLast? <|> o)
  | [], p, o, _, _ => by cases o <;> rfl
  | x :: r, p, o, h, g => by
    have px := h x (List.mem_cons_self ..)
    have gx := g x (List.mem_cons_self ..)
    obtain ⟨m, hm⟩ : ∃ m, x.2.toNat = m + 1 := ⟨x.2.toNat - 1, by omega⟩
    rw [plcB, plcB_is (ls := ls) (st := st) (fun y hy => h y (List.mem_cons_of_mem _ hy)) (fun y hy => g y (List.mem_cons_of_mem _ hy)), exp_cons, posX_app, List.length_replicate]
    have e : p + ((x.2.toNat : Nat) : Int) = p + x.2 := by omega
    rw [e, hm, List.getLast?_append]
    by_cases c : x.1 = (l : Int)
    · have c2 : x.1.toNat = l := by omega
      obtain ⟨h1, h2⟩ := posX_rep (l := l) (y := (x.1.toNat, (st.getD x.1.toNat 0, lT ls x.1.toNat))) c2 m p
      rw [h2, if_pos c]
      have : p + (m : Int) = p + x.2 - 1 := by omega
      rw [this]
      cases (posX l (expL ls st r) (p + x.2)).getLast? <;> rfl
    · have c2 : x.1.toNat ≠ l := by omega
      rw [posX_rep_no (l := l) (y := (x.1.toNat, (st.getD x.1.toNat 0, lT ls x.1.toNat))) c2, if_neg c]
      cases (posX l (expL ls st r) (p + x.2)).getLast? <;> rfl
theorem given_posX (l : Nat) : ∀ (X : List Cow) (f : Nat → Bool), (∀ p c, X[p]? = some c → f p = decide (c.1 = l)) → given X.length f (fun p => .int (p : Int)) = (posX l X 0).map V.int := by
  intro X f hf
  have key : ∀ m, m ≤ X.length → given m f (fun p => .int (p : Int)) = (posX l (X.take m) 0).map V.int := by
    intro m
    induction m with
    | zero => intro _; rfl
    | succ m ih =>
      intro hm
      have hc := List.getElem?_eq_getElem (show m < X.length by omega)
      have hf' := hf m _ hc
      rw [List.take_add_one, hc, posX_app, List.length_take, Nat.min_eq_left (by omega), List.map_append, ← ih (by omega)]
      show _ = _ ++ ((if (X[m]).1 = l then [(0 : Int) + (m : Int)] else []) ++ []).map V.int
      by_cases c : (X[m]).1 = l
      · rw [given_yes (by rw [hf']; exact decide_eq_true c), if_pos c, Int.zero_add]
        rfl
      · rw [given_no (by rw [hf']; exact decide_eq_false c), if_neg c]
        simp
  rw [key _ (Nat.le_refl _), List.take_length]
theorem all_stand {ls : List Lot} (fit : Fit ls) (pos : PosL ls) {i : Nat} (hi : i < ls.length) : ∃ x ∈ (endG ls ls.length).1, x.1 = (i : Int) := by
  have k := end_ok fit pos ls.length (Nat.le_refl _)
  have hb := (endG_facts ls ls.length).1
  have hm : 1 ≤ lM ls i := pos _ (List.mem_of_getElem? (lot_get hi))
  have h1 : (i : Nat) ∈ (sprC ls ls.length).map (·.1) := by
    refine List.mem_map.mpr ⟨(i, (lS ls i, lT ls i)), List.mem_flatMap.mpr ⟨i, List.mem_range.mpr hi, List.mem_replicate.mpr ⟨by omega, rfl⟩⟩, rfl⟩
  have h2 := k.s1.ids.mem_iff.mpr h1
  obtain ⟨c, hc, hci⟩ := List.mem_map.mp h2
  obtain ⟨x, hx, h3⟩ := List.mem_flatMap.mp hc
  obtain ⟨j, e, hj⟩ := hb x hx
  have := (List.mem_replicate.mp h3).2
  subst this
  refine ⟨x, hx, ?_⟩
  have : x.1.toNat = i := hci
  omega
theorem places_are {ls : List Lot} (fit : Fit ls) (pos : PosL ls) {E : List Cow} (s : Steps (tag 0 (sprR ls)) E) (n : Nf E) {l : Nat} (hl : l < ls.length) : ∃ a b, (posX l (rlL (ixN (ownL ls)) E) 0).head? = some a ∧ (posX l (rlL (ixN (ownL ls)) E) 0).getLast? = some b ∧ (placesG ls)[l]? = some (a, b) := by
  have k := end_ok fit pos ls.length (Nat.le_refl _)
  have hb := (endG_facts ls ls.length).1
  have hn : ∀ x ∈ (endG ls ls.length).1, 0 ≤ x.1 := fun x hx => by
    obtain ⟨j, e, _⟩ := hb x hx
    omega
  have st := all_stand fit pos hl
  have e1 := plcF_is (ls := ls) (st := (endG ls ls.length).2.1) (l := l) (p := 0) (o := none) k.pos hn
  have e2 := plcB_is (ls := ls) (st := (endG ls ls.length).2.1) (l := l) (p := 0) (o := none) k.pos hn
  rw [← ends_lots fit pos s n] at e1 e2
  obtain ⟨a, ha⟩ := plcF_some (l := l) (line := (endG ls ls.length).1) (p := 0) (o := none) (.inr st)
  obtain ⟨b, hb2⟩ := plcB_some (l := l) (line := (endG ls ls.length).1) (p := 0) (o := none) (.inr st)
  rw [ha] at e1
  rw [hb2] at e2
  refine ⟨a, b, ?_, ?_, ?_⟩
  · rw [e1]
    cases (posX l (rlL (ixN (ownL ls)) E) 0).head? <;> rfl
  · rw [e2]
    cases (posX l (rlL (ixN (ownL ls)) E) 0).getLast? <;> rfl
  · unfold placesG
    rw [List.getElem?_map, List.getElem?_range hl]
    show some ((plcF l _ 0 none).getD 0, (plcB l _ 0 none).getD 0) = _
    rw [ha, hb2]
    rfl
end HH
set_option maxHeartbeats 4000000
namespace HH
open PySem PySem.Spec PyProof.Rows L2 Evl RZ
def lotD (l : Lot) : PyData := .tuple [.int l.1, .int l.2.1, .int l.2.2]
section
variable {P : Addr → Prop} {K : PySem.W.Frag} {c k : Nat} {H H' : Hp} {σ : L2.St} {te ta tb : TE} {D : Ends} {v : V} {d : PyData}
theorem Da.lot {l : Lot} (hd : Da P K c H k v (lotD l)) : LotAt K H v l := by
  obtain ⟨k', a, xs, rfl, rfl, hs, hx⟩ := hd.tupAt
  have hl : xs.length = 3 := hx.1
  obtain ⟨x0, e0, h0, g0, r0⟩ := hx.at' (i := 0) (by omega)
  obtain ⟨x1, e1, h1, g1, r1⟩ := hx.at' (i := 1) (by omega)
  obtain ⟨x2, e2, h2, g2, r2⟩ := hx.at' (i := 2) (by omega)
  cases g0
  cases g1
  cases g2
  have q0 := r0.intAt
  have q1 := r1.intAt
  have q2 := r2.intAt
  subst q0 q1 q2
  refine ⟨a, rfl, ?_⟩
  match xs, hl with
  | [a, b, c], _ =>
    cases h0
    cases h1
    cases h2
    exact hs
end
def Fits (M : Int) (l : Lot) : Prop := -(10 ^ 12) < l.1 ∧ l.1 < 10 ^ 12 ∧ 0 ≤ l.2.1 ∧ l.2.1 < 10 ^ 12 ∧ 1 ≤ l.2.2 ∧ l.2.2 ≤ M
theorem Fits.le {M M' : Int} {l : Lot} (h : Fits M l) (e : M ≤ M') : Fits M' l := ⟨h.1, h.2.1, h.2.2.1, h.2.2.2.1, h.2.2.2.2.1, Int.le_trans h.2.2.2.2.2 e⟩
theorem step_fits {acc : List Lot} {l : Lot} {M N : Int} (h : ∀ x ∈ acc, Fits M x) (hl : Fits N l) (hM : 0 ≤ M) (hN : 0 ≤ N) : ∀ x ∈ packStep acc l, Fits (M + N) x := by
  obtain ⟨s, t, k⟩ := l
  cases c : alikeB acc s t with
  | true =>
    obtain ⟨pre, m, rfl⟩ := alike_ex c
    rw [step_alike]
    intro x hx
    rcases List.mem_append.mp hx with g | g
    · exact (h x (List.mem_append_left _ g)).le (by omega)
    · rw [List.mem_singleton.mp g]
      obtain ⟨a1, a2, a3, a4, a5, a6⟩ := h (s, t, m) (by simp)
      obtain ⟨b1, b2, b3, b4, b5, b6⟩ := hl
      exact ⟨a1, a2, a3, a4, by show 1 ≤ m + k; dsimp only at a5 b5; omega, by show m + k ≤ M + N; dsimp only at a6 b6; omega⟩
  | false =>
    rw [step_other c]
    intro x hx
    rcases List.mem_append.mp hx with g | g
    · exact (h x g).le (by omega)
    · rw [List.mem_singleton.mp g]
      exact hl.le (by omega)
theorem fold_fits {N : Int} (hN : 0 ≤ N) : ∀ (ls acc : List Lot) (M : Int), 0 ≤ M → (∀ x ∈ acc, Fits M x) → (∀ x ∈ ls, Fits N x) → ∀ x ∈ ls.foldl packStep acc, Fits (M + N * ls.length) x
  | [], acc, M, hM, h, _ => fun x hx => (h x hx).le (by simp)
  | l :: ls, acc, M, hM, h, g => fun x hx => by
    have := fold_fits hN ls (packStep acc l) (M + N) (by omega) (step_fits h (g l (List.mem_cons_self ..)) hM hN) (fun x hx => g x (List.mem_cons_of_mem _ hx)) x hx
    refine this.le ?_
    rw [List.length_cons, Int.natCast_add, Int.mul_add]
    show M + N + N * (ls.length : Int) ≤ M + (N * (ls.length : Int) + N * 1)
    omega
theorem packL_fits {N : Int} {ls : List Lot} (hN : 0 ≤ N) (h : ∀ x ∈ ls, Fits N x) : ∀ x ∈ packL ls, Fits (N * ls.length) x := fun x hx => by
  have := fold_fits hN ls [] 0 (by omega) (fun x hx => nomatch hx) h x hx
  exact this.le (by omega)
theorem packL_ne {ls : List Lot} (h : 0 < ls.length) : 0 < (packL ls).length := by
  have e := packL_take (k := ls.length - 1) (List.getElem?_eq_getElem (show ls.length - 1 < ls.length by omega))
  rw [show ls.length - 1 + 1 = ls.length by omega, List.take_length] at e
  rw [e]
  unfold packStep
  rw [List.length_append]
  show 0 < _ + 1
  omega
end HH
namespace HH
open PySem PySem.Spec PyProof.Rows L2 Evl RZ
end HH
namespace HH
open PySem PySem.Spec PyProof.Rows L2 Evl RZ
section
variable {P : Addr → Prop} {K : PySem.W.Frag} {n : Nat} {H : Hp} {σ : L2.St} {D : Ends}
end
end HH
set_option maxHeartbeats 4000000
namespace HH
open PySem PySem.Spec PyProof.Rows L2 Evl RZ
section
variable {K : PySem.W.Frag} {H0 H H' : Hp} {σ : L2.St} {te ta tb : TE} {D : Ends} {tz tu : TS} {g : TG}
theorem q_forSA {a : Addr} {xs : List V} (h : Ev te σ H (.ref a)) (e0 : Ex H0 H) (hs : SqA K H0 a xs) (Pv : Nat → L2.St → Hp → Prop) (h0 : ∀ H1, Ex H H1 → Pv 0 σ H1) (hl : ∀ i σ' H', i ≤ xs.length → Pv i σ' H' → Ex H0 H')
    (hb : ∀ i x σ' H', xs[i]? = some x → Pv i σ' H' → g x σ' H' fun σ2 H2 => tu { D with nx := Pv (i + 1), ct := Pv (i + 1), bk := tz D } σ2 H2) (hd : ∀ σ' H', Pv xs.length σ' H' → tz D σ' H') : tSeq (tFor (iSeqA K te) g tu) tz D σ H :=
  h H (Ex.refl H) _ fun H1 e1 => by
    rcases hs with hs | hs
    · exact ⟨a, xs, rfl, .inl ⟨ex_l (e0.trans e1) hs, for_list (D := { D with nx := tz D }) Pv (h0 H1 e1) (fun i σ' H' hi p => ex_l (hl i σ' H' hi p) hs) hb hd⟩⟩
    · exact ⟨a, xs, rfl, .inr ⟨ex_t (e0.trans e1) hs, for_tup (D := { D with nx := tz D }) Pv (h0 H1 e1) (fun i σ' H' hi p => ex_t (hl i σ' H' hi p) hs) hb hd⟩⟩
end
def spPackA (K : PySem.W.Frag) : Sp := fun vs H Q _ => ∃ (a : Addr) (us : List V) (ls : List Lot), vs = [.ref a] ∧ SqA K H a us ∧ LotsA K H us ls ∧ ls.length ≤ 1000 ∧ ∀ z H', Ex H H' → HerdAt K H' z (packL ls) → Q z H'
end HH
set_option maxHeartbeats 4000000
namespace HH
open PySem PySem.Spec PyProof.Rows L2 Evl RZ
theorem pickB (r : List Value) : slicePick r.toArray none none (some (-1)) = r.reverse.toArray := by
  unfold slicePick
  have hb : sliceBounds none none (some (-1)) r.toArray.size = ((r.length : Int) - 1, -1, -1) := by
    simp [sliceBounds]
  rw [hb]
  have hr : sliceRange ((r.length : Int) - 1) (-1) (-1) = (List.range r.length).map fun k => r.length - 1 - k := by
    unfold sliceRange
    have h1 : ¬ ((-1 : Int) > 0) := by decide
    by_cases h : (r.length : Int) - 1 > -1
    · have e : ((r.length : Int) - 1 - -1 - -1 - 1) / (- -1) = (r.length : Int) := by
        rw [show (- -1 : Int) = 1 by decide, Int.ediv_one]
        omega
      simp only [h1, if_false, h, if_true, e, Int.toNat_natCast]
      apply List.map_congr_left
      intro k hk
      have := List.mem_range.mp hk
      omega
    · have e : r.length = 0 := by omega
      rw [e]
      simp
  show ((sliceRange ((r.length : Int) - 1) (-1) (-1)).filterMap (r.toArray[·]?)).toArray = _
  rw [hr, PySem.W.krv_range, List.filterMap_reverse]
  have := PySem.W.krv_all r.toArray
  rw [List.size_toArray] at this
  rw [this]
theorem pickU (r : List Value) : slicePick r.toArray none none (some 1) = r.toArray := by
  unfold slicePick
  have hb : sliceBounds none none (some 1) r.toArray.size = (0, (r.length : Int), 1) := by
    simp [sliceBounds]
  rw [hb]
  have hr : sliceRange 0 (r.length : Int) 1 = List.range r.length := by
    unfold sliceRange
    by_cases h : (0 : Int) < (r.length : Int)
    · have e : ((r.length : Int) - 0 + 1 - 1) / 1 = (r.length : Int) := by
        rw [Int.ediv_one]
        omega
      simp only [show (1 : Int) > 0 by decide, if_true, h, e, Int.toNat_natCast]
      have : ∀ l : List Nat, l.map (fun (k : Nat) => ((0 : Int) + 1 * (k : Int)).toNat) = l := fun l => by
        induction l with
        | nil => rfl
        | cons x r ih => rw [List.map_cons, ih]; congr 1; omega
      exact this _
    · have e : r.length = 0 := by omega
      rw [e]
      simp
  show ((sliceRange 0 (r.length : Int) 1).filterMap (r.toArray[·]?)).toArray = _
  rw [hr]
  have := PySem.W.krv_all r.toArray
  rw [List.size_toArray] at this
  rw [this]
def tSlS (K : PySem.W.Frag) (te : TE) (ts : TO) : TE := fun σ H Q => te σ H fun x H1 => ts σ H1 fun o H2 => ∃ a xs, x = .ref a ∧ SqL K H2 a xs ∧ ((o = some 1 ∧ ∀ p, H2 p = none → Q (.ref p) (upd H2 p (.lst xs))) ∨ (o = some (-1) ∧ ∀ p, H2 p = none → Q (.ref p) (upd H2 p (.lst xs.reverse))))
theorem pe_slS {X : Cx} {e st : Expr} {te : TE} {ts : TO} {p3 pos : Pos} (he : PE X e te) (hst : PO X (some st) ts) : PE X (.Subscript e (.Slice none none (some st) p3) pos) (tSlS X.K te ts) := by
  refine ⟨fun pins s σ H Q I h => ?_⟩
  refine Subscript_ (thn (he.run pins s σ H _ I h) fun v s1 ⟨x, H1, I1, r1, q1⟩ => ?_)
  refine wpAny_Slice (thn (po_none.run pins s1 σ H1 (fun o H2 => o = none ∧ H2 = H1) I1 ⟨rfl, rfl⟩) fun vl s2 ⟨l, H2, I2, pl, el, e2⟩ => ?_)
  subst el e2
  refine thn (po_none.run pins s2 σ H2 (fun o H3 => o = none ∧ H3 = H2) I2 ⟨rfl, rfl⟩) fun vu s3 ⟨u, H3, I3, pu, eu, e3⟩ => ?_
  subst eu e3
  refine thn (hst.run pins s3 σ H3 _ I3 q1) fun vs s4 ⟨o, H4, I4, ps, q4⟩ => ?_
  obtain ⟨a, xs, ex, hx, q⟩ := q4
  subst ex
  cases r1
  have I5 : Inv X pins σ H4 { s4 with heap := s4.heap.push { cls := .type "slice", data := .fields #[vl, vu, vs] } } := I4.kept (t' := s4.toks) fun b ob q => Heap.get?_push_of_some _ q
  obtain ⟨its, r, ht, hz⟩ := I5.list hx
  have hlen := r.length
  show wpAny (model X.prog X.w) X.A (subscriptTail e (.Slice none none (some st) p3) (.ref a) (.ref s4.heap.objs.size)) (EP X pins σ Q) X.xe { s4 with heap := s4.heap.push { cls := .type "slice", data := .fields #[vl, vu, vs] } }
  refine tail_any (ops := [.ref a, .ref s4.heap.objs.size]) ht.isList.typeIs (PySem.slot_list_getitem.lookup) ?_ (by with_unfolding_all rfl)
  rcases q with ⟨rfl, q⟩ | ⟨rfl, q⟩
  · refine wpAny_getItem_list_slice ht.isList (Heap.IsSliceOf.new _ vl vu vs) pl pu ps (by decide) ?_ (by rw [List.size_toArray]; omega)
    rw [pickU]
    refine ⟨.ref _, _, I5.laid (t' := s4.toks) (o := .lst xs) (fun b ob q => Heap.get?_push_of_some _ q) (Nat.le_refl _) ?_, rfl, q _ (I5.hok.fresh (Nat.le_refl _))⟩
    exact ⟨hz, _, 0, r, Heap.get?_push_size _ rfl⟩
  · refine wpAny_getItem_list_slice ht.isList (Heap.IsSliceOf.new _ vl vu vs) pl pu ps (by decide) ?_ (by rw [List.size_toArray]; omega)
    rw [pickB]
    refine ⟨.ref _, _, I5.laid (t' := s4.toks) (o := .lst xs.reverse) (fun b ob q => Heap.get?_push_of_some _ q) (Nat.le_refl _) ?_, rfl, q _ (I5.hok.fresh (Nat.le_refl _))⟩
    exact ⟨by rw [List.length_reverse]; exact hz, _, 0, r.reverse, Heap.get?_push_size _ rfl⟩
section
variable {K : PySem.W.Frag} {H : Hp} {σ : L2.St} {te ta tb : TE}
theorem el_slS {xs : List V} {sg : Bool} (h : EvL te σ H xs) (hs : ∀ H1, Ex H H1 → Ev ta σ H1 (.int (if sg then 1 else -1))) : EvL (tSlS K te (tPart ta)) σ H (if sg then xs else xs.reverse) := fun H1 e1 Q q => h H1 e1 _ fun p H2 hp e2 g => hs H2 (e1.trans e2) H2 (Ex.refl _) _ fun H3 e3 => ⟨_, rfl, p, xs, rfl, sq_of (e3 _ _ g), by
  cases sg with
  | true => exact .inl ⟨rfl, fun r hr => q r _ (fresh_back (e2.trans e3) hr) ((e2.trans e3).trans (Ex.new hr)) upd_same⟩
  | false => exact .inr ⟨rfl, fun r hr => q r _ (fresh_back (e2.trans e3) hr) ((e2.trans e3).trans (Ex.new hr)) upd_same⟩⟩
theorem el_repI {v : V} {n : Int} (h : Ev ta σ H v) (h2 : Ev tb σ H (.int n)) (h0 : 0 ≤ n) (hn : n ≤ 1000) : EvL (tOp rRep (tLst (tCons ta tNil)) tb) σ H (List.replicate n.toNat v) := fun H1 e1 Q q =>
  h H1 e1 _ fun H2 e2 => ⟨by show 1 ≤ sizeLine; decide, fun r hr => by
    have e3 := Ex.new (o := .lst [v]) hr
    refine h2 _ ((e1.trans e2).trans e3) _ fun H4 e4 => ⟨r, n, [v], rfl, rfl, e4 _ _ upd_same, by omega, by omega, sz_of (by show 1 * n.toNat ≤ 100000; omega), fun s hs => ?_⟩
    have e5 := Ex.new (o := .lst (List.replicate n.toNat [v]).flatten) hs
    have e : (List.replicate n.toNat [v]).flatten = List.replicate n.toNat v := by
      generalize n.toNat = m
      induction m with
      | zero => rfl
      | succ m ih =>
        rw [List.replicate_succ, List.flatten_cons, ih]
        rfl
    rw [e] at e5 ⊢
    exact q s _ (fresh_back ((e2.trans e3).trans e4) hs) (((e2.trans e3).trans e4).trans e5) upd_same⟩
end
end HH
set_option maxHeartbeats 4000000
namespace K78
open PySem PySem.Spec PyProof.Rows L2 Evl HH RZ
def topS (i : Nat) : Stmt := PySem.Challenge.pw_hayherd_k78_whole_lots_beside_each_one.main.body.getD i (.Pass ⟨0, 0, 0, 0⟩)
abbrev s_is_number : Stmt := topS 1
theorem sc_is_number : FnScope ["thing"] ["thing"] (defScope s_is_number) := ⟨rfl, rfl, rfl, by decide +kernel, rfl, by decide +kernel, by decide +kernel⟩
abbrev s_is_lot : Stmt := topS 3
theorem sc_is_lot : FnScope ["thing", "part"] ["thing"] (defScope s_is_lot) := ⟨rfl, rfl, rfl, by decide +kernel, rfl, by decide +kernel, by decide +kernel⟩
abbrev s_is_herd : Stmt := topS 4
theorem sc_is_herd : FnScope ["thing", "at", "part"] ["thing"] (defScope s_is_herd) := ⟨rfl, rfl, rfl, by decide +kernel, rfl, by decide +kernel, by decide +kernel⟩
abbrev s_together : Stmt := topS 5
theorem sc_together : FnScope ["lots", "herd", "strength", "toll", "many", "alike", "before"] ["lots"] (defScope s_together) := ⟨rfl, rfl, rfl, by decide +kernel, rfl, by decide +kernel, by decide +kernel⟩
abbrev s_herd_of : Stmt := topS 6
theorem sc_herd_of : FnScope ["row", "strength", "toll"] ["row"] (defScope s_herd_of) := ⟨rfl, rfl, rfl, by decide +kernel, rfl, by decide +kernel, by decide +kernel⟩
abbrev s_many_passed : Stmt := topS 7
theorem sc_many_passed : FnScope ["spare", "toll", "many"] ["spare", "toll", "many"] (defScope s_many_passed) := ⟨rfl, rfl, rfl, by decide +kernel, rfl, by decide +kernel, by decide +kernel⟩
abbrev s_pass_lots : Stmt := topS 8
theorem sc_pass_lots : FnScope ["line", "strengths", "herd", "who", "place", "told", "lot", "many", "toll", "some"] ["line", "strengths", "herd", "who"] (defScope s_pass_lots) := ⟨rfl, rfl, rfl, by decide +kernel, rfl, by decide +kernel, by decide +kernel⟩
abbrev s_herd_end : Stmt := topS 9
theorem sc_herd_end : FnScope ["herd", "strengths", "line", "told", "who", "strength", "toll", "many"] ["herd"] (defScope s_herd_end) := ⟨rfl, rfl, rfl, by decide +kernel, rfl, by decide +kernel, by decide +kernel⟩
abbrev s_herd_last : Stmt := topS 10
theorem sc_herd_last : FnScope ["herd", "line", "strengths", "told", "lot", "many"] ["herd"] (defScope s_herd_last) := ⟨rfl, rfl, rfl, by decide +kernel, rfl, by decide +kernel, by decide +kernel⟩
abbrev s_fall_lots : Stmt := topS 11
theorem sc_fall_lots : FnScope ["line", "strengths", "herd", "who", "place", "strength", "toll", "many"] ["line", "strengths", "herd", "who"] (defScope s_fall_lots) := ⟨rfl, rfl, rfl, by decide +kernel, rfl, by decide +kernel, by decide +kernel⟩
abbrev s_herd_first : Stmt := topS 12
theorem sc_herd_first : FnScope ["herd", "strengths", "line", "who", "strength", "toll", "many", "lot"] ["herd"] (defScope s_herd_first) := ⟨rfl, rfl, rfl, by decide +kernel, rfl, by decide +kernel, by decide +kernel⟩
abbrev s_herd_passed : Stmt := topS 13
theorem sc_herd_passed : FnScope ["herd"] ["herd"] (defScope s_herd_passed) := ⟨rfl, rfl, rfl, by decide +kernel, rfl, by decide +kernel, by decide +kernel⟩
abbrev s_herd_passings : Stmt := topS 14
theorem sc_herd_passings : FnScope ["herd", "passed", "strength", "toll", "many"] ["herd"] (defScope s_herd_passings) := ⟨rfl, rfl, rfl, by decide +kernel, rfl, by decide +kernel, by decide +kernel⟩
abbrev s_herd_places : Stmt := topS 15
theorem sc_herd_places : FnScope ["herd", "foremost", "hindmost", "place", "lot", "many"] ["herd"] (defScope s_herd_places) := ⟨rfl, rfl, rfl, by decide +kernel, rfl, by decide +kernel, by decide +kernel⟩
abbrev s_pass_all : Stmt := topS 17
theorem sc_pass_all : FnScope ["line", "strengths", "tolls", "who", "place"] ["line", "strengths", "tolls", "who"] (defScope s_pass_all) := ⟨rfl, rfl, rfl, by decide +kernel, rfl, by decide +kernel, by decide +kernel⟩
abbrev s_fall_all : Stmt := topS 18
theorem sc_fall_all : FnScope ["line", "strengths", "tolls", "who", "place"] ["line", "strengths", "tolls", "who"] (defScope s_fall_all) := ⟨rfl, rfl, rfl, by decide +kernel, rfl, by decide +kernel, by decide +kernel⟩
abbrev s_row_and_order : Stmt := topS 19
theorem sc_row_and_order : FnScope ["line", "strengths", "tolls", "who"] ["line", "strengths", "tolls"] (defScope s_row_and_order) := ⟨rfl, rfl, rfl, by decide +kernel, rfl, by decide +kernel, by decide +kernel⟩
abbrev s_last : Stmt := topS 20
theorem sc_last : FnScope ["row", "strengths", "tolls", "line", "who", "strength", "toll"] ["row"] (defScope s_last) := ⟨rfl, rfl, rfl, by decide +kernel, rfl, by decide +kernel, by decide +kernel⟩
abbrev s_first : Stmt := topS 21
theorem sc_first : FnScope ["row", "strengths", "tolls", "line", "who", "strength", "toll"] ["row"] (defScope s_first) := ⟨rfl, rfl, rfl, by decide +kernel, rfl, by decide +kernel, by decide +kernel⟩
abbrev s_law_dip : Stmt := topS 23
theorem sc_law_dip : FnScope ["_law_script", "_law_k", "_law_cell"] ["_law_script", "_law_k"] (defScope s_law_dip) := ⟨rfl, rfl, rfl, by decide +kernel, rfl, by decide +kernel, by decide +kernel⟩
abbrev s_law_take : Stmt := topS 24
theorem sc_law_take : FnScope ["_law_box", "_law_many", "_law_found", "_law_once", "_law_pair"] ["_law_box", "_law_many"] (defScope s_law_take) := ⟨rfl, rfl, rfl, by decide +kernel, rfl, by decide +kernel, by decide +kernel⟩
abbrev s_law_folded : Stmt := topS 25
theorem sc_law_folded : FnScope ["_law_script", "_law_many", "_law_cells", "_law_k", "_law_cell"] ["_law_script", "_law_many"] (defScope s_law_folded) := ⟨rfl, rfl, rfl, by decide +kernel, rfl, by decide +kernel, by decide +kernel⟩
abbrev s_law_same : Stmt := topS 26
theorem sc_law_same : FnScope ["_law_found", "_law_due", "_law_one", "_law_two"] ["_law_found", "_law_due"] (defScope s_law_same) := ⟨rfl, rfl, rfl, by decide +kernel, rfl, by decide +kernel, by decide +kernel⟩
abbrev s_law_of : Stmt := topS 27
theorem sc_law_of : FnScope ["_law_box", "_law_pool"] ["_law_box", "_law_pool"] (defScope s_law_of) := ⟨rfl, rfl, rfl, by decide +kernel, rfl, by decide +kernel, by decide +kernel⟩
abbrev s_law_row : Stmt := topS 28
theorem sc_law_row : FnScope ["_law_box", "_law_most", "_law_many", "_law_way", "_law_rise", "_law_high", "_law_dear", "_law_base", "_law_toll", "_law_found", "_law_place"] ["_law_box", "_law_most"] (defScope s_law_row) := ⟨rfl, rfl, rfl, by decide +kernel, rfl, by decide +kernel, by decide +kernel⟩
abbrev s_law_packed : Stmt := topS 29
theorem sc_law_packed : FnScope ["_law_lots", "_law_found", "_law_strength", "_law_toll", "_law_many"] ["_law_lots"] (defScope s_law_packed) := ⟨rfl, rfl, rfl, by decide +kernel, rfl, by decide +kernel, by decide +kernel⟩
abbrev s_law_herd : Stmt := topS 30
theorem sc_law_herd : FnScope ["_law_box", "_law_size", "_law_most", "_law_row_here", "_law_strength", "_law_toll"] ["_law_box", "_law_size", "_law_most"] (defScope s_law_herd) := ⟨rfl, rfl, rfl, by decide +kernel, rfl, by decide +kernel, by decide +kernel⟩
abbrev s_law_spread : Stmt := topS 31
theorem sc_law_spread : FnScope ["_law_herd_here", "_law_found", "_law_strength", "_law_toll", "_law_many"] ["_law_herd_here"] (defScope s_law_spread) := ⟨rfl, rfl, rfl, by decide +kernel, rfl, by decide +kernel, by decide +kernel⟩
abbrev s_law_owners : Stmt := topS 32
theorem sc_law_owners : FnScope ["_law_herd_here", "_law_found", "_law_number", "_law_lot"] ["_law_herd_here"] (defScope s_law_owners) := ⟨rfl, rfl, rfl, by decide +kernel, rfl, by decide +kernel, by decide +kernel⟩
abbrev s_law_led : Stmt := topS 33
theorem sc_law_led : FnScope ["_law_row_here", "_law_sign", "_law_here", "_law_order", "_law_pairs", "_law_who", "_law_strength", "_law_toll", "_law_at"] ["_law_row_here", "_law_sign"] (defScope s_law_led) := ⟨rfl, rfl, rfl, by decide +kernel, rfl, by decide +kernel, by decide +kernel⟩
abbrev s_law_right : Stmt := topS 34
theorem sc_law_right : FnScope ["_law_box", "_law_turn", "_law_herd_here", "_law_more", "_law_row_here", "_law_owners_here", "_law_there", "_law_order", "_law_pairs", "_law_behind", "_law_often", "_law_spots", "_law_due", "_law_own", "_law_begun", "_law_ends", "_law_pair", "_law_who", "_law_number", "_law_strength", "_law_toll", "_law_many", "_law_at", "_law_some", "_law_beast", "_law_owner"] ["_law_box"] (defScope s_law_right) := ⟨rfl, rfl, rfl, by decide +kernel, rfl, by decide +kernel, by decide +kernel⟩
abbrev s_law : Stmt := topS 35
theorem sc_law : FnScope ["_law_script", "_law_cells", "_law_k"] ["_law_script"] (defScope s_law) := ⟨rfl, rfl, rfl, by decide +kernel, rfl, by decide +kernel, by decide +kernel⟩
end K78
set_option maxHeartbeats 4000000
namespace K78
open PySem PySem.Spec PyProof.Rows L2 Evl HH RZ
section
variable {P : Program} {w : World} {K : PySem.W.Frag} {mg : Str → Option Value} {base : Heap}
theorem ok_many_passed {f : Addr} {fd : FuncData} (F : FnP K "many_passed" s_many_passed f fd) (g : mg "many_passed" = some (.ref f)) (b : Binds K fd ["spare", "toll", "many"] []) (m_min : mg "min" = none) : Has P w K mg base 1 "many_passed" ["spare", "toll", "many"] spManyP f fd := by
  refine ⟨F.ok sc_many_passed (fun vs H Q E h => ?_) (fun cdv A outer s H vs Q E hr h => ?_), g, F.kp, b⟩
  · obtain ⟨a, b, c, rfl, _⟩ := h
    rfl
  · obtain ⟨a, b, c, rfl, h0, h1, q⟩ := h
    refine ⟨_, PSs.nox (pss_cons (ps_if (pt_cmpR op_le (pv 0) pe_int (nomark _)) (pss_one (ps_ret pe_int)) pss_nil)
      (pss_one (ps_ret (pe_ifExp (pt_cmpR op_eq (pv 1) pe_int (nomark _)) (pv 2) (pe_callB (call_min2 rfl) (by rfl) m_min (by decide +kernel) (pa_cons (pv 2) (pa_cons (pe_op op_fdivW (pe_op op_sub (pv 0) pe_int) (pv 1)) pa_nil))))))), ?_⟩
    refine q_when (b := decide (a ≤ 0)) (et_is (et_test (ev_op (ev_var rfl) ev_c rv_I0)) rfl) (fun hd H1 e1 => s_ret ev_c fun H2 e2 => ?_) (fun hd H1 e1 => ?_)
    · have := q H2 (e1.trans e2)
      unfold manyP at this
      rw [if_pos (of_decide_eq_true hd)] at this
      exact this
    · have hd := of_decide_eq_false hd
      refine s_ret (v := .int (manyP a b c)) (ev_if (b := decide (b = 0)) (et_is (et_test (ev_op (ev_var rfl) ev_c (rv_eq rfl))) (by simp)) (fun hz => ?_) fun hz => ?_) fun H2 e2 => q H2 (e1.trans e2)
      · refine ev_is (ev_var rfl) ?_
        unfold manyP
        rw [if_neg hd, if_pos (of_decide_eq_true hz)]
      · have hz := of_decide_eq_false hz
        refine ev_is (ev_cb (z := .int (if (a - 1) / b < c then (a - 1) / b else c)) (ea_cons (ev_var rfl) (ea_cons (ev_op (ev_op (ev_var rfl) ev_c rv_I0) (ev_var rfl) (rv_I (divW_okW (by omega) h1))) ea_nil)) (fun H3 e3 Q k => ⟨_, _, rfl, k H3 (Ex.refl H3)⟩)) ?_
        unfold manyP
        rw [if_neg hd, if_neg hz]
theorem ok_pass_lots {f f1 : Addr} {fd fd1 : FuncData} (F : FnP K "pass_lots" s_pass_lots f fd) (g : mg "pass_lots" = some (.ref f)) (b : Binds K fd ["line", "strengths", "herd", "who"] []) (h_many_passed : Has P w K mg base 1 "many_passed" ["spare", "toll", "many"] spManyP f1 fd1) (m_len : mg "len" = none) : Has P w K mg base 2 "pass_lots" ["line", "strengths", "herd", "who"] (spPassLots K) f fd := by
  refine ⟨F.ok sc_pass_lots (fun vs H Q E h => ?_) (fun cdv A outer s H vs Q E hr h => ?_), g, F.kp, b⟩
  · obtain ⟨l, sa, v, us, line, st, ls, w, rfl, _⟩ := h
    rfl
  · obtain ⟨l, sa, v, us, line, st, ls, w, rfl, hl, bs, hs, ne, hv, ft, hst, hw, bel, len, q⟩ := h
    refine ⟨_, PSs.nox (pss_cons (ps_set (i := 4) sc_pass_lots.nd rfl (.inl rfl) (pe_callB call_len_seq (by rfl) m_len PySem.boot_len (pa_cons (pv 0) pa_nil)))
      (pss_cons (ps_set (i := 5) sc_pass_lots.nd rfl (.inl rfl) pe_int)
      (pss_cons (ps_while PassesOwn.never (pt_cmpR op_gt (pv 4) pe_int (nomark _)) (pss_cons (ps_asg (pe_ix ix_list (pv 0) (pe_op op_sub (pv 4) pe_int) (fun _ _ => rfl)) (pg_tup rfl (pgs_cons (pg_name (i := 6) sc_pass_lots.nd rfl (Or.inl rfl)) (pgs_cons (pg_name (i := 7) sc_pass_lots.nd rfl (Or.inl rfl)) pgs_nil))))
      (pss_cons (ps_set (i := 8) sc_pass_lots.nd rfl (.inl rfl) (pe_ix ix_tup (pe_ix ix_tup (pv 2) (pv 6) (fun _ _ => rfl)) pe_int (fun _ _ => rfl)))
      (pss_cons (ps_set (i := 9) sc_pass_lots.nd rfl (.inl rfl) (pe_call h_many_passed.G (hr.mono (by decide)) (by rfl) h_many_passed.g h_many_passed.kp h_many_passed.b .nil pass0 (pa_cons (pe_op op_sub (pe_ix ix_list (pv 1) (pv 3) (fun _ _ => rfl)) (pe_ix ix_list (pv 1) (pv 6) (fun _ _ => rfl))) (pa_cons (pv 8) (pa_cons (pv 7) pa_nil)))))
      (pss_cons (ps_augS (pv 1) (pv 3) get_listN (pe_op op_mul (pv 9) (pv 8)) ip_sub set_list)
      (pss_cons (ps_aug (i := 5) sc_pass_lots.nd rfl (.inl rfl) (pv 9) ip_add)
      (pss_cons (ps_if (pt_cmpR op_lt (pv 9) (pv 7) (nomark _)) (pss_cons (ps_if (pt_cmpR op_gt (pv 9) pe_int (nomark _)) (pss_cons (ps_asg (pe_tup (pa_cons (pv 6) (pa_cons (pe_op op_sub (pv 7) (pv 9)) pa_nil))) (pg_sub (pv 0) (pe_op op_sub (pv 4) pe_int) set_list))
      (pss_one (ps_expr (pe_bm PySem.F.plainAttrs_list PySem.F.slot_list_insert PySem.F.type_list_insert mt_insert (pv 0) (pa_cons (pv 4) (pa_cons (pe_tup (pa_cons (pv 6) (pa_cons (pv 9) pa_nil))) pa_nil)))))) pss_nil)
      (pss_one ps_break)) pss_nil)
      (pss_one (ps_aug (i := 4) sc_pass_lots.nd rfl (.inl rfl) pe_int ip_sub)))))))))
      (pss_cons (ps_expr (pe_bm PySem.F.plainAttrs_list PySem.F.slot_list_insert PySem.F.type_list_insert mt_insert (pv 0) (pa_cons (pv 4) (pa_cons (pe_tup (pa_cons (pv 3) (pa_cons (pe_ix ix_tup (pe_ix ix_tup (pv 2) (pv 3) (fun _ _ => rfl)) pe_int (fun _ _ => rfl)) pa_nil))) pa_nil))))
      (pss_one (ps_ret (pv 5))))))), ?_⟩
    have lw : w < st.length := by omega
    refine q_asg (ev_len (K := K) (ev_var rfl) (sq_of hl)) fun H1 e1 => ?_
    refine q_asg ev_c fun H2 e2 => ?_
    refine s_at [some (.ref l), some (.ref sa), some v, some (.int (w : Int)), some (.int (us.length : Int)), some (.int 0), none, none, none, none] rfl ?_
    have fin : ∀ (A C : HH.Row) (s t : Int) (y6 y7 y8 y9 : Option V) (us1 : List V) (H1 : Hp), H1 l = some (.lst us1) → BeastsT H1 us1 (A ++ C) → H1 sa = some (.lst ((st.set w s).map V.int)) → ExB2 l sa H H1 → A.length + C.length ≤ 2000 → (A ++ ((w : Int), lM ls w) :: C, s, t) = goL st ls w line.reverse [] (st.getD w 0) 0 → tSeq (tDrop (tBM K "list" (fun x vs H Q => ∃ (l : Addr) (xs : List V) (i : Int) (y : V), x = .ref l ∧ vs = [.int i, y] ∧ H l = some (.lst xs) ∧ xs.length < sizeLine ∧ 0 ≤ i ∧ i < 2 ^ 63 ∧ Q .non (upd H l (.lst (xs.take i.toNat ++ [y] ++ xs.drop i.toNat)))) (tVar 0) (tCons (tVar 4) (tCons (tTup (tCons (tVar 3) (tCons (tOp (rIxT K) (tOp (rIxT K) (tVar 2) (tVar 3)) (tC (.int 2))) tNil))) tNil)))) (tRet (tVar 5)) { nx := fun _ H' => Q .non H', rt := Q } [some (.ref l), some (.ref sa), some v, some (.int (w : Int)), some (.int (A.length : Int)), some (.int t), y6, y7, y8, y9] H1 := fun A C s t y6 y7 y8 y9 us1 H1 g1 b1 gs x1 hlen e => by
      obtain ⟨u1, u2, rfl, bA, bC⟩ := All2.split b1
      have lA := bA.len
      have lC := bC.len
      have hv1 := hv.ex2 x1 hl hs
      refine ⟨.ref l, rfl, .inl ⟨rfl, _, sq_of g1⟩, .int (A.length : Int), rfl, .int (w : Int), rfl, ?_⟩
      refine (ev_lotM (K := K) (ev_var rfl) (ev_var rfl) hv1 hw) H1 (Ex.refl H1) _ fun H2 e2 => ⟨by show 2 ≤ sizeLine; decide, fun T hT => ?_⟩
      have e3 := e2.trans (Ex.new (o := .tup [V.int (w : Int), .int (lM ls w)]) hT)
      have g3 : (upd H2 T (.tup [V.int (w : Int), .int (lM ls w)])) T = some (.tup [V.int (w : Int), .int (lM ls w)]) := upd_same
      generalize upd H2 T (.tup [V.int (w : Int), .int (lM ls w)]) = H3 at e3 g3
      refine ⟨l, u1 ++ u2, (A.length : Int), .ref T, rfl, rfl, e3 _ _ g1, sz_lt (by rw [List.length_append]; omega), by omega, by omega, ?_⟩
      refine ⟨.int t, rfl, ?_⟩
      have q' := q
      rw [← e] at q'
      have ex : (u1 ++ u2).take ((A.length : Nat) : Int).toNat ++ [V.ref T] ++ (u1 ++ u2).drop ((A.length : Nat) : Int).toNat = u1 ++ .ref T :: u2 := by
        rw [Int.toNat_natCast, ← lA, List.take_left, List.drop_left]
        simp
      rw [ex]
      refine q' _ _ ((x1.trans (.of e3)).fst) upd_same ?_ ?_
      · refine BeastsT.exB' (q := l) (All2.app (BeastsT.ex' bA e3) (.cons ⟨T, rfl, g3⟩ (BeastsT.ex' bC e3))) (ExB.refl _ _).upd (e3 _ _ g1)
      · rw [upd_ne (Ne.symm ne)]
        exact e3 _ _ gs
    refine q_while (fun m σ' H' => ∃ (r B : HH.Row) (s t : Int) (y6 y7 y8 y9 : Option V), m = r.length ∧ σ' = [some (.ref l), some (.ref sa), some v, some (.int (w : Int)), some (.int (r.length : Int)), some (.int t), y6, y7, y8, y9] ∧ line = r.reverse ++ B ∧ goL st ls w r B s t = goL st ls w line.reverse [] (st.getD w 0) 0 ∧ H' sa = some (.lst ((st.set w s).map V.int)) ∧ ExB sa H H') line.length ?_ (fun m σ' H' hW => ?_)
    · refine ⟨line.reverse, [], st.getD w 0, 0, none, none, none, none, by rw [List.length_reverse], by rw [List.length_reverse, ← bs.len], by simp, rfl, ?_, .of (e1.trans e2)⟩
      have : st.set w (st.getD w 0) = st := set_self (by rw [List.getElem?_eq_getElem lw, List.getD_eq_getElem?_getD, List.getElem?_eq_getElem lw]; rfl)
      rw [this]
      exact (e1.trans e2) _ _ hs
    · obtain ⟨r, B, s, t, y6, y7, y8, y9, rfl, rfl, hline, hgo, hsa, x1⟩ := hW
      have hl' := x1 _ _ ne hl
      have bs' : BeastsT H' us line := BeastsT.exB' bs x1 hs
      have hv' := hv.exL x1 hs
      have x2 : ExB2 l sa H H' := fun c o n1 n2 h => x1 c o n2 h
      have llen : r.length + B.length ≤ 1000 := by
        rw [hline, List.length_append, List.length_reverse] at len
        exact len
      cases r with
      | nil =>
        refine ⟨false, et_is (et_test (ev_op (ev_var rfl) ev_c rv_I0)) rfl, (fun z => by cases z), fun _ H3 e3 => ?_⟩
        refine fin [] B s t y6 y7 y8 y9 us H3 (e3 _ _ hl') ?_ (e3 _ _ hsa) (x2.trans (.of e3)) (by simp only [List.length_nil] at llen ⊢; omega) hgo
        rw [hline] at bs'
        exact BeastsT.ex' bs' e3
      | cons x r =>
        have hA : ((x :: r).length : Int) = ((r.reverse ++ [x]).length : Int) := by
          simp
        have hlr : ((x :: r).length : Int) - 1 = (r.length : Int) := by
          rw [List.length_cons]
          omega
        have hxl : line[r.length]? = some x := by
          rw [hline, List.reverse_cons, List.append_assoc, List.getElem?_append_right (by rw [List.length_reverse]; omega), List.length_reverse, Nat.sub_self]
          rfl
        obtain ⟨j, hj, hjw⟩ := bel x (List.mem_of_getElem? hxl)
        obtain ⟨u, hu⟩ : ∃ u, us[r.length]? = some u := ⟨_, List.getElem?_eq_getElem (by rw [bs.len]; exact (List.getElem?_eq_some_iff.mp hxl).1)⟩
        obtain ⟨b, hb, p, rfl, hp⟩ := bs'.at' hu
        rw [hxl] at hb
        cases hb
        have hjs : j < st.length := by omega
        have jw : j ≠ w := by omega
        refine ⟨true, et_is (et_test (ev_op (ev_var rfl) ev_c rv_I0)) (decide_eq_true (by rw [List.length_cons]; omega)), fun _ H3 e3 => ?_, fun z => by cases z⟩
        refine ⟨fun σ2 H2 => ∃ m', m' < (x :: r).length ∧ ∃ (r B : HH.Row) (s t : Int) (y6 y7 y8 y9 : Option V), m' = r.length ∧ σ2 = [some (.ref l), some (.ref sa), some v, some (.int (w : Int)), some (.int (r.length : Int)), some (.int t), y6, y7, y8, y9] ∧ line = r.reverse ++ B ∧ goL st ls w r B s t = goL st ls w line.reverse [] (st.getD w 0) 0 ∧ H2 sa = some (.lst ((st.set w s).map V.int)) ∧ ExB sa H H2, fun σ2 H2 h => h, ?_⟩
        refine q_asgT2 (K := K) (p := p) (x := .int x.1) (y := .int x.2) (ev_op (ev_var rfl) (ev_is (ev_op (ev_var rfl) ev_c rv_I0) (by rw [hlr])) (rv_ixL (K := K) (sq_of (e3 _ _ hl')) (atI_nat hu))) (st_of (e3 _ _ hp)) fun H4 e4 => ?_
        refine s_at [some (.ref l), some (.ref sa), some v, some (.int (w : Int)), some (.int ((x :: r).length : Int)), some (.int t), some (.int x.1), some (.int x.2), y8, y9] rfl ?_
        have e34 := e3.trans e4
        refine q_asg (ev_lotT (K := K) (i := j) (ev_var rfl) (ev_var (by rw [← hj]; rfl)) (hv'.ex e34) (by omega)) fun H5 e5 => ?_
        refine s_at [some (.ref l), some (.ref sa), some v, some (.int (w : Int)), some (.int ((x :: r).length : Int)), some (.int t), some (.int x.1), some (.int x.2), some (.int (lT ls j)), y9] rfl ?_
        have e35 := e34.trans e5
        have hsa5 := e35 _ _ hsa
        have sw : atI ((st.set w s).map V.int) (w : Int) = some (.int s) := by
          have := getD_at (st := st.set w s) (i := w) (by rw [List.length_set]; exact lw)
          rw [getD_set lw, if_pos rfl] at this
          exact this
        have sj : atI ((st.set w s).map V.int) (j : Int) = some (.int (st.getD j 0)) := by
          have := getD_at (st := st.set w s) (i := j) (by rw [List.length_set]; exact hjs)
          rw [getD_set lw, if_neg (Ne.symm jw)] at this
          exact this
        have ft' := ft.at' (i := j) (by omega)
        have ej : x.1.toNat = j := by rw [hj]; rfl
        refine q_asg (v := .int (manyP (s - st.getD j 0) (lT ls j) x.2)) (ev_call (ea_cons (ev_op (ev_op (ev_var rfl) (ev_var rfl) (rv_ixL (K := K) (sq_of hsa5) sw)) (ev_op (ev_var rfl) (ev_var rfl) (rv_ixL (K := K) (sq_of hsa5) (by rw [hj]; exact sj))) rv_I0) (ea_cons (ev_var rfl) (ea_cons (ev_var rfl) ea_nil))) fun H6 e6 Q k E => ⟨_, _, _, rfl, ft'.1, ft'.2.1, k⟩) fun H6 e6 => ?_
        refine s_at [some (.ref l), some (.ref sa), some v, some (.int (w : Int)), some (.int ((x :: r).length : Int)), some (.int t), some (.int x.1), some (.int x.2), some (.int (lT ls j)), some (.int (manyP (s - st.getD j 0) (lT ls j) x.2))] rfl ?_
        have e36 := e35.trans e6
        have hsa6 := e36 _ _ hsa
        rw [goL_cons, ej] at hgo
        generalize manyP (s - st.getD j 0) (lT ls j) x.2 = k at hgo ⊢
        have lset : (st.set w s).length = st.length := List.length_set ..
        refine ⟨.ref sa, rfl, .int (w : Int), rfl, sa, _, w, .int s, rfl, rfl, hsa6, getI (set_at (List.getElem?_eq_getElem lw)), ?_⟩
        have ev : Ev (tOp (rI CMul fun i j => .int (i * j)) (tVar 9) (tVar 8)) [some (.ref l), some (.ref sa), some v, some (.int (w : Int)), some (.int ((x :: r).length : Int)), some (.int t), some (.int x.1), some (.int x.2), some (.int (lT ls j)), some (.int k)] H6 (.int (k * lT ls j)) := ev_op (ev_var rfl) (ev_var rfl) (rv_I (.inr ⟨by omega, by omega⟩))
        refine ev H6 (Ex.refl H6) _ fun H7 e7 => ⟨s, k * lT ls j, rfl, rfl, sa, _, (w : Int), w, rfl, rfl, e7 _ _ hsa6, ixN_nat (by rw [List.length_map, List.length_set]; exact lw), ?_⟩
        have e37 := e36.trans e7
        have x7 : ExB sa H (upd H7 sa (.lst (((st.set w s).map V.int).set w (.int (s - k * lT ls j))))) := (x1.trans (.of e37)).upd
        have gs7 : (upd H7 sa (.lst (((st.set w s).map V.int).set w (.int (s - k * lT ls j))))) sa = some (.lst ((st.set w (s - k * lT ls j)).map V.int)) := by
          rw [upd_same, ← List.map_set, List.set_set]
        have gl7 : (upd H7 sa (.lst (((st.set w s).map V.int).set w (.int (s - k * lT ls j))))) l = some (.lst us) := x7 _ _ ne hl
        have b7 : BeastsT (upd H7 sa (.lst (((st.set w s).map V.int).set w (.int (s - k * lT ls j))))) us line := BeastsT.exB' bs x7 hs
        have hv7 := hv.exL x7 hs
        generalize upd H7 sa (.lst (((st.set w s).map V.int).set w (.int (s - k * lT ls j)))) = H8 at x7 gs7 gl7 b7 hv7
        dsimp only
        refine q_aug (f := fun i j => i + j) (b := k) rfl (ev_var rfl) fun H9 e9 => ?_
        refine s_at [some (.ref l), some (.ref sa), some v, some (.int (w : Int)), some (.int ((x :: r).length : Int)), some (.int (t + k)), some (.int x.1), some (.int x.2), some (.int (lT ls j)), some (.int k)] rfl ?_
        have x27 : ExB2 l sa H H9 := fun c o n1 n2 h => e9 _ _ (x7 c o n2 h)
        refine q_if (b := decide (k < x.2)) (et_is (et_test (ev_op (ev_var rfl) (ev_var rfl) rv_I0)) rfl) (fun hd H10 e10 => ?_) (fun hd H10 e10 => ?_)
        · have hd := of_decide_eq_true hd
          rw [if_pos hd] at hgo
          have e8 := e9.trans e10
          have x10 : ExB2 l sa H H10 := x27.trans (.of e10)
          refine q_if (b := decide (k > 0)) (et_is (et_test (ev_op (ev_var rfl) ev_c rv_I0)) rfl) (fun hk H11 e11 => ?_) (fun hk H11 e11 => ?_)
          · have hk := of_decide_eq_true hk
            rw [if_pos hk] at hgo
            have e8' := e8.trans e11
            have b11 := BeastsT.ex' b7 e8'
            rw [hline, List.reverse_cons, List.append_assoc] at b11
            obtain ⟨u1, u2, rfl, bA, bxB⟩ := All2.split b11
            have lA := bA.len
            rw [List.length_reverse] at lA
            cases bxB with
            | cons bx bB =>
            rename_i ux uB
            refine q_setPT (j := r.length) (a := x.1) (b := x.2 - k) (e8' _ _ gl7) (ev_var rfl) (ev_op (ev_var rfl) (ev_var rfl) rv_I0) (ev_var rfl) (ev_is (ev_op (ev_var rfl) ev_c rv_I0) (by rw [hlr])) (by rw [List.length_append, lA]; show r.length < r.length + (uB.length + 1); omega) fun T H12 e12 g12 gT => ?_
            have e712 := e8'.trans e12
            have es : (u1 ++ ux :: uB).set r.length (.ref T) = u1 ++ .ref T :: uB := by
              rw [← lA, List.set_append_right _ _ (Nat.le_refl _), Nat.sub_self]
              rfl
            rw [es]
            have nTl : T ≠ l := fun z => by
              rw [z, g12] at gT
              cases gT
            have x12 : ExB2 l sa H (upd H12 l (.lst (u1 ++ .ref T :: uB))) := ((x10.trans (.of (e11.trans e12)))).fst
            have gs12 : (upd H12 l (.lst (u1 ++ .ref T :: uB))) sa = some (.lst ((st.set w (s - k * lT ls j)).map V.int)) := by
              rw [upd_ne (Ne.symm ne)]
              exact e712 _ _ gs7
            have gl12 : (upd H12 l (.lst (u1 ++ .ref T :: uB))) l = some (.lst (u1 ++ .ref T :: uB)) := upd_same
            have gT12 : (upd H12 l (.lst (u1 ++ .ref T :: uB))) T = some (.tup [.int x.1, .int (x.2 - k)]) := by
              rw [upd_ne nTl]
              exact gT
            have xl : ExB l H12 (upd H12 l (.lst (u1 ++ .ref T :: uB))) := (ExB.refl _ _).upd
            have bA12 : BeastsT (upd H12 l (.lst (u1 ++ .ref T :: uB))) u1 r.reverse := BeastsT.exB' (BeastsT.ex' bA e12) xl g12
            have bB12 : BeastsT (upd H12 l (.lst (u1 ++ .ref T :: uB))) uB B := BeastsT.exB' (BeastsT.ex' bB e12) xl g12
            have lB : uB.length = B.length := bB.len
            generalize upd H12 l (.lst (u1 ++ .ref T :: uB)) = H13 at x12 gs12 gl12 gT12 bA12 bB12
            refine s_insPT (K := K) (j := r.length + 1) (a := x.1) (b := k) gl12 (ev_var rfl) (ev_var rfl) (ev_var rfl) (ev_var (by rw [List.length_cons]; rfl)) (by rw [List.length_append, List.length_cons, lA, lB]; rw [List.length_cons] at llen; omega) (by rw [List.length_cons] at llen; omega) fun T2 H14 e14 g14 gT2 => ?_
            have ei : (u1 ++ V.ref T :: uB).take (r.length + 1) ++ .ref T2 :: (u1 ++ V.ref T :: uB).drop (r.length + 1) = u1 ++ .ref T :: .ref T2 :: uB := by
              have e1 : u1 ++ V.ref T :: uB = (u1 ++ [V.ref T]) ++ uB := by simp
              have e2 : (u1 ++ [V.ref T]).length = r.length + 1 := by rw [List.length_append, lA]; rfl
              rw [e1, ← e2, List.take_left, List.drop_left]
              simp
            rw [ei]
            have nT2 : T2 ≠ l := fun z => by
              rw [z, g14] at gT2
              cases gT2
            have xl2 : ExB l H14 (upd H14 l (.lst (u1 ++ .ref T :: .ref T2 :: uB))) := (ExB.refl _ _).upd
            rw [hA]
            have hA2 : (r.reverse ++ [x]).length = (r.reverse ++ [(x.1, x.2 - k)]).length := by simp
            rw [hA2]
            refine fin (r.reverse ++ [(x.1, x.2 - k)]) ((x.1, k) :: B) (s - k * lT ls j) (t + k) _ _ _ _ (u1 ++ .ref T :: .ref T2 :: uB) _ upd_same ?_ ?_ ((x12.trans (.of e14)).fst) ?_ ?_
            · have h1 := BeastsT.exB' (BeastsT.ex' bA12 e14) xl2 g14
              have h2 := BeastsT.exB' (BeastsT.ex' bB12 e14) xl2 g14
              rw [List.append_assoc]
              exact All2.app h1 (.cons ⟨T, rfl, xl2 _ _ nTl (e14 _ _ gT12)⟩ (.cons ⟨T2, rfl, xl2 _ _ nT2 gT2⟩ h2))
            · rw [upd_ne (Ne.symm ne)]
              exact e14 _ _ gs12
            · simp only [List.length_append, List.length_reverse, List.length_cons, List.length_nil] at llen ⊢
              omega
            · rw [← hgo]
              simp
          · have hk := of_decide_eq_false hk
            rw [if_neg hk] at hgo
            have e8' := e8.trans e11
            rw [hA]
            refine fin (r.reverse ++ [x]) B (s - k * lT ls j) (t + k) _ _ _ _ us H11 (e8' _ _ gl7) ?_ (e8' _ _ gs7) (x10.trans (.of e11)) ?_ ?_
            · have := BeastsT.ex' b7 e8'
              rw [hline, List.reverse_cons] at this
              exact this
            · simp only [List.length_append, List.length_reverse, List.length_cons, List.length_nil] at llen ⊢
              omega
            · rw [← hgo]
              simp
        · have hd := of_decide_eq_false hd
          rw [if_neg hd] at hgo
          refine s_aug (f := fun i j => i - j) (b := 1) rfl ev_c fun H11 e11 => ?_
          refine ⟨r.length, by rw [List.length_cons]; omega, r, x :: B, s - k * lT ls j, t + k, _, _, _, _, rfl, by rw [← hlr]; rfl, by rw [hline, List.reverse_cons, List.append_assoc]; rfl, hgo, (e9.trans (e10.trans e11)) _ _ gs7, x7.trans (.of (e9.trans (e10.trans e11)))⟩
theorem ok_herd_end {f f1 : Addr} {fd fd1 : FuncData} (F : FnP K "herd_end" s_herd_end f fd) (g : mg "herd_end" = some (.ref f)) (b : Binds K fd ["herd"] []) (h_pass_lots : Has P w K mg base 2 "pass_lots" ["line", "strengths", "herd", "who"] (spPassLots K) f1 fd1) (m_len : mg "len" = none) (m_range : mg "range" = none) : Has P w K mg base 3 "herd_end" ["herd"] (spHerdEnd K) f fd := by
  refine ⟨F.ok sc_herd_end (fun vs H Q E h => ?_) (fun cdv A outer s H vs Q E hr h => ?_), g, F.kp, b⟩
  · obtain ⟨v, ls, rfl, _⟩ := h
    rfl
  · obtain ⟨v, ls, rfl, hv, ft, q⟩ := h
    refine ⟨_, PSs.nox (pss_cons (ps_setLc (i := 1) (own := [("strength", 5), ("toll", 6), ("many", 7)]) (g := gTup K 3 (gCons (gName 5) (gCons (gName 6) (gCons (gName 7) gNil)))) (by rfl) sc_herd_end.nd rfl rfl (sw_true rfl rfl rfl (by decide +kernel)) (pi_tup (pv 0)) (blkOk_by (own := [("strength", 5), ("toll", 6), ("many", 7)]) (N := ["herd", "strengths", "line", "told", "who", "strength", "toll", "many"]) (sc := defScope s_herd_end) (by decide +kernel)) (fun _ _ _ _ _ => (pg_tup rfl (pgs_cons (pg_name (i := 5) sc_herd_end.nd rfl (Or.inl rfl)) (pgs_cons (pg_name (i := 6) sc_herd_end.nd rfl (Or.inl rfl)) (pgs_cons (pg_name (i := 7) sc_herd_end.nd rfl (Or.inl rfl)) pgs_nil))))) (fun _ _ _ _ _ => pts_nil) (fun _ _ _ _ _ => (pv 5)))
      (pss_cons (ps_set (i := 2) sc_herd_end.nd rfl (.inl rfl) (pe_lst pa_nil))
      (pss_cons (ps_set (i := 3) sc_herd_end.nd rfl (.inl rfl) (pe_lst pa_nil))
      (pss_cons (ps_for PassesOwn.never rfl (pi_range1 (by rfl) m_range (pa_cons (pe_callB call_len_seq (by rfl) m_len PySem.boot_len (pa_cons (pv 0) pa_nil)) pa_nil)) (pg_name (i := 4) sc_herd_end.nd rfl (Or.inl rfl))
        (pss_one (ps_expr (pe_bm PySem.F.plainAttrs_list PySem.F.slot_list_append PySem.F.type_list_append mt_append (pv 3) (pa_cons (pe_call h_pass_lots.G (hr.mono (by decide)) (by rfl) h_pass_lots.g h_pass_lots.kp h_pass_lots.b .nil pass0 (pa_cons (pv 2) (pa_cons (pv 1) (pa_cons (pv 0) (pa_cons (pv 4) pa_nil))))) pa_nil)))))
      (pss_one (ps_ret (pe_tup (pa_cons (pv 2) (pa_cons (pv 1) (pa_cons (pv 3) pa_nil)))))))))), ?_⟩
    have hn := ft.1
    refine q_asgL (el_mapH (K := K) (fun l => .int l.1) (ev_var rfl) hv (by omega) (fun x y z => rfl) (fun l H1 e1 hl => ev_var rfl)) fun sa H1 hsa e1 g1 => ?_
    refine q_asgL (el_lst ea_nil (by show 0 ≤ 100000; decide)) fun l H2 hl2 e2 g2 => ?_
    refine q_asgL (el_lst ea_nil (by show 0 ≤ 100000; decide)) fun ta H3 hta3 e3 g3 => ?_
    refine s_at [some v, some (.ref sa), some (.ref l), some (.ref ta), none, none, none, none] rfl ?_
    have nsl : l ≠ sa := fun z => by
      rw [z, g1] at hl2
      cases hl2
    have nst : ta ≠ sa := fun z => by
      rw [z, e2 _ _ g1] at hta3
      cases hta3
    have nlt : ta ≠ l := fun z => by
      rw [z, g2] at hta3
      cases hta3
    have hl := fresh_back e1 hl2
    have hta := fresh_back (e1.trans e2) hta3
    have e123 := e1.trans (e2.trans e3)
    refine q_forR1 (n := (ls.length : Int)) (ea_cons (ev_lenH (ev_var rfl) (hv.ex e123)) ea_nil) ⟨by omega, by omega⟩ (fun k σ' H' => ∃ (us : List V) (y4 : Option V), σ' = [some v, some (.ref sa), some (.ref l), some (.ref ta), y4, none, none, none] ∧ Ex H H' ∧ H' l = some (.lst us) ∧ BeastsT H' us (endG ls k).1 ∧ H' sa = some (.lst ((endG ls k).2.1.map V.int)) ∧ H' ta = some (.lst ((endG ls k).2.2.map V.int))) (fun H4 e4 => ⟨[], none, rfl, e123.trans e4, e4 _ _ (e3 _ _ g2), .nil, ?_, e4 _ _ g3⟩) (fun k σ' H4 hk hW => ?_) (fun σ' H4 hW => ?_)
    · have := (e2.trans (e3.trans e4)) _ _ g1
      show H4 sa = some (.lst ((ls.map (·.1)).map V.int))
      rw [List.map_map]
      exact this
    · obtain ⟨us, y4, rfl, e04, gl, bs, gs, gt⟩ := hW
      obtain ⟨f1, f2, f3, f4⟩ := endG_facts ls k
      have hk : k < ls.length := by omega
      refine ⟨.ref ta, rfl, .inl ⟨rfl, _, sq_of gt⟩, .ref l, rfl, .ref sa, rfl, v, rfl, .int (k : Int), rfl, l, sa, v, us, _, _, ls, k, rfl, gl, bs, gs, nsl, hv.ex e04, ft, f3, hk, f1, by omega, fun us' H5 x5 gl5 b5 gs5 => ?_⟩
      have gt5 := x5 _ _ nlt nst gt
      refine ⟨ta, _, _, rfl, rfl, gt5, sz_lt (by rw [List.length_map, f4]; omega), us', _, rfl, ?_, ?_, ?_, ?_, ?_⟩
      · exact Ex.mut (ex_ex2 e04 x5 hl hsa) hta
      · rw [upd_ne (Ne.symm nlt)]
        exact gl5
      · exact BeastsT.exB' b5 (ExB.refl _ _).upd gt5
      · rw [upd_ne (Ne.symm nst)]
        exact gs5
      · rw [upd_same]
        show _ = some (HO.lst (((endG ls k).2.2 ++ [_]).map V.int))
        rw [List.map_append]
        rfl
    · obtain ⟨us, y4, rfl, e04, gl, bs, gs, gt⟩ := hW
      rw [Int.toNat_natCast] at bs gs gt
      refine s_retU (eu_tup (ea_cons (ev_var rfl) (ea_cons (ev_var rfl) (ea_cons (ev_var rfl) ea_nil))) (by show 3 ≤ 100000; decide)) fun p H5 hp e5 g5 => ?_
      exact q p l sa ta us H5 (e04.trans e5) hl hsa hta (st_of g5) (e5 _ _ gl) (BeastsT.ex' bs e5) (e5 _ _ gs) (e5 _ _ gt)
theorem ok_herd_last {f f1 f2 : Addr} {fd fd1 fd2 : FuncData} (F : FnP K "herd_last" s_herd_last f fd) (g : mg "herd_last" = some (.ref f)) (b : Binds K fd ["herd"] []) (h_herd_end : Has P w K mg base 3 "herd_end" ["herd"] (spHerdEnd K) f1 fd1) (h_together : Has P w K mg base 1 "together" ["lots"] (spTogether K) f2 fd2) : Has P w K mg base 4 "herd_last" ["herd"] (spHerd1 K lastLots) f fd := by
  refine ⟨F.ok sc_herd_last (fun vs H Q E h => ?_) (fun cdv A outer s H vs Q E hr h => ?_), g, F.kp, b⟩
  · obtain ⟨v, ls, rfl, _⟩ := h
    rfl
  · obtain ⟨v, ls, rfl, hv, ft, q⟩ := h
    refine ⟨_, PSs.nox (pss_cons (ps_asg (pe_call h_herd_end.G (hr.mono (by decide)) (by rfl) h_herd_end.g h_herd_end.kp h_herd_end.b .nil pass0 (pa_cons (pv 0) pa_nil)) (pg_tup rfl (pgs_cons (pg_name (i := 1) sc_herd_last.nd rfl (Or.inl rfl)) (pgs_cons (pg_name (i := 2) sc_herd_last.nd rfl (Or.inr rfl)) (pgs_cons (pg_name (i := 3) sc_herd_last.nd rfl (Or.inl rfl)) pgs_nil)))))
      (pss_one (ps_ret (pe_call h_together.G (hr.mono (by decide)) (by rfl) h_together.g h_together.kp h_together.b .nil pass0 (pa_cons (pe_lc (own := [("lot", 4), ("many", 5)]) (g := gTup K 2 (gCons (gName 4) (gCons (gName 5) gNil))) (by rfl) sc_herd_last.nd (pi_list (pv 1)) (blkOk_by (own := [("lot", 4), ("many", 5)]) (N := ["herd", "line", "strengths", "told", "lot", "many"]) (sc := defScope s_herd_last) (by decide +kernel)) (fun _ _ _ _ _ => (pg_tup rfl (pgs_cons (pg_name (i := 4) sc_herd_last.nd rfl (Or.inl rfl)) (pgs_cons (pg_name (i := 5) sc_herd_last.nd rfl (Or.inl rfl)) pgs_nil)))) (fun _ _ _ _ _ => pts_nil) (fun _ _ _ _ _ => (pe_tup (pa_cons (pe_ix (ix_listK (K := K)) (pv 2) (pv 4) (fun _ _ => rfl)) (pa_cons (pe_ix (ix_tupK (K := K)) (pe_ix (ix_tupK (K := K)) (pv 0) (pv 4) (fun _ _ => rfl)) pe_int (fun _ _ => rfl)) (pa_cons (pv 5) pa_nil)))))) pa_nil))))), ?_⟩
    obtain ⟨f1, f2, f3, f4⟩ := endG_facts ls ls.length
    have hn := ft.1
    refine ⟨v, rfl, v, ls, rfl, hv, ft, fun p l sa ta us H1 e1 hl hsa hta sp gl bs gs gt => ?_⟩
    refine ⟨p, _, rfl, sp, rfl, _, _, rfl, _, _, rfl, _, _, rfl, rfl, ?_⟩
    dsimp only
    refine s_at [some v, some (.ref l), some (.ref sa), some (.ref ta), none, none] rfl ?_
    have hv1 := hv.ex e1
    refine ret_run (call1_run ?_)
    refine (lt_map (K := K) (σ := [some v, some (.ref l), some (.ref sa), some (.ref ta), none, none]) (i := 4) (j := 5) (vs := [4, 5]) (fun x => ((endG ls ls.length).2.1.getD x.1.toNat 0, lT ls x.1.toNat, x.2)) (ev_var rfl) gl bs (by omega) (fun x y => rfl) (fun x H2 e2 hx => ?_) (fun x H2 e2 hx => ?_) (fun x H2 e2 hx => ev_var rfl)) H1 (Ex.refl H1) _ fun c ws H2 hc e2 g2 la => ⟨c, ws, lastLots ls, rfl, sq_of g2, la, by unfold lastLots; rw [List.length_map]; omega, fun z H3 e3 hz => q z H3 (e1.trans (e2.trans e3)) hz⟩
    · obtain ⟨j, hj, hjn⟩ := f1 x hx
      rw [hj]
      exact ev_op (ev_var rfl) (ev_var rfl) (rv_ixL (K := K) (sq_of (e2 _ _ gs)) (getD_at (by omega)))
    · obtain ⟨j, hj, hjn⟩ := f1 x hx
      rw [hj]
      exact ev_lotT (K := K) (ev_var rfl) (ev_var rfl) (hv1.ex e2) hjn
theorem ok_fall_lots {f : Addr} {fd : FuncData} (F : FnP K "fall_lots" s_fall_lots f fd) (g : mg "fall_lots" = some (.ref f)) (b : Binds K fd ["line", "strengths", "herd", "who"] []) (m_len : mg "len" = none) : Has P w K mg base 1 "fall_lots" ["line", "strengths", "herd", "who"] (spFallLots K) f fd := by
  refine ⟨F.ok sc_fall_lots (fun vs H Q E h => ?_) (fun cdv A outer s H vs Q E hr h => ?_), g, F.kp, b⟩
  · obtain ⟨l, sa, v, line, st, ls, w, rfl, _⟩ := h
    rfl
  · obtain ⟨l, sa, v, line, st, ls, w, rfl, hl, hs, ne, hv, ft, hst, hw, bel, len, q⟩ := h
    refine ⟨_, PSs.nox (pss_cons (ps_set (i := 4) sc_fall_lots.nd rfl (.inl rfl) pe_int)
      (pss_cons (ps_while PassesOwn.never (PW.pt (pw_and (pt_cmpR op_lt (pv 4) (pe_callB call_len_seq (by rfl) m_len PySem.boot_len (pa_cons (pv 0) pa_nil)) (nomark _)) (pw_and1 (pt_cmpR op_gt (pe_ix ix_list (pv 1) (pv 3) (fun _ _ => rfl)) (pe_ix ix_list (pv 1) (pe_ix ix_list (pv 0) (pv 4) (fun _ _ => rfl)) (fun _ _ => rfl)) (nomark _))))) (pss_cons (ps_asg (pe_ix ix_tup (pv 2) (pe_ix ix_list (pv 0) (pv 4) (fun _ _ => rfl)) (fun _ _ => rfl)) (pg_tup rfl (pgs_cons (pg_name (i := 5) sc_fall_lots.nd rfl (Or.inl rfl)) (pgs_cons (pg_name (i := 6) sc_fall_lots.nd rfl (Or.inl rfl)) (pgs_cons (pg_name (i := 7) sc_fall_lots.nd rfl (Or.inl rfl)) pgs_nil)))))
      (pss_cons (ps_augS (pv 1) (pv 3) get_listN (pe_op op_mul (pv 7) (pv 6)) ip_add set_list)
      (pss_one (ps_aug (i := 4) sc_fall_lots.nd rfl (.inl rfl) pe_int ip_add)))))
      (pss_one (ps_expr (pe_bm PySem.F.plainAttrs_list PySem.F.slot_list_insert PySem.F.type_list_insert mt_insert (pv 0) (pa_cons (pv 4) (pa_cons (pv 3) pa_nil))))))), ?_⟩
    have lw : w < st.length := by omega
    refine q_asg ev_c fun H1 e1 => ?_
    refine s_at [some (.ref l), some (.ref sa), some v, some (.int (w : Int)), some (.int 0), none, none, none] rfl ?_
    refine q_while (fun m σ' H' => ∃ (A R : List Nat) (s : Int) (y5 y6 y7 : Option V), m = R.length ∧ σ' = [some (.ref l), some (.ref sa), some v, some (.int (w : Int)), some (.int (A.length : Int)), y5, y6, y7] ∧ line = A ++ R ∧ goF st ls w A R s = goF st ls w [] line (st.getD w 0) ∧ H' sa = some (.lst ((st.set w s).map V.int)) ∧ ExB sa H H') line.length ?_ (fun m σ' H' hW => ?_)
    · refine ⟨[], line, st.getD w 0, none, none, none, rfl, rfl, rfl, rfl, ?_, .of e1⟩
      have : st.set w (st.getD w 0) = st := set_self (by rw [List.getElem?_eq_getElem lw, List.getD_eq_getElem?_getD, List.getElem?_eq_getElem lw]; rfl)
      rw [this]
      exact e1 _ _ hs
    · obtain ⟨A, R, s, y5, y6, y7, rfl, rfl, hline, hgo, hsa, x1⟩ := hW
      have hl' := x1 _ _ ne hl
      have hv' := hv.exL x1 hs
      have llen : A.length + R.length ≤ 1000 := by
        rw [hline, List.length_append] at len
        exact len
      have sw : atI ((st.set w s).map V.int) (w : Int) = some (.int s) := by
        have := getD_at (st := st.set w s) (i := w) (by rw [List.length_set]; exact lw)
        rw [getD_set lw, if_pos rfl] at this
        exact this
      have fin : (goF st ls w A R s = (A ++ w :: R, s)) → ∀ H2, Ex H' H2 → tDrop (tBM K "list" rIns (tVar 0) (tCons (tVar 4) (tCons (tVar 3) tNil))) { nx := fun _ H' => Q .non H', rt := Q } [some (.ref l), some (.ref sa), some v, some (.int (w : Int)), some (.int (A.length : Int)), y5, y6, y7] H2 := fun e H2 e2 => by
        refine ⟨.ref l, rfl, .inl ⟨rfl, _, sq_of (e2 _ _ hl')⟩, .int (A.length : Int), rfl, .int (w : Int), rfl, l, _, (A.length : Int), .int (w : Int), rfl, rfl, e2 _ _ hl', sz_lt (by rw [natsV_len]; omega), by omega, by omega, ?_⟩
        rw [e] at hgo
        have q' := q
        rw [← hgo] at q'
        have ex : (natsV line).take ((A.length : Nat) : Int).toNat ++ [V.int (w : Int)] ++ (natsV line).drop ((A.length : Nat) : Int).toNat = natsV (A ++ w :: R) := by
          rw [Int.toNat_natCast, hline]
          unfold natsV
          rw [List.map_append, List.map_append, show A.length = (A.map fun (x : Nat) => V.int (x : Int)).length by rw [List.length_map], List.take_left, List.drop_left]
          simp
        rw [ex]
        refine q' _ (ExB2.fst fun c o n1 n2 h => e2 _ _ (x1 c o n2 h)) upd_same ?_
        rw [upd_ne (Ne.symm ne)]
        exact e2 _ _ hsa
      cases R with
      | nil =>
        refine ⟨false, et_and (a := false) (b := false) (et_is (et_test (ev_op (ev_var rfl) (ev_len (K := K) (ev_var rfl) (sq_of hl')) rv_I0)) ?_) (fun z => by cases z), (fun z => by cases z), fun _ H2 e2 => fin (by rw [goF]) H2 e2⟩
        rw [natsV_len, hline, List.append_nil]
        exact decide_eq_false (by omega)
      | cons x R =>
        have hxl : line[A.length]? = some x := by
          rw [hline, List.getElem?_append_right (Nat.le_refl _), Nat.sub_self]
          rfl
        obtain ⟨hx1, hx2⟩ := bel x (List.mem_of_getElem? hxl)
        have gx : atI (natsV line) (A.length : Int) = some (.int (x : Int)) := atI_nat (natsV_at hxl)
        have sx : atI ((st.set w s).map V.int) (x : Int) = some (.int (st.getD x 0)) := by
          have := getD_at (st := st.set w s) (i := x) (by rw [List.length_set]; omega)
          rw [getD_set lw, if_neg (by omega)] at this
          exact this
        have eA : Ev (tOp (rIxL K) (tVar 0) (tVar 4)) [some (.ref l), some (.ref sa), some v, some (.int (w : Int)), some (.int (A.length : Int)), y5, y6, y7] H' (.int (x : Int)) := ev_op (ev_var rfl) (ev_var rfl) (rv_ixL (K := K) (sq_of hl') gx)
        refine ⟨decide (s > st.getD x 0), et_is (et_and (a := true) (b := decide (s > st.getD x 0)) (et_is (et_test (ev_op (ev_var rfl) (ev_len (K := K) (ev_var rfl) (sq_of hl')) rv_I0)) ?_) (fun _ => et_test (ev_op (ev_op (ev_var rfl) (ev_var rfl) (rv_ixL (K := K) (sq_of hsa) sw)) (ev_op (ev_var rfl) eA (rv_ixL (K := K) (sq_of hsa) sx)) rv_I0))) (Bool.true_and _), fun hd H2 e2 => ?_, fun hd H2 e2 => fin (by rw [goF, if_neg (of_decide_eq_false hd)]) H2 e2⟩
        · rw [natsV_len, hline, List.length_append, List.length_cons]
          exact decide_eq_true (by omega)
        have hd := of_decide_eq_true hd
        refine ⟨fun σ2 H2 => ∃ m', m' < (x :: R).length ∧ ∃ (A R : List Nat) (s : Int) (y5 y6 y7 : Option V), m' = R.length ∧ σ2 = [some (.ref l), some (.ref sa), some v, some (.int (w : Int)), some (.int (A.length : Int)), y5, y6, y7] ∧ line = A ++ R ∧ goF st ls w A R s = goF st ls w [] line (st.getD w 0) ∧ H2 sa = some (.lst ((st.set w s).map V.int)) ∧ ExB sa H H2, fun σ2 H2 h => h, ?_⟩
        obtain ⟨a, us, p, rfl, h1, h2, h3⟩ := herd_at (hv'.ex e2) hx2
        refine (ev_op (ev_var (i := 2) rfl) (Ev.mono e2 eA) (rv_ixT (K := K) h1 (atI_nat h2))) H2 (Ex.refl H2) _ fun H3 e3 => ⟨p, _, rfl, ex_t e3 h3, rfl, _, _, rfl, _, _, rfl, _, _, rfl, rfl, ?_⟩
        dsimp only
        refine s_at [some (.ref l), some (.ref sa), some (.ref a), some (.int (w : Int)), some (.int (A.length : Int)), some (.int (lS ls x)), some (.int (lT ls x)), some (.int (lM ls x))] rfl ?_
        have e23 := e2.trans e3
        have ft' := ft.at' hx2
        refine ⟨.ref sa, rfl, .int (w : Int), rfl, sa, _, w, .int s, rfl, rfl, e23 _ _ hsa, getI (set_at (List.getElem?_eq_getElem lw)), ?_⟩
        have ev : Ev (tOp (rI CMul fun i j => .int (i * j)) (tVar 7) (tVar 6)) [some (.ref l), some (.ref sa), some (.ref a), some (.int (w : Int)), some (.int (A.length : Int)), some (.int (lS ls x)), some (.int (lT ls x)), some (.int (lM ls x))] H3 (.int (lM ls x * lT ls x)) := ev_op (ev_var rfl) (ev_var rfl) (rv_I (.inr ⟨by omega, by omega⟩))
        refine ev H3 (Ex.refl H3) _ fun H4 e4 => ⟨s, lM ls x * lT ls x, rfl, rfl, sa, _, (w : Int), w, rfl, rfl, (e23.trans e4) _ _ hsa, ixN_nat (by rw [List.length_map, List.length_set]; exact lw), ?_⟩
        have x5 : ExB sa H (upd H4 sa (.lst (((st.set w s).map V.int).set w (.int (s + lM ls x * lT ls x))))) := (x1.trans (.of (e23.trans e4))).upd
        have g5 : (upd H4 sa (.lst (((st.set w s).map V.int).set w (.int (s + lM ls x * lT ls x))))) sa = some (.lst ((st.set w (s + lM ls x * lT ls x)).map V.int)) := by
          rw [upd_same, ← List.map_set, List.set_set]
        generalize upd H4 sa (.lst (((st.set w s).map V.int).set w (.int (s + lM ls x * lT ls x)))) = H5 at x5 g5
        dsimp only
        refine s_aug (f := fun i j => i + j) (b := 1) rfl ev_c fun H6 e6 => ?_
        refine ⟨R.length, by rw [List.length_cons]; omega, A ++ [x], R, s + lM ls x * lT ls x, some (.int (lS ls x)), some (.int (lT ls x)), some (.int (lM ls x)), rfl, ?_, by rw [hline, List.append_assoc]; rfl, ?_, e6 _ _ g5, x5.trans (.of e6)⟩
        · rw [List.length_append]
          rfl
        · rw [← hgo, goF, if_pos hd]
theorem ok_herd_first {f f1 f2 : Addr} {fd fd1 fd2 : FuncData} (F : FnP K "herd_first" s_herd_first f fd) (g : mg "herd_first" = some (.ref f)) (b : Binds K fd ["herd"] []) (h_fall_lots : Has P w K mg base 1 "fall_lots" ["line", "strengths", "herd", "who"] (spFallLots K) f1 fd1) (h_together : Has P w K mg base 1 "together" ["lots"] (spTogether K) f2 fd2) (m_len : mg "len" = none) (m_range : mg "range" = none) (m_reversed : mg "reversed" = none) : Has P w K mg base 2 "herd_first" ["herd"] (spHerd1 K firstLots) f fd := by
  refine ⟨F.ok sc_herd_first (fun vs H Q E h => ?_) (fun cdv A outer s H vs Q E hr h => ?_), g, F.kp, b⟩
  · obtain ⟨v, ls, rfl, _⟩ := h
    rfl
  · obtain ⟨v, ls, rfl, hv, ft, q⟩ := h
    refine ⟨_, PSs.nox (pss_cons (ps_set (i := 1) sc_herd_first.nd rfl (.inr rfl) (pe_lc (own := [("strength", 4), ("toll", 5), ("many", 6)]) (g := gTup K 3 (gCons (gName 4) (gCons (gName 5) (gCons (gName 6) gNil)))) (by rfl) sc_herd_first.nd (pi_tup (pv 0)) (blkOk_by (own := [("strength", 4), ("toll", 5), ("many", 6)]) (N := ["herd", "strengths", "line", "who", "strength", "toll", "many", "lot"]) (sc := defScope s_herd_first) (by decide +kernel)) (fun _ _ _ _ _ => (pg_tup rfl (pgs_cons (pg_name (i := 4) sc_herd_first.nd rfl (Or.inl rfl)) (pgs_cons (pg_name (i := 5) sc_herd_first.nd rfl (Or.inl rfl)) (pgs_cons (pg_name (i := 6) sc_herd_first.nd rfl (Or.inl rfl)) pgs_nil))))) (fun _ _ _ _ _ => pts_nil) (fun _ _ _ _ _ => (pv 4))))
      (pss_cons (ps_set (i := 2) sc_herd_first.nd rfl (.inl rfl) (pe_lst pa_nil))
      (pss_cons (ps_for PassesOwn.never rfl (pi_revR (by rfl) m_reversed (prg_1 (by rfl) m_range (pe_callB call_len_seq (by rfl) m_len PySem.boot_len (pa_cons (pv 0) pa_nil)))) (pg_name (i := 3) sc_herd_first.nd rfl (Or.inl rfl))
        (pss_one (ps_expr (pe_call h_fall_lots.G (hr.mono (by decide)) (by rfl) h_fall_lots.g h_fall_lots.kp h_fall_lots.b .nil pass0 (pa_cons (pv 2) (pa_cons (pv 1) (pa_cons (pv 0) (pa_cons (pv 3) pa_nil))))))))
      (pss_one (ps_ret (pe_call h_together.G (hr.mono (by decide)) (by rfl) h_together.g h_together.kp h_together.b .nil pass0 (pa_cons (pe_lc (own := [("lot", 7)]) (g := gName 7) (by rfl) sc_herd_first.nd (pi_list (pv 2)) (blkOk_by (own := [("lot", 7)]) (N := ["herd", "strengths", "line", "who", "strength", "toll", "many", "lot"]) (sc := defScope s_herd_first) (by decide +kernel)) (fun _ _ _ _ _ => (pg_name (i := 7) sc_herd_first.nd rfl (Or.inl rfl))) (fun _ _ _ _ _ => pts_nil) (fun _ _ _ _ _ => (pe_tup (pa_cons (pe_ix (ix_listK (K := K)) (pv 1) (pv 7) (fun _ _ => rfl)) (pa_cons (pe_ix (ix_tupK (K := K)) (pe_ix (ix_tupK (K := K)) (pv 0) (pv 7) (fun _ _ => rfl)) pe_int (fun _ _ => rfl)) (pa_cons (pe_ix (ix_tupK (K := K)) (pe_ix (ix_tupK (K := K)) (pv 0) (pv 7) (fun _ _ => rfl)) pe_int (fun _ _ => rfl)) pa_nil)))))) pa_nil))))))), ?_⟩
    have hn := ft.1
    refine q_asgL (el_mapH (K := K) (fun l => .int l.1) (ev_var rfl) hv (by omega) (fun x y z => rfl) (fun l H1 e1 hl => ev_var rfl)) fun sa H1 hsa e1 g1 => ?_
    refine q_asgL (el_lst ea_nil (by show 0 ≤ 100000; decide)) fun l H2 hl2 e2 g2 => ?_
    refine s_at [some v, some (.ref sa), some (.ref l), none, none, none, none, none] rfl ?_
    have nsl : l ≠ sa := fun z => by
      rw [z, g1] at hl2
      cases hl2
    have hl := fresh_back e1 hl2
    have e12 := e1.trans e2
    refine q_forRev (n := ls.length) (ev_lenH (K := K) (ev_var rfl) (hv.ex e12)) (by omega) (fun k σ' H' => ∃ (y3 : Option V), σ' = [some v, some (.ref sa), some (.ref l), y3, none, none, none, none] ∧ Ex H H' ∧ H' l = some (.lst (natsV (begG ls ls.length k).1)) ∧ H' sa = some (.lst ((begG ls ls.length k).2.map V.int))) (fun H3 e3 => ⟨none, rfl, e12.trans e3, e3 _ _ g2, ?_⟩) (fun k σ' H3 hk hW => ?_) (fun σ' H3 hW => ?_)
    · have := (e2.trans e3) _ _ g1
      show H3 sa = some (.lst ((ls.map (·.1)).map V.int))
      rw [List.map_map]
      exact this
    · obtain ⟨y3, rfl, e03, gl, gs⟩ := hW
      obtain ⟨f1, f2, f3⟩ := begG_facts ls k (by omega)
      have ek : ls.length - 1 - k = ls.length - (k + 1) := by omega
      rw [ek]
      refine ⟨.ref l, rfl, .ref sa, rfl, v, rfl, .int ((ls.length - (k + 1) : Nat) : Int), rfl, l, sa, v, _, _, ls, ls.length - (k + 1), rfl, gl, gs, nsl, hv.ex e03, ft, f3, by omega, fun x hx => ?_, by omega, fun H4 x4 gl4 gs4 => ?_⟩
      · have := f1 x hx
        omega
      · exact ⟨_, rfl, ex_ex2 e03 x4 hl hsa, gl4, gs4⟩
    · obtain ⟨y3, rfl, e03, gl, gs⟩ := hW
      obtain ⟨f1, f2, f3⟩ := begG_facts ls ls.length (Nat.le_refl _)
      refine ret_run (call1_run ?_)
      refine (lt_mapN (K := K) (σ := [some v, some (.ref sa), some (.ref l), y3, none, none, none, none]) (j := 7) (vs := [7]) (fun x => ((begG ls ls.length ls.length).2.getD x 0, lT ls x, lM ls x)) (ev_var rfl) gl (by omega) (fun x => rfl) (fun x H4 e4 hx => ?_) (fun x H4 e4 hx => ?_) (fun x H4 e4 hx => ?_)) H3 (Ex.refl H3) _ fun c ws H4 hc e4 g4 la => ⟨c, ws, firstLots ls, rfl, sq_of g4, la, by unfold firstLots; rw [List.length_map]; omega, fun z H5 e5 hz => q z H5 (e03.trans (e4.trans e5)) hz⟩
      · have := f1 x hx
        exact ev_op (ev_var rfl) (ev_var rfl) (rv_ixL (K := K) (sq_of (e4 _ _ gs)) (getD_at (by omega)))
      · have := f1 x hx
        exact ev_lotT (K := K) (ev_var rfl) (ev_var rfl) (hv.ex (e03.trans e4)) this.2
      · have := f1 x hx
        exact ev_lotM (K := K) (ev_var rfl) (ev_var rfl) (hv.ex (e03.trans e4)) this.2
theorem ok_herd_passed {f f1 : Addr} {fd fd1 : FuncData} (F : FnP K "herd_passed" s_herd_passed f fd) (g : mg "herd_passed" = some (.ref f)) (b : Binds K fd ["herd"] []) (h_herd_end : Has P w K mg base 3 "herd_end" ["herd"] (spHerdEnd K) f1 fd1) : Has P w K mg base 4 "herd_passed" ["herd"] (spHerdPassed K) f fd := by
  refine ⟨F.ok sc_herd_passed (fun vs H Q E h => ?_) (fun cdv A outer s H vs Q E hr h => ?_), g, F.kp, b⟩
  · obtain ⟨v, ls, rfl, _⟩ := h
    rfl
  · obtain ⟨v, ls, rfl, hv, ft, q⟩ := h
    refine ⟨_, PSs.nox (pss_one (ps_ret (pe_ix ix_tup (pe_call h_herd_end.G (hr.mono (by decide)) (by rfl) h_herd_end.g h_herd_end.kp h_herd_end.b .nil pass0 (pa_cons (pv 0) pa_nil)) pe_int (fun _ _ => rfl)))), ?_⟩
    exact ⟨v, rfl, v, ls, rfl, hv, ft, fun p l sa ta us H1 e1 hl hsa hta sp gl bs gs gt => ⟨p, _, 2, .ref ta, rfl, rfl, sp, rfl, q ta H1 hta e1 gt⟩⟩
theorem ok_herd_passings {f f1 : Addr} {fd fd1 : FuncData} (F : FnP K "herd_passings" s_herd_passings f fd) (g : mg "herd_passings" = some (.ref f)) (b : Binds K fd ["herd"] []) (h_herd_passed : Has P w K mg base 4 "herd_passed" ["herd"] (spHerdPassed K) f1 fd1) (m_zip : mg "zip" = none) (m_sum : mg "sum" = none) : Has P w K mg base 5 "herd_passings" ["herd"] (spHerdPassings K) f fd := by
  refine ⟨F.ok sc_herd_passings (fun vs H Q E h => ?_) (fun cdv A outer s H vs Q E hr h => ?_), g, F.kp, b⟩
  · obtain ⟨v, ls, rfl, _⟩ := h
    rfl
  · obtain ⟨v, ls, rfl, hv, ft, q⟩ := h
    refine ⟨_, PSs.nox (pss_one (ps_ret (pe_callB (cr_sum rfl) (by rfl) m_sum (by decide +kernel) (pa_cons (pe_lc (own := [("passed", 1), ("strength", 2), ("toll", 3), ("many", 4)]) (g := gTup K 2 (gCons (gName 1) (gCons (gTup K 3 (gCons (gName 2) (gCons (gName 3) (gCons (gName 4) gNil)))) gNil))) (by rfl) sc_herd_passings.nd (pi_zipM (by rfl) m_zip (pa_cons (pe_call h_herd_passed.G (hr.mono (by decide)) (by rfl) h_herd_passed.g h_herd_passed.kp h_herd_passed.b .nil pass0 (pa_cons (pv 0) pa_nil)) (pa_cons (pv 0) pa_nil))) (blkOk_by (own := [("passed", 1), ("strength", 2), ("toll", 3), ("many", 4)]) (N := ["herd", "passed", "strength", "toll", "many"]) (sc := defScope s_herd_passings) (by decide +kernel)) (fun _ _ _ _ _ => (pg_tup rfl (pgs_cons (pg_name (i := 1) sc_herd_passings.nd rfl (Or.inl rfl)) (pgs_cons (pg_tup rfl (pgs_cons (pg_name (i := 2) sc_herd_passings.nd rfl (Or.inl rfl)) (pgs_cons (pg_name (i := 3) sc_herd_passings.nd rfl (Or.inl rfl)) (pgs_cons (pg_name (i := 4) sc_herd_passings.nd rfl (Or.inl rfl)) pgs_nil)))) pgs_nil)))) (fun _ _ _ _ _ => pts_nil) (fun _ _ _ _ _ => (pe_op op_mul (pv 1) (pv 4)))) pa_nil)))), ?_⟩
    have hn := ft.1
    obtain ⟨f1, f2, f3, f4⟩ := endG_facts ls ls.length
    refine s_ret (ev_sumI (K := K) (ns := (List.range ls.length).map fun n => (endG ls ls.length).2.2.getD n 0 * lM ls n) (el_zipH (K := K) (el_call (ea_cons (ev_var rfl) ea_nil) fun H1 e1 Q k E => ⟨v, ls, rfl, hv.ex e1, ft, fun p H2 hp e2 g2 => k p H2 hp e2 g2⟩) (fun H1 e1 => ev_var rfl) hv f4 (by omega) (fun l hl => (ft.2 l hl).2.2) (fun a b c d => rfl) (fun a b c d => rfl) (fun a b c d => rfl))) fun H1 e1 => q H1 e1
theorem ok_herd_places {f f1 : Addr} {fd fd1 : FuncData} (F : FnP K "herd_places" s_herd_places f fd) (g : mg "herd_places" = some (.ref f)) (b : Binds K fd ["herd"] []) (h_herd_end : Has P w K mg base 3 "herd_end" ["herd"] (spHerdEnd K) f1 fd1) (m_len : mg "len" = none) (m_range : mg "range" = none) : Has P w K mg base 4 "herd_places" ["herd"] (spHerdPlaces K) f fd := by
  refine ⟨F.ok sc_herd_places (fun vs H Q E h => ?_) (fun cdv A outer s H vs Q E hr h => ?_), g, F.kp, b⟩
  · obtain ⟨v, ls, rfl, _⟩ := h
    rfl
  · obtain ⟨v, ls, rfl, hv, ft, all, q⟩ := h
    have hu : (A.deeper (envOfC "herd_places" (defScope s_herd_places) s.heap.objs.size f cdv)).units + 1 < cLine := by
      have := hr.un
      omega
    refine ⟨_, PSs.nox (pss_cons (ps_set (i := 1) sc_herd_places.nd rfl (.inr rfl) pe_dnewK)
      (pss_cons (ps_set (i := 2) sc_herd_places.nd rfl (.inr rfl) pe_dnewK)
      (pss_cons (ps_set (i := 3) sc_herd_places.nd rfl (.inl rfl) pe_int)
      (pss_cons (ps_for PassesOwn.never rfl (pi_list (pe_ix ix_tup (pe_call h_herd_end.G (hr.mono (by decide)) (by rfl) h_herd_end.g h_herd_end.kp h_herd_end.b .nil pass0 (pa_cons (pv 0) pa_nil)) pe_int (fun _ _ => rfl))) (pg_tup rfl (pgs_cons (pg_name (i := 4) sc_herd_places.nd rfl (Or.inl rfl)) (pgs_cons (pg_name (i := 5) sc_herd_places.nd rfl (Or.inl rfl)) pgs_nil)))
        (pss_cons (ps_if (pt_cmp (pc_dnotin hu (pv 4) (pv 1))) (pss_one (ps_asg (pv 3) (pg_sub (pv 1) (pv 4) (set_dict hu)))) pss_nil)
      (pss_cons (ps_aug (i := 3) sc_herd_places.nd rfl (.inl rfl) (pv 5) ip_add)
      (pss_one (ps_asg (pe_op op_sub (pv 3) pe_int) (pg_sub (pv 2) (pv 4) (set_dict hu)))))))
      (pss_one (ps_ret (pe_lc (own := [("lot", 4)]) (g := gName 4) (by rfl) sc_herd_places.nd (pi_range1 (by rfl) m_range (pa_cons (pe_callB call_len_seq (by rfl) m_len PySem.boot_len (pa_cons (pv 0) pa_nil)) pa_nil)) (blkOk_by (own := [("lot", 4)]) (N := ["herd", "foremost", "hindmost", "place", "lot", "many"]) (sc := defScope s_herd_places) (by decide +kernel)) (fun _ _ _ _ _ => (pg_name (i := 4) sc_herd_places.nd rfl (Or.inl rfl))) (fun _ _ _ _ _ => pts_nil) (fun _ _ _ _ _ => (pe_tup (pa_cons (pe_dget hu (pv 1) (pv 4) (fun _ _ => rfl)) (pa_cons (pe_dget hu (pv 2) (pv 4) (fun _ _ => rfl)) pa_nil))))))))))), ?_⟩
    have hn := ft.1
    obtain ⟨f1, f2, f3, f4⟩ := endG_facts ls ls.length
    refine q_run ?_
    refine fun d1 hd1 => ?_
    have e1 := Ex.new (o := .dK []) hd1
    have g1 : (upd H d1 (.dK [])) d1 = some (.dK []) := upd_same
    generalize upd H d1 (.dK []) = H1 at e1 g1
    refine q_run ?_
    refine fun d2 hd2 => ?_
    have e2 := Ex.new (o := .dK []) hd2
    have g2 : (upd H1 d2 (.dK [])) d2 = some (.dK []) := upd_same
    generalize upd H1 d2 (.dK []) = H2 at e2 g2
    have n12 : d1 ≠ d2 := fun z => by
      rw [← z, g1] at hd2
      cases hd2
    have fd2 := fresh_back e1 hd2
    refine q_asg ev_c fun H3 e3 => ?_
    refine s_at [some v, some (.ref d1), some (.ref d2), some (.int 0), none, none] rfl ?_
    have e03 := e1.trans (e2.trans e3)
    refine q_forL0 (K := K) ?_
    refine ⟨v, rfl, v, ls, rfl, hv.ex e03, ft, fun p l sa ta us H5 e5 hl hsa hta sp gl bs gs gt => ⟨p, _, 0, .ref l, rfl, rfl, sp, rfl, ?_⟩⟩
    have e05 := e03.trans e5
    have g15 := (e2.trans (e3.trans e5)) _ _ g1
    have g25 := (e3.trans e5) _ _ g2
    have nl1 : l ≠ d1 := fun z => by
      rw [z, g15] at gl
      cases gl
    have nl2 : l ≠ d2 := fun z => by
      rw [z, g25] at gl
      cases gl
    have ul : us.length = (endG ls ls.length).1.length := bs.len
    have eline : placesG ls = (List.range ls.length).map fun l => ((plcF l (endG ls ls.length).1 0 none).getD 0, (plcB l (endG ls ls.length).1 0 none).getD 0) := rfl
    rw [eline] at q
    generalize (endG ls ls.length).1 = line at bs ul all f1 f2 q
    have lus : us.length ≤ 1000 := by omega
    refine q_forL (K := K) (a := l) (xs := us) ev_c (sq_of gl) (fun k σ' H' => ∃ (pl : Int) (y4 y5 : Option V) (kF kB : List (Key × V)) (fF fB : Nat → Option Int), σ' = [some v, some (.ref d1), some (.ref d2), some (.int pl), y4, y5] ∧ ExB2 d1 d2 H5 H' ∧ H' d1 = some (.dK kF) ∧ H' d2 = some (.dK kB) ∧ kF.length ≤ k ∧ kB.length ≤ k ∧ (∀ j : Nat, valV kF (.inl (j : Int)) = (fF j).map V.int) ∧ (∀ j : Nat, valV kB (.inl (j : Int)) = (fB j).map V.int) ∧ (∀ j, plcF j (line.drop k) pl (fF j) = plcF j line 0 none) ∧ (∀ j, plcB j (line.drop k) pl (fB j) = plcB j line 0 none)) (fun H6 e6 => ⟨0, none, none, [], [], fun _ => none, fun _ => none, rfl, .of e6, e6 _ _ g15, e6 _ _ g25, Nat.le_refl _, Nat.le_refl _, fun j => rfl, fun j => rfl, fun j => rfl, fun j => rfl⟩) (fun k σ' H6 _ hW => ?_) (fun k x σ' H6 hx hW => ?_) (fun σ' H6 hW => ?_)
    · obtain ⟨pl, y4, y5, kF, kB, fF, fB, rfl, x6, _⟩ := hW
      exact sq_of (x6 _ _ nl1 nl2 gl)
    · obtain ⟨pl, y4, y5, kF, kB, fF, fB, rfl, x6, w1, w2, w3, w4, w5, w6, w7, w8⟩ := hW
      obtain ⟨b, hb, p2, rfl, hp2⟩ := bs.at' hx
      have hk : k < us.length := (List.getElem?_eq_some_iff.mp hx).1
      obtain ⟨j0, hj0, hjn⟩ := f1 b (List.mem_of_getElem? hb)
      have hdrop : line.drop k = b :: line.drop (k + 1) := by
        obtain ⟨h1, h2⟩ := List.getElem?_eq_some_iff.mp hb
        rw [List.drop_eq_getElem_cons h1, h2]
      have b6 := beasts_exD bs x6 g15 g25
      obtain ⟨b', hb', p2', e', hp6⟩ := b6.at' hx
      cases e'
      rw [hb] at hb'
      cases hb'
      refine ⟨p2, _, rfl, st_of hp6, rfl, _, _, rfl, _, _, rfl, rfl, ?_⟩
      dsimp only
      refine s_at [some v, some (.ref d1), some (.ref d2), some (.int pl), some (.int b.1), some (.int b.2)] rfl ?_
      have rest : ∀ (kF' : List (Key × V)) (H7 : Hp), ExB2 d1 d2 H5 H7 → H7 d1 = some (.dK kF') → H7 d2 = some (.dK kB) → kF'.length ≤ k + 1 → (∀ j : Nat, valV kF' (.inl (j : Int)) = (if b.1 = (j : Int) ∧ fF j = none then some pl else fF j).map V.int) → ∀ (N : L2.St → Hp → Prop), (∀ σ2 H2, (∃ (pl : Int) (y4 y5 : Option V) (kF kB : List (Key × V)) (fF fB : Nat → Option Int), σ2 = [some v, some (.ref d1), some (.ref d2), some (.int pl), y4, y5] ∧ ExB2 d1 d2 H5 H2 ∧ H2 d1 = some (.dK kF) ∧ H2 d2 = some (.dK kB) ∧ kF.length ≤ k + 1 ∧ kB.length ≤ k + 1 ∧ (∀ j : Nat, valV kF (.inl (j : Int)) = (fF j).map V.int) ∧ (∀ j : Nat, valV kB (.inl (j : Int)) = (fB j).map V.int) ∧ (∀ j, plcF j (line.drop (k + 1)) pl (fF j) = plcF j line 0 none) ∧ (∀ j, plcB j (line.drop (k + 1)) pl (fB j) = plcB j line 0 none)) → N σ2 H2) → ∀ (ct bk : L2.St → Hp → Prop) (rt : VK), tSeq (tAug 3 (tVar 5) (ipI fun i j => i + j)) (tAsg (tOp (rI0 fun i j => .int (i - j)) (tVar 3) (tC (.int 1))) (gSub (tVar 2) (tVar 4) rSetD)) { nx := N, ct := ct, bk := bk, rt := rt } [some v, some (.ref d1), some (.ref d2), some (.int pl), some (.int b.1), some (.int b.2)] H7 := fun kF' H7 x7 h1 h2 hl7 hF N hN ct bk rt => by
        refine q_aug (f := fun i j => i + j) (b := b.2) rfl (ev_var rfl) fun H8 e8 => ?_
        refine s_at [some v, some (.ref d1), some (.ref d2), some (.int (pl + b.2)), some (.int b.1), some (.int b.2)] rfl ?_
        refine s_setK (k := .inl b.1) (v := .int (pl + b.2 - 1)) (ev_op (ev_var rfl) ev_c rv_I0) (ev_var rfl) (ev_var rfl) (e8 _ _ h2) (by omega) fun H9 e9 => ?_
        have lk := putK_len (kvs := kB) (k := .inl b.1) (v := .int (pl + b.2 - 1))
        refine hN _ _ ⟨pl + b.2, _, _, kF', _, fun j => if b.1 = (j : Int) ∧ fF j = none then some pl else fF j, fun j => if b.1 = (j : Int) then some (pl + b.2 - 1) else fB j, rfl, ExB2.snd (x7.trans (.of (e8.trans e9))), ?_, upd_same, hl7, by omega, hF, fun j => ?_, fun j => ?_, fun j => ?_⟩
        · rw [upd_ne n12]
          exact (e8.trans e9) _ _ h1
        · rw [valV_put, w6]
          dsimp only
          by_cases hc : b.1 = (j : Int)
          · rw [if_pos (show (Sum.inl (j : Int) : Key) = .inl b.1 by rw [hc]), if_pos hc]
            rfl
          · rw [if_neg (show ¬ (Sum.inl (j : Int) : Key) = .inl b.1 from fun z => hc (Sum.inl.inj z).symm), if_neg hc]
        · have := w7 j
          rw [hdrop, plcF] at this
          exact this
        · have := w8 j
          rw [hdrop, plcB] at this
          exact this
      refine q_if (b := !(valV kF (.inl b.1)).isSome) (et_notinK (k := .inl b.1) (ev_var rfl) (ev_var rfl) w1) (fun hc H7 e7 => ?_) (fun hc H7 e7 => ?_)
      · have hnone : fF j0 = none := by
          rw [hj0, w5 j0] at hc
          cases hf : fF j0 with
          | none => rfl
          | some i =>
            rw [hf] at hc
            cases hc
        refine s_setK (k := .inl b.1) (v := .int pl) (ev_var rfl) (ev_var rfl) (ev_var rfl) (e7 _ _ w1) (by omega) fun H8 e8 => ?_
        have lk := putK_len (kvs := kF) (k := .inl b.1) (v := .int pl)
        refine rest _ _ (ExB2.fst (x6.trans (.of (e7.trans e8)))) upd_same ?_ (by omega) (fun j => ?_) _ (fun σ2 H2 h => h) _ _ _
        · rw [upd_ne (Ne.symm n12)]
          exact (e7.trans e8) _ _ w2
        · rw [valV_put, w5]
          by_cases hc : b.1 = (j : Int)
          · have ej : j = j0 := by omega
            rw [if_pos (show (Sum.inl (j : Int) : Key) = .inl b.1 by rw [hc]), if_pos ⟨hc, by rw [ej]; exact hnone⟩]
            rfl
          · rw [if_neg (show ¬ (Sum.inl (j : Int) : Key) = .inl b.1 from fun z => hc (Sum.inl.inj z).symm), if_neg (fun z => hc z.1)]
      · refine rest kF H7 (x6.trans (.of e7)) (e7 _ _ w1) (e7 _ _ w2) (by omega) (fun j => ?_) _ (fun σ2 H2 h => h) _ _ _
        rw [w5]
        by_cases hh : b.1 = (j : Int) ∧ fF j = none
        · have ej : j = j0 := by omega
          rw [hj0, w5 j0, ← ej, hh.2] at hc
          cases hc
        · rw [if_neg hh]
    · obtain ⟨pl, y4, y5, kF, kB, fF, fB, rfl, x6, w1, w2, w3, w4, w5, w6, w7, w8⟩ := hW
      have hd0 : line.drop us.length = [] := by
        rw [ul]
        exact List.drop_eq_nil_of_le (Nat.le_refl _)
      have e06 : Ex H H6 := ex_ex2 e05 x6 hd1 fd2
      have hv6 := hv.ex e06
      have valF : ∀ i, i < ls.length → valV kF (.inl (i : Int)) = some (.int ((plcF i line 0 none).getD 0)) := fun i hi => by
        have := w7 i
        rw [hd0, plcF] at this
        obtain ⟨z, hz⟩ := plcF_some (p := 0) (o := none) (.inr (all i hi))
        rw [w5, this, hz]
        rfl
      have valB : ∀ i, i < ls.length → valV kB (.inl (i : Int)) = some (.int ((plcB i line 0 none).getD 0)) := fun i hi => by
        have := w8 i
        rw [hd0, plcB] at this
        obtain ⟨z, hz⟩ := plcB_some (p := 0) (o := none) (.inr (all i hi))
        rw [w6, this, hz]
        rfl
      refine (ept_rng (σ := [some v, some (.ref d1), some (.ref d2), some (.int pl), y4, y5]) (j := 4) (vs := [4]) (n := ls.length) (fun i => (plcF i line 0 none).getD 0) (fun i => (plcB i line 0 none).getD 0) (ea_cons (ev_lenH (K := K) (ev_var rfl) hv6) ea_nil) (by omega) (fun x => rfl) (fun i H7 e7 hi => ev_dget (ev_var rfl) (ev_var rfl) (e7 _ _ w1) (valF i hi)) (fun i H7 e7 hi => ev_dget (ev_var rfl) (ev_var rfl) (e7 _ _ w2) (valB i hi))) H6 (Ex.refl H6) _ fun c ws H7 hc e7 g7 b7 => ?_
      exact q c ws H7 (fresh_back e06 hc) (e06.trans e7) g7 b7
end
end K78
set_option maxHeartbeats 4000000
namespace K78
open PySem PySem.Spec PyProof.Rows L2 Evl HH RZ
section
variable {P : Program} {w : World} {K : PySem.W.Frag} {mg : Str → Option Value} {base : Heap}
theorem ok_together {f : Addr} {fd : FuncData} (F : FnP K "together" s_together f fd) (g : mg "together" = some (.ref f)) (b : Binds K fd ["lots"] []) (m_len : mg "len" = none) (m_tuple : mg "tuple" = none) : Has P w K mg base 1 "together" ["lots"] (spTogether K) f fd := by
  refine ⟨F.ok sc_together (fun vs H Q E h => ?_) (fun cdv A outer s H vs Q E hr h => ?_), g, F.kp, b⟩
  · obtain ⟨a, us, ls, rfl, _⟩ := h
    rfl
  · obtain ⟨a, us, ls, rfl, sq, la, hl, q⟩ := h
    have hu : (A.deeper (envOfC "together" (defScope s_together) s.heap.objs.size f cdv)).units + 64 < cLine := by
      have := hr.un
      omega
    refine ⟨_, PSs.nox (pss_cons (ps_set (i := 1) sc_together.nd rfl (.inl rfl) (pe_lst pa_nil))
      (pss_cons (ps_for PassesOwn.never rfl (pi_list (pv 0)) (pg_tup rfl (pgs_cons (pg_name (i := 2) sc_together.nd rfl (Or.inl rfl)) (pgs_cons (pg_name (i := 3) sc_together.nd rfl (Or.inl rfl)) (pgs_cons (pg_name (i := 4) sc_together.nd rfl (Or.inl rfl)) pgs_nil))))
        (pss_cons (ps_set (i := 5) sc_together.nd rfl (.inl rfl) (pe_and (pe_cmpR op_gt (pe_callB call_len_seq (by rfl) m_len PySem.boot_len (pa_cons (pv 1) pa_nil)) pe_int (nomark _)) (pe_one (pe_cmpR (op_eqD hu) (pe_slice sl_tupA (pe_ix ix_list (pv 1) (pe_un un_neg pe_int) (fun _ _ => rfl)) po_none (po_some pe_int)) (pe_tup (pa_cons (pv 2) (pa_cons (pv 3) pa_nil))) (nomark _)))))
      (Evl.pss_cut (ps_set (i := 6) sc_together.nd rfl (.inl rfl) (pe_ifExp (pt_val (pv 5)) (pe_ix ix_tup (pe_bm0 PySem.F.plainAttrs_list PySem.F.slot_list_pop PySem.F.type_list_pop mt_pop (pv 1)) pe_int (fun _ _ => rfl)) pe_int))
      (pss_one (ps_expr (pe_bm PySem.F.plainAttrs_list PySem.F.slot_list_append PySem.F.type_list_append mt_append (pv 1) (pa_cons (pe_tup (pa_cons (pv 2) (pa_cons (pv 3) (pa_cons (pe_op op_add (pv 6) (pv 4)) pa_nil)))) pa_nil)))))))
      (pss_one (ps_ret (pe_tupleOf (by rfl) m_tuple (pv 1)))))), ?_⟩
    refine q_asgL (el_lst ea_nil (by decide)) fun hd H1 hhd e1 g1 => ?_
    refine ⟨.ref a, rfl, a, rfl, ⟨_, ex_l e1 sq⟩, ?_⟩
    refine for_list (K := K) (xs := us) (fun k σ' H' => ∃ (y2 y3 y4 y5 y6 : Option V) (ws : List V), σ' = [some (.ref a), some (.ref hd), y2, y3, y4, y5, y6] ∧ Ex H H' ∧ H' hd = some (.lst ws) ∧ LotsA K H' ws (packL (ls.take k))) ⟨_, _, _, _, _, [], rfl, e1, g1, .nil⟩ (fun k σ' H' _ hW => ?_) (fun k x σ' H2 hx hW => ?_) (fun σ' H2 hW => ?_)
    · obtain ⟨y2, y3, y4, y5, y6, ws, rfl, c1, c2, c3⟩ := hW
      exact ex_l c1 sq
    · obtain ⟨y2, y3, y4, y5, y6, ws, rfl, e2, g2, l2⟩ := hW
      obtain ⟨⟨st, tl, mn⟩, hlk, p, rfl, sqp⟩ := All2.get la hx
      refine ⟨p, _, rfl, ex_t e2 sqp, rfl, _, _, rfl, _, _, rfl, _, _, rfl, rfl, ?_⟩
      have lenp := packL_len (ls.take k)
      rw [List.length_take] at lenp
      rw [packL_take hlk] at *
      generalize packL (ls.take k) = acc at l2 lenp
      have wl : ws.length ≤ 1000 := by rw [All2.len l2]; omega
      dsimp only
      refine q_asg (v := .bl (alikeB acc st tl)) (fun H3 e3 Q3 k3 => ?_) fun H3 e3 => ?_
      · rcases List.eq_nil_or_concat acc with z | ⟨pre, l, z⟩
        · subst z
          cases l2
          have ev := ev_andV (ta := tOp (rI0 fun i j => .bl (decide (i > j))) (tCB (rLenS K) (tCons (tVar 1) tNil)) (tC (.int 0))) (a := false) (b := false) (σ := [some (.ref a), some (.ref hd), some (.int st), some (.int tl), some (.int mn), y5, y6]) (ev_is (ev_op (ev_len (K := K) (ev_var rfl) (sq_of g2)) ev_c rv_I0) rfl) (tb := tOp (rEqD K) (tSl (rSlA K) (tOp (rIxL K) (tVar 1) (tUn (rU fun i => .int (-i)) (tC (.int 1)))) tNoPart (tPart (tC (.int 2)))) (tTup (tCons (tVar 2) (tCons (tVar 3) tNil)))) (fun z => by cases z)
          exact ev H3 e3 Q3 k3
        · rw [List.concat_eq_append] at z
          subst z
          have ev := ev_andV (ta := tOp (rI0 fun i j => .bl (decide (i > j))) (tCB (rLenS K) (tCons (tVar 1) tNil)) (tC (.int 0))) (a := true) (b := decide (l.1 = st ∧ l.2.1 = tl)) (σ := [some (.ref a), some (.ref hd), some (.int st), some (.int tl), some (.int mn), y5, y6]) (ev_is (ev_op (ev_len (K := K) (ev_var rfl) (sq_of g2)) ev_c rv_I0) (by
            have : (ws.length : Int) > 0 := by rw [All2.len l2, List.length_append]; show (0 : Int) < ((pre.length + 1 : Nat) : Int); omega
            rw [decide_eq_true this])) (fun _ => ev_last2 (K := K) (ih := 1) (is := 2) (it := 3) rfl rfl rfl g2 l2)
          rw [alike_snoc] at k3
          exact ev H3 e3 Q3 k3
      have g3 := e3 _ _ g2
      have l3 := l2.ex' e3
      have e03 := e2.trans e3
      refine q_cut (M := fun σ' H' => ∃ (ws' : List V), σ' = [some (.ref a), some (.ref hd), some (.int st), some (.int tl), some (.int mn), some (.bl (alikeB acc st tl)), some (.int (befL acc st tl))] ∧ Ex H H' ∧ H' hd = some (.lst ws') ∧ LotsA K H' ws' (popL acc st tl)) ?_ (fun σ' H4 hM => ?_)
      · refine ⟨_, rfl, _, rfl, ite2 (fun hc => ?_) (fun hc => ?_)⟩
        · obtain ⟨pre, m, rfl⟩ := alike_ex hc
          obtain ⟨w1, w2, rfl, h1, h2⟩ := All2.split l3
          cases h2 with
          | cons ry nl =>
            cases nl
            obtain ⟨yp, rfl, sqy⟩ := ry
            refine ⟨.ref hd, rfl, .inl ⟨rfl, _, sq_of g3⟩, hd, _, .ref yp, rfl, rfl, g3, by rw [List.length_append]; show (w1 ++ _)[w1.length + 1 - 1]? = _; rw [Nat.add_sub_cancel, List.getElem?_append_right (Nat.le_refl _), Nat.sub_self]; rfl, ?_⟩
            rw [show (w1 ++ [V.ref yp]).dropLast = w1 from List.dropLast_concat ..]
            have x4 : ExB hd H3 (upd H3 hd (.lst w1)) := (ExB.refl _ _).upd
            refine ⟨yp, _, 2, .int m, rfl, rfl, x4.t g3 sqy, rfl, w1, ?_, Ex.mut e03 hhd, upd_same, ?_⟩
            · unfold befL
              rw [if_pos hc, List.getLast?_concat]
              rfl
            · unfold popL
              rw [if_pos hc, List.dropLast_concat]
              exact LotsA.exB' h1 x4 g3
        · refine ⟨ws, ?_, e03, g3, ?_⟩
          · unfold befL
            rw [if_neg hc]
            rfl
          · unfold popL
            rw [if_neg hc]
            exact l3
      obtain ⟨ws', rfl, e4, g4, l4⟩ := hM
      have pl : (popL acc st tl).length ≤ acc.length := by
        unfold popL
        split
        · rw [List.length_dropLast]; omega
        · exact Nat.le_refl _
      refine s_appU g4 (ev_var rfl) (eu_tup (ea_cons (ev_var rfl) (ea_cons (ev_var rfl) (ea_cons (ev_op (ev_var rfl) (ev_var rfl) rv_I0) ea_nil))) (by show 3 ≤ 100000; decide)) (by rw [All2.len l4]; omega) fun T H5 hT e5 h5 => ?_
      have g5 := e5 _ _ g4
      have x6 : ExB hd H5 (upd H5 hd (.lst (ws' ++ [.ref T]))) := (ExB.refl _ _).upd
      refine ⟨_, _, _, _, _, ws' ++ [.ref T], rfl, Ex.mut (e4.trans e5) hhd, upd_same, ?_⟩
      exact LotsA.exB' (All2.app (l4.ex' e5) (.cons ⟨T, rfl, st_of h5⟩ .nil)) x6 g5
    · obtain ⟨y2, y3, y4, y5, y6, ws, rfl, e2, g2, l2⟩ := hW
      rw [All2.len la, List.take_length] at l2
      refine ⟨.ref hd, rfl, .inl ⟨hd, _, rfl, sq_of g2, fun rt hrt => q (.ref rt) _ (e2.trans (Ex.new hrt)) ⟨rt, ws, rfl, st_of upd_same, l2.ex' (Ex.new hrt)⟩⟩⟩
theorem ok_herd_of {f f1 : Addr} {fd fd1 : FuncData} (F : FnP K "herd_of" s_herd_of f fd) (g : mg "herd_of" = some (.ref f)) (b : Binds K fd ["row"] []) (h_together : Has P w K mg base 1 "together" ["lots"] (spTogether K) f1 fd1) : Has P w K mg base 2 "herd_of" ["row"] (spHerdOf K) f fd := by
  refine ⟨F.ok sc_herd_of (fun vs H Q E h => ?_) (fun cdv A outer s H vs Q E hr h => ?_), g, F.kp, b⟩
  · obtain ⟨v, rs, rfl, _⟩ := h
    rfl
  · obtain ⟨v, rs, rfl, hv, hl, q⟩ := h
    refine ⟨_, PSs.nox (pss_one (ps_ret (pe_call h_together.G (hr.mono (by decide)) (by rfl) h_together.g h_together.kp h_together.b .nil pass0 (pa_cons (pe_lc (own := [("strength", 1), ("toll", 2)]) (g := gTup K 2 (gCons (gName 1) (gCons (gName 2) gNil))) (by rfl) sc_herd_of.nd (pi_tup (pv 0)) (blkOk_by (own := [("strength", 1), ("toll", 2)]) (N := ["row", "strength", "toll"]) (sc := defScope s_herd_of) (by decide +kernel)) (fun _ _ _ _ _ => (pg_tup rfl (pgs_cons (pg_name (i := 1) sc_herd_of.nd rfl (Or.inl rfl)) (pgs_cons (pg_name (i := 2) sc_herd_of.nd rfl (Or.inl rfl)) pgs_nil)))) (fun _ _ _ _ _ => pts_nil) (fun _ _ _ _ _ => (pe_tup (pa_cons (pv 1) (pa_cons (pv 2) (pa_cons pe_int pa_nil)))))) pa_nil)))), ?_⟩
    refine ret_run (call1_run ?_)
    exact lots_ones (K := K) (σ := [some v, none, none]) (te := tVar 0) (i := 1) (j := 2) (vs := [1, 2]) (ev_var rfl) hv hl (fun _ _ => rfl) (fun _ _ => rfl) (fun _ _ => rfl) fun a us H2 ha e2 g2 l2 => ⟨a, us, ones rs, rfl, sq_of g2, l2, by unfold ones; rw [List.length_map]; exact hl, fun z H3 e3 hz => q z H3 (e2.trans e3) hz⟩
theorem ok_is_number {f : Addr} {fd : FuncData} (F : FnP K "is_number" s_is_number f fd) (g : mg "is_number" = some (.ref f)) (b : Binds K fd ["thing"] []) (m_isinstance : mg "isinstance" = none) (m_int : mg "int" = none) (m_bool : mg "bool" = none) : Has P w K mg base 1 "is_number" ["thing"] spIsNum f fd := by
  refine ⟨F.ok sc_is_number (fun vs H Q E h => ?_) (fun cdv A outer s H vs Q E hr h => ?_), g, F.kp, b⟩
  · obtain ⟨i, rfl, _⟩ := h
    rfl
  · obtain ⟨i, rfl, q⟩ := h
    refine ⟨_, PSs.nox (pss_one (ps_ret (pe_and (pe_callB call_isi (by rfl) m_isinstance (by decide +kernel) (pa_cons (pv 0) (pa_cons (pe_bltn (v := .ty "int") (by rfl) m_int (by decide +kernel) rfl) pa_nil))) (pe_one (pe_not (pe_callB call_isi (by rfl) m_isinstance (by decide +kernel) (pa_cons (pv 0) (pa_cons (pe_bltn (v := .ty "bool") (by rfl) m_bool (by decide +kernel) rfl) pa_nil)))))))), ?_⟩
    exact s_ret (ev_andV (a := true) (b := true) (ev_isi (K := K) (ev_var rfl) (.int i) (by decide +kernel)) fun _ => ev_notV (a := false) (ev_isi (K := K) (ev_var rfl) (.int i) (by decide +kernel))) fun H1 e1 => q H1 e1
theorem ok_is_lot {f f1 : Addr} {fd fd1 : FuncData} (F : FnP K "is_lot" s_is_lot f fd) (g : mg "is_lot" = some (.ref f)) (b : Binds K fd ["thing"] []) (h_is_number : Has P w K mg base 1 "is_number" ["thing"] spIsNum f1 fd1) (m_isinstance : mg "isinstance" = none) (m_tuple : mg "tuple" = none) (m_len : mg "len" = none) (m_all : mg "all" = none) : Has P w K mg base 2 "is_lot" ["thing"] (spIsLot K) f fd := by
  refine ⟨F.ok sc_is_lot (fun vs H Q E h => ?_) (fun cdv A outer s H vs Q E hr h => ?_), g, F.kp, b⟩
  · obtain ⟨v, l, rfl, _⟩ := h
    rfl
  · obtain ⟨v, ⟨st, tl, mn⟩, rfl, ⟨p, rfl, sq⟩, h1, h2, q⟩ := h
    refine ⟨_, PSs.nox (pss_cons (ps_if (PW.pt (pw_or (pt_not (pt_val (pe_callB call_isi (by rfl) m_isinstance (by decide +kernel) (pa_cons (pv 0) (pa_cons (pe_bltn (v := .ty "tuple") (by rfl) m_tuple (by decide +kernel) rfl) pa_nil))))) (pw_or (pt_cmpR op_ne (pe_callB call_len_seq (by rfl) m_len PySem.boot_len (pa_cons (pv 0) pa_nil)) pe_int (nomark _)) (pw_or1 (pt_not (pt_val (pe_callB (cr_all rfl) (by rfl) m_all (by decide +kernel) (pa_cons (pe_lc (own := [("part", 1)]) (g := gName 1) (by rfl) sc_is_lot.nd (pi_tup (pv 0)) (blkOk_by (own := [("part", 1)]) (N := ["thing", "part"]) (sc := defScope s_is_lot) (by decide +kernel)) (fun _ _ _ _ _ => (pg_name (i := 1) sc_is_lot.nd rfl (Or.inl rfl))) (fun _ _ _ _ _ => pts_nil) (fun _ _ _ _ _ => (pe_call h_is_number.G (hr.mono (by decide)) (by rfl) h_is_number.g h_is_number.kp h_is_number.b .nil pass0 (pa_cons (pv 1) pa_nil)))) pa_nil)))))))) (pss_one (ps_ret pe_bl)) pss_nil)
      (pss_one (ps_ret (pe_and (pe_cmpR op_ge (pe_ix ix_tup (pv 0) pe_int (fun _ _ => rfl)) pe_int (nomark _)) (pe_one (pe_cmpR op_ge (pe_ix ix_tup (pv 0) pe_int (fun _ _ => rfl)) pe_int (nomark _))))))), ?_⟩
    have kA := el_allTup (K := K) (a := p) (xs := [V.int st, .int tl, .int mn]) (tl := tVar 0) (j := 1) (vs := [1]) (te := tCall spIsNum [] E0 (tCons (tVar 1) tNil)) (σ := [some (.ref p), none]) (H := H) (ev_var rfl) sq (by show 3 ≤ 40000; decide) (fun _ => rfl) (fun i x H1 e1 hx H2 e2 Q2 k2 => by
      have : ∃ n : Int, x = .int n := by
        have := List.mem_of_getElem? hx
        simp only [List.mem_cons, List.not_mem_nil, or_false] at this
        rcases this with z | z | z <;> exact ⟨_, z⟩
      obtain ⟨n, rfl⟩ := this
      exact ⟨.int n, rfl, n, rfl, k2⟩)
    refine q_when (b := false) (et_or (a := false) (b := false) (et_is (et_not (et_B (ev_isi (K := K) (b := true) (ev_var rfl) (.tup sq) (by decide +kernel)))) rfl) fun _ => et_or (a := false) (b := false) (et_is (et_test (ev_op (ev_lenTup (K := K) (ev_var rfl) sq) ev_c (rv_ne rfl))) (by rw [decide_eq_true (show V.int (([V.int st, .int tl, .int mn].length : Nat) : Int) = V.int 3 from rfl)]; rfl)) fun _ => et_is (et_not (et_B (ev_allT (n := 3) kA))) rfl) (fun z => by cases z) fun _ H1 e1 => ?_
    have ev : Ev (tAndV (tOp (rI0 fun i j => .bl (decide (i ≥ j))) (tOp (rIxT K) (tVar 0) (tC (.int 1))) (tC (.int 0))) (tOp (rI0 fun i j => .bl (decide (i ≥ j))) (tOp (rIxT K) (tVar 0) (tC (.int 2))) (tC (.int 1)))) [some (V.ref p), none] H1 (.bl (true && true)) := ev_andV (a := true) (b := true) (ev_is (ev_op (ev_op (ev_var rfl) ev_c (rv_ixT (K := K) (ex_t e1 sq) rfl)) ev_c rv_I0) (by rw [decide_eq_true (show tl ≥ 0 from h1)])) (fun _ => ev_is (ev_op (ev_op (ev_var rfl) ev_c (rv_ixT (K := K) (ex_t e1 sq) rfl)) ev_c rv_I0) (by rw [decide_eq_true (show mn ≥ 1 from h2)]))
    exact ret_run (ev H1 (Ex.refl H1) _ fun H2 e2 => q H2 (e1.trans e2))
theorem ok_is_herd {f f1 : Addr} {fd fd1 : FuncData} (F : FnP K "is_herd" s_is_herd f fd) (g : mg "is_herd" = some (.ref f)) (b : Binds K fd ["thing"] []) (h_is_lot : Has P w K mg base 2 "is_lot" ["thing"] (spIsLot K) f1 fd1) (m_isinstance : mg "isinstance" = none) (m_tuple : mg "tuple" = none) (m_len : mg "len" = none) (m_all : mg "all" = none) (m_range : mg "range" = none) : Has P w K mg base 3 "is_herd" ["thing"] (spIsHerd K) f fd := by
  refine ⟨F.ok sc_is_herd (fun vs H Q E h => ?_) (fun cdv A outer s H vs Q E hr h => ?_), g, F.kp, b⟩
  · obtain ⟨v, ls, rfl, _⟩ := h
    rfl
  · obtain ⟨v, ls, rfl, ⟨p, us, rfl, sq, la⟩, l0, hl, good, ad, q⟩ := h
    have hu : (A.deeper (envOfC "is_herd" (defScope s_is_herd) s.heap.objs.size f cdv)).units + 64 < cLine := by
      have := hr.un
      omega
    refine ⟨_, PSs.nox (pss_cons (ps_if (PW.pt (pw_or (pt_not (pt_val (pe_callB call_isi (by rfl) m_isinstance (by decide +kernel) (pa_cons (pv 0) (pa_cons (pe_bltn (v := .ty "tuple") (by rfl) m_tuple (by decide +kernel) rfl) pa_nil))))) (pw_or (pt_cmpR op_eq (pe_callB call_len_seq (by rfl) m_len PySem.boot_len (pa_cons (pv 0) pa_nil)) pe_int (nomark _)) (pw_or1 (pt_not (pt_val (pe_callB (cr_all rfl) (by rfl) m_all (by decide +kernel) (pa_cons (pe_lc (own := [("part", 2)]) (g := gName 2) (by rfl) sc_is_herd.nd (pi_tup (pv 0)) (blkOk_by (own := [("part", 2)]) (N := ["thing", "at", "part"]) (sc := defScope s_is_herd) (by decide +kernel)) (fun _ _ _ _ _ => (pg_name (i := 2) sc_is_herd.nd rfl (Or.inl rfl))) (fun _ _ _ _ _ => pts_nil) (fun _ _ _ _ _ => (pe_call h_is_lot.G (hr.mono (by decide)) (by rfl) h_is_lot.g h_is_lot.kp h_is_lot.b .nil pass0 (pa_cons (pv 2) pa_nil)))) pa_nil)))))))) (pss_one (ps_ret pe_bl)) pss_nil)
      (pss_one (ps_ret (pe_callB (cr_all rfl) (by rfl) m_all (by decide +kernel) (pa_cons (pe_lc (own := [("at", 1)]) (g := gName 1) (by rfl) sc_is_herd.nd (pi_range2 (by rfl) m_range (pa_cons pe_int (pa_cons (pe_callB call_len_seq (by rfl) m_len PySem.boot_len (pa_cons (pv 0) pa_nil)) pa_nil))) (blkOk_by (own := [("at", 1)]) (N := ["thing", "at", "part"]) (sc := defScope s_is_herd) (by decide +kernel)) (fun _ _ _ _ _ => (pg_name (i := 1) sc_is_herd.nd rfl (Or.inl rfl))) (fun _ _ _ _ _ => pts_nil) (fun _ _ _ _ _ => (pe_cmpR (op_neDK (K := K) hu) (pe_slice (sl_tupAK (K := K)) (pe_ix (ix_tupK (K := K)) (pv 0) (pe_op op_sub (pv 1) pe_int) (fun _ _ => rfl)) po_none (po_some pe_int)) (pe_slice (sl_tupAK (K := K)) (pe_ix (ix_tupK (K := K)) (pv 0) (pv 1) (fun _ _ => rfl)) po_none (po_some pe_int)) (nomark _)))) pa_nil))))), ?_⟩
    have ul : us.length = ls.length := All2.len la
    have kA := el_allTup (K := K) (a := p) (xs := us) (tl := tVar 0) (j := 2) (vs := [2]) (te := tCall (spIsLot K) [] E0 (tCons (tVar 2) tNil)) (σ := [some (.ref p), none, none]) (H := H) (ev_var rfl) sq (by omega) (fun _ => rfl) (fun i x H1 e1 hx H2 e2 Q2 k2 => by
      obtain ⟨l, hlk, hx2⟩ := All2.get la hx
      have := good l (List.mem_of_getElem? hlk)
      exact ⟨x, rfl, x, l, rfl, (hx2.ex (e1.trans e2)), this.1, this.2, k2⟩)
    refine q_when (b := false) (et_or (a := false) (b := false) (et_is (et_not (et_B (ev_isi (K := K) (b := true) (ev_var rfl) (.tup sq) (by decide +kernel)))) rfl) fun _ => et_or (a := false) (b := false) (et_is (et_test (ev_op (ev_lenTup (K := K) (ev_var rfl) sq) ev_c (rv_eq rfl))) (decide_eq_false (fun z => by injection z with z; omega))) fun _ => et_is (et_not (et_B (ev_allT kA))) rfl) (fun z => by cases z) fun _ H1 e1 => ?_
    have sq1 := ex_t e1 sq
    have la1 := LotsA.ex' la e1
    have kB := el_lcR2 (ta := tCons (tC (.int 1)) (tCons (tCB (rLenS K) (tCons (tVar 0) tNil)) tNil)) (σ := [some (.ref p), none, none]) (H := H1) (j := 1) (vs := [1]) (lo := 1) (n := (us.length : Int)) (m := us.length - 1) (t := tYes) (te := tOp (rNeD K) (tSl (rSlA K) (tOp (rIxT K) (tVar 0) (tOp (rI0 fun i j => .int (i - j)) (tVar 1) (tC (.int 1)))) tNoPart (tPart (tC (.int 2)))) (tSl (rSlA K) (tOp (rIxT K) (tVar 0) (tVar 1)) tNoPart (tPart (tC (.int 2))))) (fun _ => true) (fun _ => .bl true) (ea_cons ev_c (ea_cons (ev_lenTup (K := K) (ev_var rfl) sq1) ea_nil)) ⟨by omega, by omega, by omega, by omega⟩ (by omega) (fun _ => rfl) (fun i H2 e2 hi => et_yes) (fun i H2 e2 hi _ H3 e3 Q3 k3 => by
      have h1 : i < us.length := by omega
      have h2 : i + 1 < us.length := by omega
      have e13 := e2.trans e3
      obtain ⟨la', hla, ra⟩ := All2.get la1 (List.getElem?_eq_getElem h1)
      obtain ⟨lb', hlb, rb⟩ := All2.get la1 (List.getElem?_eq_getElem h2)
      refine (ev_op (ev_var rfl) (ev_op (ev_var rfl) ev_c rv_I0) (rv_ixT (K := K) (ex_t e13 sq1) (by rw [show (1 : Int) + (i : Int) - 1 = (i : Int) by omega]; exact atI_nat (List.getElem?_eq_getElem h1))) : Ev (tOp (rIxT K) (tVar 0) (tOp (rI0 fun i j => .int (i - j)) (tVar 1) (tC (.int 1)))) [some (.ref p), some (.int (1 + (i : Int))), none] H3 us[i]) H3 (Ex.refl H3) _ fun H4 e4 => ⟨2, rfl, ?_⟩
      refine sl_lot (K := K) (ra.ex (e13.trans e4)) fun p1 H5 e5 gp1 => ?_
      have e15 := (e13.trans e4).trans e5
      refine (ev_op (ev_var rfl) (ev_var rfl) (rv_ixT (K := K) (ex_t e15 sq1) (by rw [show (1 : Int) + (i : Int) = ((i + 1 : Nat) : Int) by omega]; exact atI_nat (List.getElem?_eq_getElem h2))) : Ev (tOp (rIxT K) (tVar 0) (tVar 1)) [some (.ref p), some (.int (1 + (i : Int))), none] H5 us[i + 1]) H5 (Ex.refl H5) _ fun H6 e6 => ⟨2, rfl, ?_⟩
      refine sl_lot (K := K) (rb.ex (e15.trans e6)) fun p2 H7 e7 gp2 => ?_
      refine ⟨beastD (la'.1, la'.2.1), beastD (lb'.1, lb'.2.1), dp_pair ((e6.trans e7) _ _ gp1), dp_pair gp2, (nice_beast _).shaped (by decide), (nice_beast _).shaped (by decide), ?_⟩
      rw [beast_eqv, decide_eq_false (show ¬ ((la'.1, la'.2.1) : Int × Int) = (lb'.1, lb'.2.1) from fun z => adj_get ad hla hlb (Prod.mk.inj z))]
      exact k3 H7 (((e4.trans e5).trans e6).trans e7))
    have eB : given (us.length - 1) (fun _ => true) (fun _ => V.bl true) = (List.replicate (us.length - 1) true).map V.bl := by
      rw [given_all _ (fun _ => true)]
      congr 1
      rw [List.eq_replicate_iff]
      refine ⟨by rw [List.length_map, List.length_range], fun b hb => ?_⟩
      obtain ⟨_, _, rfl⟩ := List.mem_map.mp hb
      rfl
    rw [eB] at kB
    exact s_ret (D := { nx := fun _ H' => Q .non H', rt := Q }) (ev_allT kB) fun H2 e2 => q H2 (e1.trans e2)
theorem ok_law_dip {f : Addr} {fd : FuncData} (F : FnP K "_law_dip" s_law_dip f fd) (g : mg "_law_dip" = some (.ref f)) (b : Binds K fd ["_law_script", "_law_k"] []) (m_len : mg "len" = none) (m_abs : mg "abs" = none) (m_int : mg "int" = none) :
    Has P w K mg base 1 "_law_dip" ["_law_script", "_law_k"] (spDip K) f fd := by
  refine ⟨F.ok sc_law_dip (fun vs H Q E h => ?_) (fun cdv A outer s H vs Q E hr h => ?_), g, F.kp, b⟩
  · obtain ⟨a, k, ns, rfl, _⟩ := h
    rfl
  · obtain ⟨a, k, ns, rfl, hS, hk, q⟩ := h
    refine ⟨_, PSs.nox (pss_cons (ps_set (i := 2) sc_law_dip.nd rfl (.inl rfl) (pe_ifExp (pt_cmpR op_lt (pv 1) (pe_callB call_len_seq (by rfl) m_len PySem.boot_len (pa_cons (pv 0) pa_nil)) (nomark _)) (pe_ix ix_list (pv 0) (pv 1) (fun _ _ => rfl)) pe_int))
      (pss_one (ps_ret (pe_lst (pa_cons (pe_op op_mul (pe_callB call_abs (by rfl) m_abs (by decide +kernel) (pa_cons (pv 2) pa_nil)) (pe_callTy call_int1 (by rfl) m_int (by decide +kernel) (pa_cons (pe_cmpR op_ge (pe_callB call_abs (by rfl) m_abs (by decide +kernel) (pa_cons (pv 2) pa_nil)) (pe_op op_pow pe_int pe_int) (nomark _)) pa_nil))) (pa_cons (pe_op op_add (pe_op op_add (pe_op op_modN (pv 2) pe_int) (pe_op op_mul pe_int (pv 1))) pe_int) (pa_cons pe_int pa_nil))))))), ?_⟩
    refine q_asg (v := .int (ns.getD k 0)) (ev_if (b := decide ((k : Int) < ((ns.map V.int).length : Int))) (et_test (ev_op (ev_var rfl) (ev_len (ev_var rfl) hS) rv_I0)) (fun hd => ?_) (fun hd => ?_)) fun H1 e1 => ?_
    · have hk2 : k < ns.length := by
        have := of_decide_eq_true hd
        rw [List.length_map] at this
        omega
      have e : (ns.map V.int)[k]? = some (.int (ns.getD k 0)) := by
        rw [List.getElem?_map, List.getElem?_eq_getElem hk2, List.getD_eq_getElem?_getD, List.getElem?_eq_getElem hk2] <;> rfl
      exact ev_op (ev_var rfl) (ev_var rfl) (rv_ixL hS (atI_nat e))
    · have hk2 : ns.length ≤ k := by
        have := of_decide_eq_false hd
        rw [List.length_map] at this
        omega
      refine ev_is ev_c ?_
      rw [List.getD_eq_getElem?_getD, List.getElem?_eq_none hk2] <;> rfl
    · generalize ns.getD k 0 = c
      have r1 := fmod_lo (a := c) (show (0 : Int) < 2305843009213693951 by decide)
      have r2 := fmod_hi (a := c) (show (0 : Int) < 2305843009213693951 by decide)
      refine s_retL (el_lst (ea_cons (ev_op (ev_cb (ea_cons (ev_var rfl) ea_nil) rc_abs) (ev_cb (ea_cons (ev_op (ev_cb (ea_cons (ev_var rfl) ea_nil) rc_abs) (ev_op ev_c ev_c (rv_I ⟨by decide, by decide, by decide⟩)) rv_I0) ea_nil) rc_intB) (rv_I (.inr ?_))) (ea_cons (ev_op (ev_op (ev_op (ev_var rfl) ev_c (rv_I (by decide))) (ev_op ev_c (ev_var rfl) (rv_I (.inl ⟨by decide, by decide⟩))) rv_I0) ev_c rv_I0) (ea_cons ev_c ea_nil))) (by show 3 ≤ 100000; decide)) fun p H2 hp e2 h2 => ?_
      · exact b01 _
      · refine q p H2 (fresh_back e1 hp) (e1.trans e2) ⟨_, _, _, h2, ?_, by omega, by omega, by decide, by decide⟩
        refine Int.mul_nonneg ?_ ?_
        · split <;> omega
        · exact b01n _
theorem ok_law_take {f : Addr} {fd : FuncData} (F : FnP K "_law_take" s_law_take f fd) (g : mg "_law_take" = some (.ref f)) (b : Binds K fd ["_law_box", "_law_many"] []) : Has P w K mg base 1 "_law_take" ["_law_box", "_law_many"] spTake f fd := by
  refine ⟨F.ok sc_law_take (fun vs H Q E h => ?_) (fun cdv A outer s H vs Q E hr h => ?_), g, F.kp, b⟩
  · obtain ⟨p, m, n, rfl, _⟩ := h
    rfl
  · obtain ⟨p, m, n, rfl, hm, hm2, ⟨a, b, c, hb, ha, hb0, hb1, hc0, hc1⟩, hn, q⟩ := h
    refine ⟨_, PSs.nox (pss_cons (ps_if (pt_cmpR op_gt (pe_ix ix_list (pv 0) pe_int (fun _ _ => rfl)) pe_int (nomark _)) (pss_cons (ps_set (i := 2) sc_law_take.nd rfl (.inl rfl) (pe_op op_modN (pe_ix ix_list (pv 0) pe_int (fun _ _ => rfl)) (pv 1)))
      (pss_cons (ps_asg (pe_op op_fdivW (pe_ix ix_list (pv 0) pe_int (fun _ _ => rfl)) (pv 1)) (pg_sub (pv 0) pe_int set_list))
      (pss_one (ps_ret (pv 2))))) pss_nil)
      (pss_cons (ps_asg (pe_op op_add (pe_ix ix_list (pv 0) pe_int (fun _ _ => rfl)) pe_int) (pg_sub (pv 0) pe_int set_list))
      (pss_cons (ps_set (i := 3) sc_law_take.nd rfl (.inl rfl) (pe_op op_modN (pe_op op_powW (pe_op op_add (pe_ix ix_list (pv 0) pe_int (fun _ _ => rfl)) (pe_op op_mul pe_int (pe_ix ix_list (pv 0) pe_int (fun _ _ => rfl)))) pe_int) pe_int))
      (pss_cons (ps_set (i := 4) sc_law_take.nd rfl (.inl rfl) (pe_op op_modN (pe_op op_mulW (pe_op op_add (pe_op op_add (pv 3) (pe_ix ix_list (pv 0) pe_int (fun _ _ => rfl))) (pe_op op_fdivW (pe_ix ix_list (pv 0) pe_int (fun _ _ => rfl)) pe_int)) (pe_op op_add (pe_op op_add (pe_op op_modN (pv 3) pe_int) pe_int) (pe_ix ix_list (pv 0) pe_int (fun _ _ => rfl)))) pe_int))
      (pss_one (ps_ret (pe_op op_modN (pe_op op_fdivW (pe_op op_modN (pe_op op_add (pe_op op_mul (pv 4) pe_int) (pv 3)) pe_int) pe_int) (pv 1)))))))), ?_⟩
    refine q_when (b := decide (a > 0)) (et_B (ev_op (ev_op (ev_var rfl) ev_c (rv_ixL (sq_of hb) rfl)) ev_c rv_I0)) (fun hd H1 e1 => ?_) (fun hd H1 e1 => ?_)
    · have hb1' := e1 _ _ hb
      refine q_asg (ev_op (ev_op (ev_var rfl) ev_c (rv_ixL (sq_of hb1') rfl)) (ev_var rfl) (rv_I (show m ≠ 0 by omega))) fun H2 e2 => ?_
      have hb2' := e2 _ _ hb1'
      refine q_setL (j := 0) hb2' (ev_op (ev_op (ev_var rfl) ev_c (rv_ixL (sq_of hb2') rfl)) (ev_var rfl) (rv_I (divW_ok hm hm2))) (ev_var rfl) ev_c (by show 0 < 3; decide) fun H3 e3 => ?_
      refine s_ret (ev_var rfl) fun H4 e4 => ?_
      refine q _ H4 (fmod_lo hm) (fmod_hi hm) (((ExB.of ((e1.trans e2).trans e3)).upd).trans (.of e4)) ⟨a / m, b, c, e4 _ _ upd_same, Int.ediv_nonneg ha (by omega), hb0, hb1, hc0, by omega⟩
    · have hb1' := e1 _ _ hb
      refine q_setL (j := 2) hb1' (ev_op (ev_op (ev_var rfl) ev_c (rv_ixL (sq_of hb1') rfl)) ev_c rv_I0) (ev_var rfl) ev_c (by show 2 < 3; decide) fun H2 e2 => ?_
      have hx : upd H2 p (.lst ([V.int a, .int b, .int c].set 2 (.int (c + 1)))) p = some (.lst [V.int a, .int b, .int (c + 1)]) := upd_same
      have eb : ExB p H (upd H2 p (.lst ([V.int a, .int b, .int c].set 2 (.int (c + 1))))) := (ExB.of (e1.trans e2)).upd
      generalize upd H2 p (.lst ([V.int a, .int b, .int c].set 2 (.int (c + 1)))) = H3 at hx eb ⊢
      have hlim : c + 1 ≤ (Lim : Int) + 1 := by omega
      have g1 : CPowW (b + 39373 * (c + 1)) 5 := pow_ok (big_of (by omega) hlim 39373 b (by decide) (by decide) hb0 (by omega))
      have r1 := fmod_lo (a := (b + 39373 * (c + 1)) ^ (5 : Int).toNat) (show (0 : Int) < 2147483647 by decide)
      have r2 := fmod_hi (a := (b + 39373 * (c + 1)) ^ (5 : Int).toNat) (show (0 : Int) < 2147483647 by decide)
      refine q_asg (v := .int (((b + 39373 * (c + 1)) ^ (5 : Int).toNat).fmod 2147483647)) (ev_op (ev_op (ev_op (ev_op (ev_var rfl) ev_c (rv_ixL (sq_of hx) rfl)) (ev_op ev_c (ev_op (ev_var rfl) ev_c (rv_ixL (sq_of hx) rfl)) (rv_I (.inl ⟨by decide, by decide⟩))) rv_I0) ev_c (rv_I g1)) ev_c (rv_I (by decide))) fun H4 e4 => ?_
      generalize ((b + 39373 * (c + 1)) ^ (5 : Int).toNat).fmod 2147483647 = o at r1 r2 ⊢
      have hx4 := e4 _ _ hx
      have d0 : 0 ≤ b / 1000003 := by omega
      have d1 : b / 1000003 ≤ b := by omega
      have g2 : CMulW (o + (c + 1) + b / 1000003) (o.fmod 40009 + 7 + (c + 1)) := by
        have s1 := fmod_lo (a := o) (show (0 : Int) < 40009 by decide)
        have s2 := fmod_hi (a := o) (show (0 : Int) < 40009 by decide)
        have e1 : o + (c + 1) + b / 1000003 = (o + b / 1000003) + 1 * (c + 1) := by omega
        have e2 : o.fmod 40009 + 7 + (c + 1) = (o.fmod 40009 + 7) + 1 * (c + 1) := by omega
        rw [e1, e2]
        exact mulW_ok (big_of (by omega) hlim 1 _ (by decide) (by decide) (by omega) (by omega)) (big_of (by omega) hlim 1 _ (by decide) (by decide) (by omega) (by omega))
      refine q_asg (ev_op (ev_op (ev_op (ev_op (ev_var rfl) (ev_op (ev_var rfl) ev_c (rv_ixL (sq_of hx4) rfl)) rv_I0) (ev_op (ev_op (ev_var rfl) ev_c (rv_ixL (sq_of hx4) rfl)) ev_c (rv_I (divW_ok (by decide) (by decide)))) rv_I0) (ev_op (ev_op (ev_op (ev_var rfl) ev_c (rv_I (by decide))) ev_c rv_I0) (ev_op (ev_var rfl) ev_c (rv_ixL (sq_of hx4) rfl)) rv_I0) (rv_I g2)) ev_c (rv_I (by decide))) fun H5 e5 => ?_
      refine s_ret (ev_op (ev_op (ev_op (ev_op (ev_op (ev_var rfl) ev_c (rv_I (.inr ⟨by decide, by decide⟩))) (ev_var rfl) rv_I0) ev_c (rv_I (by decide))) ev_c (rv_I (divW_ok (by decide) (by decide)))) (ev_var rfl) (rv_I (show m ≠ 0 by omega))) fun H6 e6 => ?_
      refine q _ H6 (fmod_lo hm) (fmod_hi hm) (eb.trans (.of ((e4.trans e5).trans e6))) ⟨a, b, c + 1, e6 _ _ (e5 _ _ hx4), ha, hb0, hb1, by omega, by omega⟩
theorem ok_law_folded {f : Addr} {fd : FuncData} (F : FnP K "_law_folded" s_law_folded f fd) (g : mg "_law_folded" = some (.ref f)) (b : Binds K fd ["_law_script", "_law_many"] []) (m_list : mg "list" = none) (m_enumerate : mg "enumerate" = none) :
    Has P w K mg base 1 "_law_folded" ["_law_script", "_law_many"] (spFolded K) f fd := by
  refine ⟨F.ok sc_law_folded (fun vs H Q E h => ?_) (fun cdv A outer s H vs Q E hr h => ?_), g, F.kp, b⟩
  · obtain ⟨a, k, ns, rfl, _⟩ := h
    rfl
  · obtain ⟨a, m, ns, rfl, hm, hm2, hS, hlen, q⟩ := h
    refine ⟨_, PSs.nox (pss_cons (ps_set (i := 2) sc_law_folded.nd rfl (.inl rfl) (pe_callTy call_list_of (by rfl) m_list (by decide +kernel) (pa_cons (pe_slice sl_list (pv 0) po_none (po_some (pv 1))) pa_nil)))
      (pss_cons (ps_for PassesOwn.never rfl (pi_enum (by rfl) m_enumerate (pa_cons (pe_slice sl_list (pv 0) (po_some (pv 1)) (po_some pe_int)) pa_nil)) (pg_tup rfl (pgs_cons (pg_name (i := 3) sc_law_folded.nd rfl (Or.inl rfl)) (pgs_cons (pg_name (i := 4) sc_law_folded.nd rfl (Or.inl rfl)) pgs_nil)))
        (pss_one (ps_asg (pe_op op_add (pe_ix ix_list (pv 2) (pe_op op_modN (pv 3) (pv 1)) (fun _ _ => rfl)) (pe_op op_mul (pv 4) (pe_op op_add (pv 3) pe_int))) (pg_sub (pv 2) (pe_op op_modN (pv 3) (pv 1)) set_list))))
      (pss_one (ps_ret (pv 2))))), ?_⟩
    refine q_asgL (el_listN (el_sl (ev_var rfl) eo_none (eo_some (ev_var rfl)) hS)) fun l H1 hl e1 h1 => ?_
    rw [cut_to, ← List.map_take] at h1
    obtain ⟨zs, hzs, hzl⟩ := cut_ints ns (some (m : Int)) (some 63)
    rw [HT.sIx_nat] at hzl
    refine q_forE (el_sl (ev_var rfl) (eo_some (ev_var rfl)) (eo_some ev_c) (ex_l e1 hS)) (fun c i σ' H' => ∃ (y3 y4 : Option V) (ms : List Int), σ' = [some (.ref a), some (.int (m : Int)), some (.ref l), y3, y4] ∧ ms.length = min m ns.length ∧ H' l = some (.lst (ms.map V.int)) ∧ H' c = some (.lst (cutV (ns.map V.int) (some (m : Int)) (some 63))) ∧ Ex H H' ∧ l ≠ c) (fun c H2 hc e2 h2 => ?_) (fun c i σ' H' hi p => ?_) (fun c i x σ' H' T hx p hT => ?_) (fun c σ' H' p => ?_)
    · exact ⟨none, none, ns.take m, rfl, by rw [List.length_take], e2 _ _ h1, h2, e1.trans e2, ne_of_none h1 hc⟩
    · obtain ⟨y3, y4, ms, rfl, p1, p2, p3, p4, p5⟩ := p
      exact sq_of p3
    · obtain ⟨y3, y4, ms, rfl, p1, p2, p3, p4, p5⟩ := p
      rw [hzs, List.getElem?_map] at hx
      obtain ⟨z, hz, rfl⟩ := Option.map_eq_some_iff.mp hx
      have hi := (List.getElem?_eq_some_iff.mp hz).1
      have hms : ms.length = m := by omega
      refine ⟨T, _, rfl, st_of upd_same, rfl, _, _, rfl, _, _, rfl, rfl, ?_⟩
      have hlT : l ≠ T := ne_of_none p2 hT
      have h2 : (upd H' T (.tup [.int (i : Nat), .int z])) l = some (.lst (ms.map V.int)) := by
        rw [upd_ne hlT]
        exact p2
      have hj : i % m < ms.length := by
        rw [hms]
        exact Nat.mod_lt _ hm
      have hg : (ms.map V.int)[i % m]? = some (.int (ms[i % m])) := by
        rw [List.getElem?_map, List.getElem?_eq_getElem hj] <;> rfl
      have eI : Ev (tOp (rI (fun _ j => j ≠ 0) fun i j => .int (i.fmod j)) (tVar 3) (tVar 1)) [some (.ref a), some (.int (m : Int)), some (.ref l), some (.int (i : Nat)), some (.int z)] (upd H' T (.tup [.int (i : Nat), .int z])) (.int ((i % m : Nat) : Int)) := ev_is (ev_op (ev_var rfl) (ev_var rfl) (rv_I (show (m : Int) ≠ 0 by omega))) (by rw [fmod_nat])
      refine s_setL (j := i % m) h2 (ev_op (ev_op (ev_var rfl) eI (rv_ixL (sq_of h2) (atI_nat hg))) (ev_op (ev_var rfl) (ev_op (ev_var rfl) ev_c rv_I0) (rv_I (.inr ?_))) rv_I0) (ev_var rfl) eI (by rw [List.length_map]; exact hj) fun H3 e3 => ?_
      · have : zs.length ≤ 63 := by omega
        exact ⟨by omega, by omega⟩
      · refine ⟨some (.int (i : Nat)), some (.int z), ms.set (i % m) (ms[i % m] + z * ((i : Int) + 2)), rfl, by rw [List.length_set]; exact p1, ?_, ?_, ?_, p5⟩
        · rw [upd_same, List.map_set]
        · rw [upd_ne (Ne.symm p5)]
          exact e3 _ _ (Ex.new hT _ _ p3)
        · exact Ex.mut ((p4.trans (Ex.new hT)).trans e3) hl
    · obtain ⟨y3, y4, ms, rfl, p1, p2, p3, p4, p5⟩ := p
      exact s_ret (ev_var rfl) fun H2 e2 => q l H2 ms hl (p4.trans e2) (by omega) (e2 _ _ p2)
theorem ok_law_same {f : Addr} {fd : FuncData} (F : FnP K "_law_same" s_law_same f fd) (g : mg "_law_same" = some (.ref f)) (b : Binds K fd ["_law_found", "_law_due"] []) (m_isinstance : mg "isinstance" = none) (m_list : mg "list" = none) (m_tuple : mg "tuple" = none) (m_bool : mg "bool" = none) (m_str : mg "str" = none) (m_int : mg "int" = none) (m_len : mg "len" = none) (m_all : mg "all" = none) (m_zip : mg "zip" = none) :
    ∀ d, Has P w K mg base d "_law_same" ["_law_found", "_law_due"] (spSame K d) f fd
  | 0 => ⟨has_none, g, F.kp, b⟩
  | d + 1 => by
    have h_law_same := ok_law_same F g b m_isinstance m_list m_tuple m_bool m_str m_int m_len m_all m_zip d
    refine ⟨F.ok sc_law_same (fun vs H Q E h => ?_) (fun cdv A outer s H vs Q E hr h => ?_), g, F.kp, b⟩
    · obtain ⟨x, y, rfl, _⟩ := h
      rfl
    · obtain ⟨x, y, rfl, hA, q⟩ := h
      refine ⟨_, PSs.nox (pss_cons (ps_if (pt_val (pe_callB call_isiT (by rfl) m_isinstance (by decide +kernel) (pa_cons (pv 1) (pa_cons (pe_tup (pa_cons (pe_bltn (v := .ty "list") (by rfl) m_list (by decide +kernel) rfl) (pa_cons (pe_bltn (v := .ty "tuple") (by rfl) m_tuple (by decide +kernel) rfl) pa_nil))) pa_nil)))) (pss_cons (ps_if (PW.pt (pw_or (pt_cmpR op_ne (pe_callB call_isi (by rfl) m_isinstance (by decide +kernel) (pa_cons (pv 0) (pa_cons (pe_bltn (v := .ty "list") (by rfl) m_list (by decide +kernel) rfl) pa_nil))) (pe_callB call_isi (by rfl) m_isinstance (by decide +kernel) (pa_cons (pv 1) (pa_cons (pe_bltn (v := .ty "list") (by rfl) m_list (by decide +kernel) rfl) pa_nil))) (nomark _)) (pw_or1 (pt_cmpR op_ne (pe_callB call_isi (by rfl) m_isinstance (by decide +kernel) (pa_cons (pv 0) (pa_cons (pe_bltn (v := .ty "tuple") (by rfl) m_tuple (by decide +kernel) rfl) pa_nil))) (pe_callB call_isi (by rfl) m_isinstance (by decide +kernel) (pa_cons (pv 1) (pa_cons (pe_bltn (v := .ty "tuple") (by rfl) m_tuple (by decide +kernel) rfl) pa_nil))) (nomark _))))) (pss_one (ps_ret pe_bl)) pss_nil)
      (pss_one (ps_ret (pe_and (pe_cmpR op_eq (pe_callB call_len_seq (by rfl) m_len PySem.boot_len (pa_cons (pv 0) pa_nil)) (pe_callB call_len_seq (by rfl) m_len PySem.boot_len (pa_cons (pv 1) pa_nil)) (nomark _)) (pe_one (pe_callB (cr_all rfl) (by rfl) m_all (by decide +kernel) (pa_cons (pe_lc (own := [("_law_one", 2), ("_law_two", 3)]) (g := gTup K 2 (gCons (gName 2) (gCons (gName 3) gNil))) (by rfl) sc_law_same.nd (pi_zipA (by rfl) m_zip (pa_cons (pv 0) (pa_cons (pv 1) pa_nil))) (blkOk_by (own := [("_law_one", 2), ("_law_two", 3)]) (N := ["_law_found", "_law_due", "_law_one", "_law_two"]) (sc := defScope s_law_same) (by decide +kernel)) (fun _ _ _ _ _ => (pg_tup rfl (pgs_cons (pg_name (i := 2) sc_law_same.nd rfl (Or.inl rfl)) (pgs_cons (pg_name (i := 3) sc_law_same.nd rfl (Or.inl rfl)) pgs_nil)))) (fun _ _ _ _ _ => pts_nil) (fun _ _ _ _ _ => (pe_call h_law_same.G hr (by rfl) h_law_same.g h_law_same.kp h_law_same.b .nil pass0 (pa_cons (pv 2) (pa_cons (pv 3) pa_nil))))) pa_nil))))))) pss_nil)
      (pss_cons (ps_if (PW.pt (pw_or (pt_cmpR op_isN (pv 1) pe_non (nomark _)) (pw_or1 (pt_cmpR op_isN (pv 0) pe_non (nomark _))))) (pss_one (ps_ret (pe_and (pe_cmpR op_isN (pv 1) pe_non (nomark _)) (pe_one (pe_cmpR op_isN (pv 0) pe_non (nomark _)))))) pss_nil)
      (pss_cons (ps_if (PW.pt (pw_or (pt_val (pe_callB call_isi (by rfl) m_isinstance (by decide +kernel) (pa_cons (pv 1) (pa_cons (pe_bltn (v := .ty "bool") (by rfl) m_bool (by decide +kernel) rfl) pa_nil)))) (pw_or1 (pt_val (pe_callB call_isi (by rfl) m_isinstance (by decide +kernel) (pa_cons (pv 1) (pa_cons (pe_bltn (v := .ty "str") (by rfl) m_str (by decide +kernel) rfl) pa_nil))))))) (pss_one (ps_ret (pe_and (pe_cmpR op_eq (pe_callB call_isi (by rfl) m_isinstance (by decide +kernel) (pa_cons (pv 0) (pa_cons (pe_bltn (v := .ty "bool") (by rfl) m_bool (by decide +kernel) rfl) pa_nil))) (pe_callB call_isi (by rfl) m_isinstance (by decide +kernel) (pa_cons (pv 1) (pa_cons (pe_bltn (v := .ty "bool") (by rfl) m_bool (by decide +kernel) rfl) pa_nil))) (nomark _)) (pe_one (pe_cmpR op_eq (pv 0) (pv 1) (nomark _)))))) pss_nil)
      (pss_one (ps_ret (pe_and (pe_callB call_isi (by rfl) m_isinstance (by decide +kernel) (pa_cons (pv 0) (pa_cons (pe_bltn (v := .ty "int") (by rfl) m_int (by decide +kernel) rfl) pa_nil))) (pe_and (pe_not (pe_callB call_isi (by rfl) m_isinstance (by decide +kernel) (pa_cons (pv 0) (pa_cons (pe_bltn (v := .ty "bool") (by rfl) m_bool (by decide +kernel) rfl) pa_nil)))) (pe_one (pe_cmpR op_eq (pv 0) (pv 1) (nomark _)))))))))), ?_⟩
      rcases hA with ⟨rfl, hf⟩ | ⟨a, c, xs, ys, rfl, rfl, h3, h4, h5, h6⟩
      · cases x with
        | int i =>
          refine q_when (et_B (ev_isiT (ev_var rfl) (.int i) kit_int)) (fun hd => by cases hd) fun _ H1 e1 => ?_
          refine q_when (b := false) (et_or (a := false) (b := false) (et_test (ev_op (ev_var rfl) ev_c (rv_isN2 rfl))) fun _ => et_test (ev_op (ev_var rfl) ev_c (rv_isN2 rfl))) (fun hd => by cases hd) fun _ H2 e2 => ?_
          refine q_when (b := false) (et_or (a := false) (b := false) (et_B (ev_isi (T := "int") (C := "bool") (ev_var rfl) (.int i) (by decide +kernel))) fun _ => et_B (ev_isi (T := "int") (C := "str") (ev_var rfl) (.int i) (by decide +kernel))) (fun hd => by cases hd) fun _ H3 e3 => ?_
          refine s_ret (v := .bl true) (ev_andV (a := true) (b := true) (ev_isi (T := "int") (C := "int") (b := true) (ev_var rfl) (.int i) (by decide +kernel)) fun _ => ev_andV (a := true) (b := true) (ev_notV (ev_isi (T := "int") (C := "bool") (b := false) (ev_var rfl) (.int i) (by decide +kernel))) fun _ => ev_is (ev_op (ev_var rfl) (ev_var rfl) (rv_eq rfl)) (by rw [decide_eq_true rfl])) fun H4 e4 => q H4 (((e1.trans e2).trans e3).trans e4)
        | bl i =>
          refine q_when (et_B (ev_isiT (ev_var rfl) (.bl i) kit_bool)) (fun hd => by cases hd) fun _ H1 e1 => ?_
          refine q_when (b := false) (et_or (a := false) (b := false) (et_test (ev_op (ev_var rfl) ev_c (rv_isN2 rfl))) fun _ => et_test (ev_op (ev_var rfl) ev_c (rv_isN2 rfl))) (fun hd => by cases hd) fun _ H2 e2 => ?_
          refine q_when (b := true) (et_or (a := true) (b := true) (et_B (ev_isi (T := "bool") (C := "bool") (ev_var rfl) (.bl i) (by decide +kernel))) fun hd => by cases hd) (fun _ H3 e3 => ?_) (fun hd => by cases hd)
          refine s_ret (v := .bl true) (ev_andV (a := true) (b := true) (ev_op (ev_isi (T := "bool") (C := "bool") (b := true) (ev_var rfl) (.bl i) (by decide +kernel)) (ev_isi (T := "bool") (C := "bool") (b := true) (ev_var rfl) (.bl i) (by decide +kernel)) (rv_eq rfl)) fun _ => ev_is (ev_op (ev_var rfl) (ev_var rfl) (rv_eq rfl)) (by rw [decide_eq_true rfl])) fun H4 e4 => q H4 (((e1.trans e2).trans e3).trans e4)
        | str i =>
          refine q_when (et_B (ev_isiT (ev_var rfl) (.str i) kit_str)) (fun hd => by cases hd) fun _ H1 e1 => ?_
          refine q_when (b := false) (et_or (a := false) (b := false) (et_test (ev_op (ev_var rfl) ev_c (rv_isN2 rfl))) fun _ => et_test (ev_op (ev_var rfl) ev_c (rv_isN2 rfl))) (fun hd => by cases hd) fun _ H2 e2 => ?_
          refine q_when (b := true) (et_or (a := false) (b := true) (et_B (ev_isi (T := "str") (C := "bool") (b := false) (ev_var rfl) (.str i) (by decide +kernel))) fun _ => et_B (ev_isi (T := "str") (C := "str") (b := true) (ev_var rfl) (.str i) (by decide +kernel))) (fun _ H3 e3 => ?_) (fun hd => by cases hd)
          refine s_ret (v := .bl true) (ev_andV (a := true) (b := true) (ev_op (ev_isi (T := "str") (C := "bool") (b := false) (ev_var rfl) (.str i) (by decide +kernel)) (ev_isi (T := "str") (C := "bool") (b := false) (ev_var rfl) (.str i) (by decide +kernel)) (rv_eq rfl)) fun _ => ev_is (ev_op (ev_var rfl) (ev_var rfl) (rv_eq rfl)) (by rw [decide_eq_true rfl])) fun H4 e4 => q H4 (((e1.trans e2).trans e3).trans e4)
        | non =>
          refine q_when (et_B (ev_isiT (ev_var rfl) .non kit_non)) (fun hd => by cases hd) fun _ H1 e1 => ?_
          refine q_when (b := true) (et_or (a := true) (b := true) (et_test (ev_op (ev_var rfl) ev_c (rv_isN2 rfl))) fun _ => et_test (ev_op (ev_var rfl) ev_c (rv_isN2 rfl))) (fun _ H2 e2 => ?_) (fun hd => by cases hd)
          refine s_ret (v := .bl true) (ev_andV (a := true) (b := true) (ev_op (ev_var rfl) ev_c (rv_isN2 rfl)) fun _ => ev_op (ev_var rfl) ev_c (rv_isN2 rfl)) fun H4 e4 => q H4 ((e1.trans e2).trans e4)
        | byt _ => exact hf.elim
        | flt _ => exact hf.elim
        | ref _ => exact hf.elim
        | ty _ => exact hf.elim
      · rcases h3 with ⟨ha, hc⟩ | ⟨ha, hc⟩
        · refine q_when (et_B (ev_isiT (ev_var rfl) (.lst hc) kit_list)) (fun _ H1 e1 => ?_) (fun hd => by cases hd)
          refine q_when (b := false) (et_or (et_test (ev_op (ev_isi (T := "list") (b := true) (ev_var rfl) (.lst (ex_l e1 ha)) (by decide +kernel)) (ev_isi (T := "list") (b := true) (ev_var rfl) (.lst (ex_l e1 hc)) (by decide +kernel)) (rv_ne rfl))) fun _ => et_test (ev_op (ev_isi (T := "list") (b := false) (ev_var rfl) (.lst (ex_l e1 ha)) (by decide +kernel)) (ev_isi (T := "list") (b := false) (ev_var rfl) (.lst (ex_l e1 hc)) (by decide +kernel)) (rv_ne rfl))) (fun hd => by cases hd) fun _ H2 e2 => ?_
          have e12 := e1.trans e2
          refine s_ret (v := .bl true) (ev_andV (a := true) (b := true) (ev_is (ev_op (ev_lenA (ev_var rfl) (.inl (ex_l e12 ha))) (ev_lenA (ev_var rfl) (.inl (ex_l e12 hc))) (rv_eq rfl)) (by rw [h4, decide_eq_true rfl])) fun _ => ev_allT (el_same h4 h5 (.inl ⟨ex_l e12 ha, ex_l e12 hc⟩) fun i u v hu hv => (h6 i u v hu hv).ex e12)) fun H4 e4 => q H4 (e12.trans e4)
        · refine q_when (et_B (ev_isiT (ev_var rfl) (.tup hc) kit_tuple)) (fun _ H1 e1 => ?_) (fun hd => by cases hd)
          refine q_when (b := false) (et_or (et_test (ev_op (ev_isi (T := "tuple") (b := false) (ev_var rfl) (.tup (ex_t e1 ha)) (by decide +kernel)) (ev_isi (T := "tuple") (b := false) (ev_var rfl) (.tup (ex_t e1 hc)) (by decide +kernel)) (rv_ne rfl))) fun _ => et_test (ev_op (ev_isi (T := "tuple") (b := true) (ev_var rfl) (.tup (ex_t e1 ha)) (by decide +kernel)) (ev_isi (T := "tuple") (b := true) (ev_var rfl) (.tup (ex_t e1 hc)) (by decide +kernel)) (rv_ne rfl))) (fun hd => by cases hd) fun _ H2 e2 => ?_
          have e12 := e1.trans e2
          refine s_ret (v := .bl true) (ev_andV (a := true) (b := true) (ev_is (ev_op (ev_lenA (ev_var rfl) (.inr (ex_t e12 ha))) (ev_lenA (ev_var rfl) (.inr (ex_t e12 hc))) (rv_eq rfl)) (by rw [h4, decide_eq_true rfl])) fun _ => ev_allT (el_same h4 h5 (.inr ⟨ex_t e12 ha, ex_t e12 hc⟩) fun i u v hu hv => (h6 i u v hu hv).ex e12)) fun H4 e4 => q H4 (e12.trans e4)
theorem ok_law_of {f f1 : Addr} {fd fd1 : FuncData} (F : FnP K "_law_of" s_law_of f fd) (g : mg "_law_of" = some (.ref f)) (b : Binds K fd ["_law_box", "_law_pool"] []) (h_law_take : Has P w K mg base 1 "_law_take" ["_law_box", "_law_many"] spTake f1 fd1) (m_len : mg "len" = none) :
    Has P w K mg base 2 "_law_of" ["_law_box", "_law_pool"] (spOf K) f fd := by
  refine ⟨F.ok sc_law_of (fun vs H Q E h => ?_) (fun cdv A outer s H vs Q E hr h => ?_), g, F.kp, b⟩
  · obtain ⟨p, l, xs, n, rfl, _⟩ := h
    rfl
  · obtain ⟨p, l, xs, n, rfl, hl, h0, h1, hne, hb, hn, q⟩ := h
    refine ⟨_, PSs.nox (pss_one (ps_ret (pe_ix ix_list (pv 1) (pe_call h_law_take.G (hr.mono (by decide)) (by rfl) h_law_take.g h_law_take.kp h_law_take.b .nil pass0 (pa_cons (pv 0) (pa_cons (pe_callB call_len_seq (by rfl) m_len PySem.boot_len (pa_cons (pv 1) pa_nil)) pa_nil))) (fun _ _ => rfl)))), ?_⟩
    refine ⟨.ref l, rfl, .ref p, rfl, .ref l, rfl, l, xs, rfl, .inl hl, p, (xs.length : Int), n, rfl, by omega, by omega, hb, hn, fun r H1 r0 r1 e1 hb1 => ?_⟩
    obtain ⟨k, rfl⟩ := Int.eq_ofNat_of_zero_le r0
    have hk : k < xs.length := by omega
    exact ⟨l, xs, k, xs[k], rfl, rfl, e1.l hne hl, atI_nat (List.getElem?_eq_getElem hk), q k _ H1 (List.getElem?_eq_getElem hk) e1 hb1⟩
theorem ok_law_row {f f1 f2 : Addr} {fd fd1 fd2 : FuncData} (F : FnP K "_law_row" s_law_row f fd) (g : mg "_law_row" = some (.ref f)) (b : Binds K fd ["_law_box", "_law_most"] []) (h_law_take : Has P w K mg base 1 "_law_take" ["_law_box", "_law_many"] spTake f1 fd1) (h_law_of : Has P w K mg base 2 "_law_of" ["_law_box", "_law_pool"] (spOf K) f2 fd2) (m_range : mg "range" = none) (m_tuple : mg "tuple" = none) :
    Has P w K mg base 3 "_law_row" ["_law_box", "_law_most"] (spRow K) f fd := by
  refine ⟨F.ok sc_law_row (fun vs H Q E h => ?_) (fun cdv A outer s H vs Q E hr h => ?_), g, F.kp, b⟩
  · obtain ⟨p, m, n, rfl, _⟩ := h
    rfl
  · obtain ⟨p, m, n, rfl, hm, hm2, hb, hn, q⟩ := h
    refine ⟨_, PSs.nox (pss_cons (ps_par3 (i := 2) (j := 3) (l := 4) (by rfl) sc_law_row.nd rfl rfl rfl (by decide) (by decide) (by decide) rfl rfl rfl (pa_cons (pe_op op_add pe_int (pe_call h_law_take.G (hr.mono (by decide)) (by rfl) h_law_take.g h_law_take.kp h_law_take.b .nil pass0 (pa_cons (pv 0) (pa_cons (pv 1) pa_nil)))) (pa_cons (pe_call h_law_take.G (hr.mono (by decide)) (by rfl) h_law_take.g h_law_take.kp h_law_take.b .nil pass0 (pa_cons (pv 0) (pa_cons pe_int pa_nil))) (pa_cons (pe_call h_law_of.G (hr.mono (by decide)) (by rfl) h_law_of.g h_law_of.kp h_law_of.b .nil pass0 (pa_cons (pv 0) (pa_cons (pe_lst (pa_cons pe_int (pa_cons pe_int (pa_cons pe_int (pa_cons pe_int pa_nil))))) pa_nil))) pa_nil))) (by rfl))
      (pss_cons (ps_par (i := 5) (j := 6) (by rfl) sc_law_row.nd rfl rfl (by decide) rfl rfl (pa_cons (pe_ix ix_list (pe_lst (pa_cons pe_int (pa_cons pe_int (pa_cons pe_int (pa_cons pe_int (pa_cons pe_int (pa_cons pe_int pa_nil))))))) (pv 3) (fun _ _ => rfl)) (pa_cons (pe_ix ix_list (pe_lst (pa_cons pe_int (pa_cons pe_int (pa_cons pe_int (pa_cons pe_int (pa_cons pe_int (pa_cons pe_int pa_nil))))))) (pv 3) (fun _ _ => rfl)) pa_nil)) (by rfl))
      (Evl.pss_cut (ps_par (i := 7) (j := 8) (by rfl) sc_law_row.nd rfl rfl (by decide) rfl rfl (pa_cons (pe_ix ix_list (pe_lst (pa_cons pe_int (pa_cons (pe_un un_neg pe_int) (pa_cons (pe_un un_neg pe_int) (pa_cons pe_int (pa_cons (pe_op op_sub (pe_op op_pow pe_int pe_int) pe_int) (pa_cons (pe_un un_neg pe_int) pa_nil))))))) (pv 3) (fun _ _ => rfl)) (pa_cons (pe_ifExp (pt_cmpR op_eq (pv 3) pe_int (nomark _)) (pe_call h_law_take.G (hr.mono (by decide)) (by rfl) h_law_take.g h_law_take.kp h_law_take.b .nil pass0 (pa_cons (pv 0) (pa_cons pe_int pa_nil))) pe_int) pa_nil)) (by rfl))
      (pss_cons (ps_set (i := 9) sc_law_row.nd rfl (.inl rfl) (pe_lst pa_nil))
      (pss_cons (ps_for PassesOwn.never rfl (pi_range1 (by rfl) m_range (pa_cons (pv 2) pa_nil)) (pg_name (i := 10) sc_law_row.nd rfl (Or.inl rfl))
        (pss_one (ps_expr (pe_bm PySem.F.plainAttrs_list PySem.F.slot_list_append PySem.F.type_list_append mt_append (pv 9) (pa_cons (pe_tup (pa_cons (pe_op op_add (pe_op op_add (pv 7) (pe_op op_mul (pv 4) (pv 10))) (pe_call h_law_take.G (hr.mono (by decide)) (by rfl) h_law_take.g h_law_take.kp h_law_take.b .nil pass0 (pa_cons (pv 0) (pa_cons (pv 5) pa_nil)))) (pa_cons (pe_op op_add (pv 8) (pe_call h_law_take.G (hr.mono (by decide)) (by rfl) h_law_take.g h_law_take.kp h_law_take.b .nil pass0 (pa_cons (pv 0) (pa_cons (pv 6) pa_nil)))) pa_nil))) pa_nil)))))
      (pss_one (ps_ret (pe_tupleOf (by rfl) m_tuple (pv 9))))))))), ?_⟩
    refine ⟨.ref p, rfl, .int (m : Int), rfl, p, (m : Int), n, rfl, by omega, by omega, hb, by omega, fun r1 H1 r10 r11 e1 hb1 => ?_⟩
    refine ⟨1, r1, rfl, rfl, .ref p, rfl, p, 6, n + 1, rfl, by decide, by decide, hb1, by omega, fun way H2 w0 w1 e2 hb2 => ?_⟩
    refine ⟨.ref p, rfl, by show 4 ≤ sizeLine; decide, fun l hl => ?_⟩
    refine ⟨p, l, _, n + 2, rfl, sq_of upd_same, by show 0 < 4; decide, by show 4 < 100000; decide, (hb2.ne hl).symm, hb2.ex (Ex.new hl), by omega, fun k x H3 hx e3 hb3 => ?_⟩
    obtain ⟨rise, rfl, hr0, hr1⟩ : ∃ rise : Int, x = .int rise ∧ 0 ≤ rise ∧ rise ≤ 3 := by
      match k, hx with
      | 0, hx => cases hx; exact ⟨0, rfl, by decide, by decide⟩
      | 1, hx => cases hx; exact ⟨0, rfl, by decide, by decide⟩
      | 2, hx => cases hx; exact ⟨1, rfl, by decide, by decide⟩
      | 3, hx => cases hx; exact ⟨3, rfl, by decide, by decide⟩
      | k + 4, hx => cases hx
    have eb3 : ExB p H H3 := ((e1.trans e2).trans (.of (Ex.new hl))).trans e3
    clear e1 e2 e3 hb1 hb2
    refine ⟨_, _, _, rfl, ?_⟩
    obtain ⟨high, hh, ah⟩ := at_ints (zs := [9, 9, 30, 60, 25, 200]) w0 w1
    obtain ⟨dear, hd, ad⟩ := at_ints (zs := [3, 1, 1, 10, 4, 40]) w0 w1
    have hh0 : 0 < high ∧ high ≤ 200 := by
      simp only [List.mem_cons, List.not_mem_nil, or_false] at hh
      omega
    have hd0 : 0 < dear ∧ dear ≤ 40 := by
      simp only [List.mem_cons, List.not_mem_nil, or_false] at hd
      omega
    refine ⟨by show 6 ≤ sizeLine; decide, fun l2 hl2 => ⟨.int way, rfl, l2, _, way, .int high, rfl, rfl, sq_of upd_same, ah, ?_⟩⟩
    refine ⟨by show 6 ≤ sizeLine; decide, fun l3 hl3 => ⟨.int way, rfl, l3, _, way, .int dear, rfl, rfl, sq_of upd_same, ad, _, _, rfl, ?_⟩⟩
    have eb4 := (eb3.new (o := .lst [.int 9, .int 9, .int 30, .int 60, .int 25, .int 200]) hl2).new (o := .lst [.int 3, .int 1, .int 1, .int 10, .int 4, .int 40]) hl3
    have hb4 := (hb3.ex (Ex.new (o := .lst [.int 9, .int 9, .int 30, .int 60, .int 25, .int 200]) hl2)).ex (Ex.new (o := .lst [.int 3, .int 1, .int 1, .int 10, .int 4, .int 40]) hl3)
    clear eb3 hb3
    obtain ⟨bs, hbs, abs⟩ := at_ints (zs := [0, -4, -15, 0, 10 ^ (12 : Int).toNat - 1000, -100]) w0 w1
    have hbs0 : -100 ≤ bs ∧ bs ≤ 999999999000 := by
      have e12 : (10 : Int) ^ (12 : Int).toNat - 1000 = 999999999000 := by decide
      rw [e12] at hbs
      simp only [List.mem_cons, List.not_mem_nil, or_false] at hbs
      omega
    refine q_cut (M := fun σ' H' => ∃ toll : Int, σ' = [some (.ref p), some (.int (m : Int)), some (.int (1 + r1)), some (.int way), some (.int rise), some (.int high), some (.int dear), some (.int bs), some (.int toll), none, none] ∧ 0 ≤ toll ∧ toll ≤ 6 ∧ ExB p H H' ∧ Bx H' p (n + 4)) ?_ (fun σ' H5 hM => ?_)
    · refine ⟨4, rfl, 15, rfl, 10, 12, rfl, rfl, ⟨by decide, by decide, by decide⟩, _, 1000, rfl, rfl, 100, rfl, by show 6 ≤ sizeLine; decide, fun l4 hl4 => ⟨.int way, rfl, l4, _, way, .int bs, rfl, rfl, sq_of upd_same, abs, ?_⟩⟩
      refine ⟨.int way, rfl, rfl, _, rfl, ite2 (fun e => ?_) (fun e => ?_)⟩
      · refine ⟨.ref p, rfl, p, 6, n + 3, rfl, by decide, by decide, hb4.ex (Ex.new hl4), by omega, fun r H5 r0 r1 e5 hb5 => ⟨_, _, rfl, r, rfl, r0, by omega, (eb4.new hl4).trans e5, hb5⟩⟩
      · exact ⟨_, _, rfl, 0, rfl, by decide, by decide, eb4.new hl4, (hb4.ex (Ex.new hl4)).le (by omega)⟩
    · obtain ⟨toll, rfl, t0, t1, eb5, hb5⟩ := hM
      refine q_asgL (el_lst ea_nil (by show 0 ≤ 100000; decide)) fun l5 H6 hl5 e6 h6 => ?_
      have hpl : p ≠ l5 := hb5.ne hl5
      have hl5H : H l5 = none := eb5.back hl5 (Ne.symm hpl)
      refine q_forR1 (n := 1 + r1) (ea_cons (ev_var rfl) ea_nil) (by omega) (fun i σ' H' => ∃ (y : Option V) (vs : List V) (rs : HH.Row), σ' = [some (.ref p), some (.int (m : Int)), some (.int (1 + r1)), some (.int way), some (.int rise), some (.int high), some (.int dear), some (.int bs), some (.int toll), some (.ref l5), y] ∧ rs.length = i ∧ H' l5 = some (.lst vs) ∧ Beasts K H' vs rs ∧ (∀ b ∈ rs, Tame b) ∧ Bx H' p (n + 4 + 2 * i) ∧ ExB p H H') (fun H7 e7 => ?_) (fun i σ' H7 hi hp => ?_) (fun σ' H7 hp => ?_)
      · exact ⟨none, [], [], rfl, rfl, e7 _ _ h6, Beasts.nil, (fun b h => by cases h), (hb5.ex (e6.trans e7)).le (by omega), eb5.trans (.of (e6.trans e7))⟩
      · obtain ⟨y, vs, rs, rfl, p1, p2, p3, p4, p5, p6⟩ := hp
        have hri := mul_bd hr0 hr1 (Int.natCast_nonneg i) (show (i : Int) ≤ 40 by omega)
        refine ⟨.ref l5, rfl, .inl ⟨rfl, _, sq_of p2⟩, .int bs, rfl, .int rise, rfl, .int (i : Int), rfl, rise, (i : Int), rfl, rfl, .inl ⟨by omega, by omega⟩, bs, rise * (i : Int), rfl, rfl, .ref p, rfl, .int high, rfl, p, high, n + 4 + 2 * i, rfl, by omega, by omega, p5, by omega, fun s1 H8 s10 s11 e8 hb8 => ?_⟩
        refine ⟨_, _, rfl, rfl, .int toll, rfl, .ref p, rfl, .int dear, rfl, p, dear, n + 4 + 2 * i + 1, rfl, by omega, by omega, hb8, by omega, fun s2 H9 s20 s21 e9 hb9 => ?_⟩
        refine ⟨toll, s2, rfl, rfl, by show 2 ≤ sizeLine; decide, fun T hT => ?_⟩
        have q8 := e8 _ _ (Ne.symm hpl) p2
        have q9 := e9 _ _ (Ne.symm hpl) q8
        have hlT : l5 ≠ T := ne_of_none q9 hT
        have q10 : (upd H9 T (.tup [.int (bs + rise * (i : Int) + s1), .int (toll + s2)])) l5 = some (.lst vs) := by
          rw [upd_ne hlT]
          exact q9
        obtain ⟨xs8, hx8⟩ := p5.lst
        obtain ⟨xs9, hx9⟩ := hb8.lst
        have b10 : Beasts K (upd H9 T (.tup [.int (bs + rise * (i : Int) + s1), .int (toll + s2)])) vs rs := ((p3.exB e8 hx8).exB e9 hx9).ex (Ex.new hT)
        have bt : BeastAt K (upd H9 T (.tup [.int (bs + rise * (i : Int) + s1), .int (toll + s2)])) (.ref T) (bs + rise * (i : Int) + s1, toll + s2) := ⟨T, rfl, st_of upd_same⟩
        refine ⟨l5, vs, .ref T, rfl, rfl, q10, sz_lt (by rw [p3.1]; omega), some (.int (i : Int)), vs ++ [.ref T], rs ++ [(bs + rise * (i : Int) + s1, toll + s2)], rfl, ?_, upd_same, ?_, ?_, ?_, ?_⟩
        · rw [List.length_append, p1]
          rfl
        · exact (b10.app (Beasts.one bt)).exB (ExB.refl _ _).upd q10
        · intro b hb
          rcases List.mem_append.mp hb with h | h
          · exact p4 b h
          · have e := List.mem_singleton.mp h
            subst e
            have e12 : (10 : Int) ^ 12 = 1000000000000 := by decide
            unfold Tame
            rw [e12]
            refine ⟨?_, ?_, ?_, ?_⟩ <;> dsimp only <;> omega
        · exact (((hb9.ex (Ex.new hT)).mut hpl).le (by omega))
        · exact ((((p6.trans e8).trans e9).new hT).mut hl5H)
      · obtain ⟨y, vs, rs, rfl, p1, p2, p3, p4, p5, p6⟩ := hp
        refine ⟨.ref l5, rfl, .inl ⟨l5, vs, rfl, sq_of p2, fun T hT => ?_⟩⟩
        exact q _ _ rs (p6.new hT) ((p5.ex (Ex.new hT)).le (by omega)) ⟨T, vs, rfl, st_of upd_same, p3.ex (Ex.new hT)⟩ (by omega) (by omega) p4
end
end K78
set_option maxHeartbeats 4000000
namespace K78
open PySem PySem.Spec PyProof.Rows L2 Evl HH RZ
section
variable {P : Program} {w : World} {K : PySem.W.Frag} {mg : Str → Option Value} {base : Heap}
theorem ok_pass_all {f : Addr} {fd : FuncData} (F : FnP K "pass_all" s_pass_all f fd) (g : mg "pass_all" = some (.ref f)) (b : Binds K fd ["line", "strengths", "tolls", "who"] []) (m_len : mg "len" = none) : Has P w K mg base 1 "pass_all" ["line", "strengths", "tolls", "who"] spPassAll f fd := by
  refine ⟨F.ok sc_pass_all (fun vs H Q E h => ?_) (fun cdv A outer s H vs Q E hr h => ?_), g, F.kp, b⟩
  · obtain ⟨l, sa, ta, N, S, T, who, s0, t0, rfl, _⟩ := h
    rfl
  · obtain ⟨l, sa, ta, N, S, T, who, s0, t0, rfl, hl, hs, ht, ne1, ne2, ne3, kp, hs0, ht0, hne, hN, t0nn, nfN, q⟩ := h
    refine ⟨_, PSs.nox (pss_cons (ps_set (i := 4) sc_pass_all.nd rfl (.inl rfl) (pe_callB call_len_seq (by rfl) m_len PySem.boot_len (pa_cons (pv 0) pa_nil)))
      (pss_cons (ps_while PassesOwn.never (PW.pt (pw_and (pt_cmpR op_gt (pv 4) pe_int (nomark _)) (pw_and1 (pt_cmpR op_gt (pe_op op_sub (pe_ix ix_list (pv 1) (pv 3) (fun _ _ => rfl)) (pe_ix ix_list (pv 2) (pe_ix ix_list (pv 0) (pe_op op_sub (pv 4) pe_int) (fun _ _ => rfl)) (fun _ _ => rfl))) (pe_ix ix_list (pv 1) (pe_ix ix_list (pv 0) (pe_op op_sub (pv 4) pe_int) (fun _ _ => rfl)) (fun _ _ => rfl)) (nomark _))))) (pss_cons (ps_aug (i := 4) sc_pass_all.nd rfl (.inl rfl) pe_int ip_sub)
      (pss_one (ps_augS (pv 1) (pv 3) get_listN (pe_ix ix_list (pv 2) (pe_ix ix_list (pv 0) (pv 4) (fun _ _ => rfl)) (fun _ _ => rfl)) ip_sub set_list))))
      (pss_one (ps_expr (pe_bm PySem.F.plainAttrs_list PySem.F.slot_list_insert PySem.F.type_list_insert mt_insert (pv 0) (pa_cons (pv 4) (pa_cons (pv 3) pa_nil))))))), ?_⟩
    refine q_asg (ev_len (K := K) (ev_var rfl) (sq_of hl)) fun H1 e1 => ?_
    refine q_while (fun m σ' H' => ∃ (A B : List Cow) (s : Int), m = A.length ∧ σ' = [some (.ref l), some (.ref sa), some (.ref ta), some (.int (who : Int)), some (.int (A.length : Int))] ∧ N = A ++ B ∧ Steps (N ++ [(who, (s0, t0))]) (A ++ (who, (s, t0)) :: B) ∧ (∀ b r, B = b :: r → b.2.1 < s) ∧ H' sa = some (.lst ((S.set who s).map V.int)) ∧ ExB sa H H') N.length ?_ (fun m σ' H' hW => ?_)
    · have e0 : S.set who s0 = S := by
        exact set_self hs0
      refine ⟨N, [], s0, rfl, ?_, by rw [List.append_nil], .refl _, (fun b r z => by cases z), ?_, .of e1⟩
      · show [some (V.ref l), some (.ref sa), some (.ref ta), some (.int (who : Int)), some (.int ((idsV N).length : Int))] = _
        rw [show (idsV N).length = N.length from List.length_map ..]
      · rw [e0]
        exact e1 _ _ hs
    · obtain ⟨A, B, s, rfl, rfl, hAB, st, hB, hsa, x1⟩ := hW
      have hl' := x1 _ _ ne1 hl
      have ht' := x1 _ _ (Ne.symm ne3) ht
      have hwho : (S.set who s)[who]? = some s := set_at hs0
      have fin : (∀ x, A.getLast? = some x → ¬ (s - x.2.2 > x.2.1)) → ∀ H1, Ex H' H1 → tDrop (tBM K "list" (fun x vs H Q => ∃ (l : Addr) (xs : List V) (i : Int) (y : V), x = .ref l ∧ vs = [.int i, y] ∧ H l = some (.lst xs) ∧ xs.length < sizeLine ∧ 0 ≤ i ∧ i < 2 ^ 63 ∧ Q .non (upd H l (.lst (xs.take i.toNat ++ [y] ++ xs.drop i.toNat)))) (tVar 0) (tCons (tVar 4) (tCons (tVar 3) tNil))) { nx := fun _ H' => Q .non H', rt := Q } [some (.ref l), some (.ref sa), some (.ref ta), some (.int (who : Int)), some (.int (A.length : Int))] H1 := fun hlast H1 e1 => by
        have hAl : A.length ≤ N.length := by rw [hAB, List.length_append]; omega
        refine ⟨.ref l, rfl, .inl ⟨rfl, _, sq_of (e1 _ _ hl')⟩, .int (A.length : Int), rfl, .int (who : Int), rfl, l, _, (A.length : Int), .int (who : Int), rfl, rfl, e1 _ _ hl', sz_lt (by rw [idsV_len]; omega), by omega, by omega, ?_⟩
        refine q A B s _ hAB st (nfr_in (by rw [← hAB]; exact nfN) hlast fun b r z => ?_) ?_ ?_ ?_
        · have := hB b r z
          dsimp only
          omega
        · rw [upd_same, hAB, show ((A.length : Nat) : Int).toNat = A.length from rfl, ← idsV_ins A B (who, (s, t0))]
        · rw [upd_ne (Ne.symm ne1)]
          exact e1 _ _ hsa
        · intro c o hc1 hc2 hc
          rw [upd_ne hc1]
          exact e1 _ _ (x1 _ _ hc2 hc)
      rcases List.eq_nil_or_concat A with rfl | ⟨A', x, rfl⟩
      · refine ⟨false, (et_and (a := false) (b := false) (et_is (et_test (ev_op (ev_var rfl) ev_c rv_I0)) rfl) (fun z => by cases z)), (fun z => by cases z), fun _ H1 e1 => fin (fun x z => by cases z) H1 e1⟩
      · have hxN : x ∈ N := by
          rw [hAB]
          simp
        have hlen : (A'.concat x).length = A'.length + 1 := List.length_concat ..
        have hpl : ((A'.concat x).length : Int) - 1 = (A'.length : Int) := by
          rw [hlen]
          omega
        have hNe : N = A' ++ x :: B := by
          rw [hAB]
          simp
        have gl : atI (idsV N) (A'.length : Int) = some (.int (x.1 : Int)) := atI_nat (by rw [hNe]; exact idsV_at A' B x)
        have gT : atI (T.map V.int) (x.1 : Int) = some (.int x.2.2) := atI_nat (getI (kp.t x hxN))
        have gS : atI ((S.set who s).map V.int) (x.1 : Int) = some (.int x.2.1) := atI_nat (getI (by rw [set_off (Ne.symm (hne x hxN))]; exact kp.s x hxN))
        have gW : atI ((S.set who s).map V.int) (who : Int) = some (.int s) := atI_nat (getI hwho)
        refine ⟨decide (s - x.2.2 > x.2.1), et_is (et_and (a := true) (b := decide (s - x.2.2 > x.2.1)) (et_is (et_test (ev_op (ev_var rfl) ev_c rv_I0)) (by rw [hlen]; exact decide_eq_true (by omega))) fun _ => et_test (ev_op (ev_op (ev_op (ev_var rfl) (ev_var rfl) (rv_ixL (sq_of hsa) gW)) (ev_op (ev_var rfl) (ev_op (ev_var rfl) (ev_op (ev_var rfl) ev_c rv_I0) (rv_ixL (K := K) (sq_of hl') (by rw [hpl]; exact gl))) (rv_ixL (sq_of ht') gT)) rv_I0) (ev_op (ev_var rfl) (ev_op (ev_var rfl) (ev_op (ev_var rfl) ev_c rv_I0) (rv_ixL (K := K) (sq_of hl') (by rw [hpl]; exact gl))) (rv_ixL (sq_of hsa) gS)) rv_I0)) (Bool.true_and _), fun hd H1 e1 => ?_, fun hd H1 e1 => fin (fun y z => ?_) H1 e1⟩
        · have hd := of_decide_eq_true hd
          refine ⟨fun σ2 H2 => ∃ m', m' < (A'.concat x).length ∧ ∃ (A B : List Cow) (s : Int), m' = A.length ∧ σ2 = [some (.ref l), some (.ref sa), some (.ref ta), some (.int (who : Int)), some (.int (A.length : Int))] ∧ N = A ++ B ∧ Steps (N ++ [(who, (s0, t0))]) (A ++ (who, (s, t0)) :: B) ∧ (∀ b r, B = b :: r → b.2.1 < s) ∧ H2 sa = some (.lst ((S.set who s).map V.int)) ∧ ExB sa H H2, fun σ2 H2 h => h, ?_⟩
          refine q_aug (f := fun i j => i - j) (b := 1) rfl ev_c fun H2 e2 => ?_
          rw [hpl]
          have e12 := e1.trans e2
          refine ⟨.ref sa, rfl, .int (who : Int), rfl, sa, _, who, .int s, rfl, rfl, e12 _ _ hsa, getI hwho, ?_⟩
          have ev : Ev (tOp (rIxL K) (tVar 2) (tOp (rIxL K) (tVar 0) (tVar 4))) [some (.ref l), some (.ref sa), some (.ref ta), some (.int (who : Int)), some (.int (A'.length : Int))] H2 (.int x.2.2) := ev_op (ev_var rfl) (ev_op (ev_var rfl) (ev_var rfl) (rv_ixL (sq_of (e12 _ _ hl')) gl)) (rv_ixL (sq_of (e12 _ _ ht')) gT)
          refine ev H2 (Ex.refl H2) _ fun H3 e3 => ⟨s, x.2.2, rfl, rfl, sa, _, (who : Int), who, rfl, rfl, e3 _ _ (e12 _ _ hsa), ixN_nat (by rw [List.length_map, List.length_set]; exact (List.getElem?_eq_some_iff.mp hs0).1), ?_⟩
          refine ⟨A'.length, by rw [hlen]; omega, A', x :: B, s - x.2.2, rfl, rfl, hNe, st.snoc ⟨A', B, x, (who, (s, t0)), by simp, hd, rfl⟩, fun b r z => ?_, ?_, ?_⟩
          · cases z
            omega
          · rw [upd_same, ← List.map_set, List.set_set]
          · exact (x1.trans (.of (e12.trans e3))).upd
        · have z' : x = y := by
            rw [List.concat_eq_append, List.getLast?_concat] at z
            exact Option.some.inj z
          subst z'
          exact of_decide_eq_false hd
theorem ok_fall_all {f : Addr} {fd : FuncData} (F : FnP K "fall_all" s_fall_all f fd) (g : mg "fall_all" = some (.ref f)) (b : Binds K fd ["line", "strengths", "tolls", "who"] []) (m_len : mg "len" = none) : Has P w K mg base 1 "fall_all" ["line", "strengths", "tolls", "who"] spFallAll f fd := by
  refine ⟨F.ok sc_fall_all (fun vs H Q E h => ?_) (fun cdv A outer s H vs Q E hr h => ?_), g, F.kp, b⟩
  · obtain ⟨l, sa, ta, N, S, T, who, s0, t0, rfl, _⟩ := h
    rfl
  · obtain ⟨l, sa, ta, N, S, T, who, s0, t0, rfl, hl, hs, ht, ne1, ne2, ne3, kp, hs0, ht0, hne, hN, nfN, q⟩ := h
    refine ⟨_, PSs.nox (pss_cons (ps_set (i := 4) sc_fall_all.nd rfl (.inl rfl) pe_int)
      (pss_cons (ps_while PassesOwn.never (PW.pt (pw_and (pt_cmpR op_lt (pv 4) (pe_callB call_len_seq (by rfl) m_len PySem.boot_len (pa_cons (pv 0) pa_nil)) (nomark _)) (pw_and1 (pt_cmpR op_gt (pe_ix ix_list (pv 1) (pv 3) (fun _ _ => rfl)) (pe_ix ix_list (pv 1) (pe_ix ix_list (pv 0) (pv 4) (fun _ _ => rfl)) (fun _ _ => rfl)) (nomark _))))) (pss_cons (ps_augS (pv 1) (pv 3) get_listN (pe_ix ix_list (pv 2) (pe_ix ix_list (pv 0) (pv 4) (fun _ _ => rfl)) (fun _ _ => rfl)) ip_add set_list)
      (pss_one (ps_aug (i := 4) sc_fall_all.nd rfl (.inl rfl) pe_int ip_add))))
      (pss_one (ps_expr (pe_bm PySem.F.plainAttrs_list PySem.F.slot_list_insert PySem.F.type_list_insert mt_insert (pv 0) (pa_cons (pv 4) (pa_cons (pv 3) pa_nil))))))), ?_⟩
    refine q_asg ev_c fun H1 e1 => ?_
    refine q_while (fun m σ' H' => ∃ (A B : List Cow) (s : Int), m = B.length ∧ σ' = [some (.ref l), some (.ref sa), some (.ref ta), some (.int (who : Int)), some (.int (A.length : Int))] ∧ N = A ++ B ∧ FSteps ((who, (s0, t0)) :: N) (A ++ (who, (s, t0)) :: B) ∧ (∀ x, A.getLast? = some x → x.2.1 < s) ∧ H' sa = some (.lst ((S.set who s).map V.int)) ∧ ExB sa H H') N.length ?_ (fun m σ' H' hW => ?_)
    · have e0 : S.set who s0 = S := by
        exact set_self hs0
      refine ⟨[], N, s0, rfl, rfl, rfl, .refl _, (fun x z => by cases z), ?_, .of e1⟩
      rw [e0]
      exact e1 _ _ hs
    · obtain ⟨A, B, s, rfl, rfl, hAB, st, hA, hsa, x1⟩ := hW
      have hl' := x1 _ _ ne1 hl
      have ht' := x1 _ _ (Ne.symm ne3) ht
      have hwho : (S.set who s)[who]? = some s := set_at hs0
      have hNl : N.length = A.length + B.length := by rw [hAB, List.length_append]
      have fin : (∀ b r, B = b :: r → ¬ (s > b.2.1)) → ∀ H1, Ex H' H1 → tDrop (tBM K "list" (fun x vs H Q => ∃ (l : Addr) (xs : List V) (i : Int) (y : V), x = .ref l ∧ vs = [.int i, y] ∧ H l = some (.lst xs) ∧ xs.length < sizeLine ∧ 0 ≤ i ∧ i < 2 ^ 63 ∧ Q .non (upd H l (.lst (xs.take i.toNat ++ [y] ++ xs.drop i.toNat)))) (tVar 0) (tCons (tVar 4) (tCons (tVar 3) tNil))) { nx := fun _ H' => Q .non H', rt := Q } [some (.ref l), some (.ref sa), some (.ref ta), some (.int (who : Int)), some (.int (A.length : Int))] H1 := fun hB H1 e1 => by
        refine ⟨.ref l, rfl, .inl ⟨rfl, _, sq_of (e1 _ _ hl')⟩, .int (A.length : Int), rfl, .int (who : Int), rfl, l, _, (A.length : Int), .int (who : Int), rfl, rfl, e1 _ _ hl', sz_lt (by rw [idsV_len]; omega), by omega, by omega, ?_⟩
        refine q A B s _ hAB st (ffr_in (by rw [← hAB]; exact nfN) (fun x z => ?_) hB) ?_ ?_ ?_
        · have := hA x z
          dsimp only
          omega
        · rw [upd_same, hAB, show ((A.length : Nat) : Int).toNat = A.length from rfl, ← idsV_ins A B (who, (s, t0))]
        · rw [upd_ne (Ne.symm ne1)]
          exact e1 _ _ hsa
        · intro c o hc1 hc2 hc
          rw [upd_ne hc1]
          exact e1 _ _ (x1 _ _ hc2 hc)
      have gWI : atI ((S.set who s).map V.int) (who : Int) = some (.int s) := atI_nat (getI hwho)
      cases B with
      | nil =>
        have hlen0 : (idsV N).length = A.length := by
          rw [idsV_len, hNl]
          rfl
        refine ⟨false, (et_and (a := false) (b := false) (et_is (et_test (ev_op (ev_var rfl) (ev_len (K := K) (ev_var rfl) (sq_of hl')) rv_I0)) (by rw [hlen0]; exact decide_eq_false (by omega))) (fun z => by cases z)), (fun z => by cases z), fun _ H1 e1 => fin (fun b r z => by cases z) H1 e1⟩
      | cons x B =>
        have hxN : x ∈ N := by
          rw [hAB]
          simp
        have hlen1 : (idsV N).length = A.length + (B.length + 1) := by
          rw [idsV_len, hNl]
          rfl
        have gl : atI (idsV N) (A.length : Int) = some (.int (x.1 : Int)) := atI_nat (by rw [hAB]; exact idsV_at A B x)
        have gT : atI (T.map V.int) (x.1 : Int) = some (.int x.2.2) := atI_nat (getI (kp.t x hxN))
        have gS : atI ((S.set who s).map V.int) (x.1 : Int) = some (.int x.2.1) := atI_nat (getI (by rw [set_off (Ne.symm (hne x hxN).1)]; exact kp.s x hxN))
        refine ⟨decide (s > x.2.1), et_is (et_and (a := true) (b := decide (s > x.2.1)) (et_is (et_test (ev_op (ev_var rfl) (ev_len (K := K) (ev_var rfl) (sq_of hl')) rv_I0)) (by rw [hlen1]; exact decide_eq_true (by omega))) fun _ => et_test (ev_op (ev_op (ev_var rfl) (ev_var rfl) (rv_ixL (K := K) (sq_of hsa) gWI)) (ev_op (ev_var rfl) (ev_op (ev_var rfl) (ev_var rfl) (rv_ixL (K := K) (sq_of hl') gl)) (rv_ixL (sq_of hsa) gS)) rv_I0)) (Bool.true_and _), fun hd H1 e1 => ?_, fun hd H1 e1 => fin (fun b r z => ?_) H1 e1⟩
        · have hd := of_decide_eq_true hd
          refine ⟨fun σ2 H2 => ∃ m', m' < (x :: B).length ∧ ∃ (A B : List Cow) (s : Int), m' = B.length ∧ σ2 = [some (.ref l), some (.ref sa), some (.ref ta), some (.int (who : Int)), some (.int (A.length : Int))] ∧ N = A ++ B ∧ FSteps ((who, (s0, t0)) :: N) (A ++ (who, (s, t0)) :: B) ∧ (∀ x, A.getLast? = some x → x.2.1 < s) ∧ H2 sa = some (.lst ((S.set who s).map V.int)) ∧ ExB sa H H2, fun σ2 H2 h => h, ?_⟩
          refine ⟨.ref sa, rfl, .int (who : Int), rfl, sa, _, who, .int s, rfl, rfl, e1 _ _ hsa, getI hwho, ?_⟩
          have ev : Ev (tOp (rIxL K) (tVar 2) (tOp (rIxL K) (tVar 0) (tVar 4))) [some (.ref l), some (.ref sa), some (.ref ta), some (.int (who : Int)), some (.int (A.length : Int))] H1 (.int x.2.2) := ev_op (ev_var rfl) (ev_op (ev_var rfl) (ev_var rfl) (rv_ixL (sq_of (e1 _ _ hl')) gl)) (rv_ixL (sq_of (e1 _ _ ht')) gT)
          refine ev H1 (Ex.refl H1) _ fun H3 e3 => ⟨s, x.2.2, rfl, rfl, sa, _, (who : Int), who, rfl, rfl, e3 _ _ (e1 _ _ hsa), ixN_nat (by rw [List.length_map, List.length_set]; exact (List.getElem?_eq_some_iff.mp hs0).1), ?_⟩
          refine s_aug (f := fun i j => i + j) (a := (A.length : Int)) (b := 1) rfl ev_c fun H4 e4 => ?_
          have hxnn := (hne x hxN).2
          refine ⟨B.length, Nat.lt_succ_self _, A ++ [x], B, s + x.2.2, rfl, ?_, by rw [hAB]; simp, ?_, fun y z => ?_, ?_, ?_⟩
          · rw [List.length_append]
            rfl
          · refine st.trans (.one ⟨A, B, (who, (s, t0)), x, rfl, hd, by simp⟩)
          · rw [List.getLast?_concat] at z
            cases z
            omega
          · refine e4 _ _ ?_
            rw [upd_same, ← List.map_set, List.set_set]
          · exact ((x1.trans (.of (e1.trans e3))).upd).trans (.of e4)
        · cases z
          exact of_decide_eq_false hd
theorem ok_row_and_order {f : Addr} {fd : FuncData} (F : FnP K "row_and_order" s_row_and_order f fd) (g : mg "row_and_order" = some (.ref f)) (b : Binds K fd ["line", "strengths", "tolls"] []) (m_tuple : mg "tuple" = none) : Has P w K mg base 1 "row_and_order" ["line", "strengths", "tolls"] (spRowOrderF K) f fd := by
  refine ⟨F.ok sc_row_and_order (fun vs H Q E h => ?_) (fun cdv A outer s H vs Q E hr h => ?_), g, F.kp, b⟩
  · obtain ⟨l, sa, ta, N, S, T, rfl, _⟩ := h
    rfl
  · obtain ⟨l, sa, ta, N, S, T, rfl, hl, hs, ht, kp, hN, q⟩ := h
    refine ⟨_, PSs.nox (pss_one (ps_ret (pe_tup (pa_cons (pe_tupleOf (by rfl) m_tuple (pe_lc (own := [("who", 3)]) (g := gName 3) (by rfl) sc_row_and_order.nd (pi_list (pv 0)) (blkOk_by (own := [("who", 3)]) (N := ["line", "strengths", "tolls", "who"]) (sc := defScope s_row_and_order) (by decide +kernel)) (fun _ _ _ _ _ => (pg_name (i := 3) sc_row_and_order.nd rfl (Or.inl rfl))) (fun _ _ _ _ _ => pts_nil) (fun _ _ _ _ _ => (pe_tup (pa_cons (pe_ix (ix_listK (K := K)) (pv 1) (pv 3) (fun _ _ => rfl)) (pa_cons (pe_ix (ix_listK (K := K)) (pv 2) (pv 3) (fun _ _ => rfl)) pa_nil)))))) (pa_cons (pe_tupleOfF (by rfl) m_tuple (pv 0)) pa_nil))))), ?_⟩
    refine ⟨.ref l, rfl, l, rfl, ⟨_, sq_of hl⟩, fun Dl hD => ?_⟩
    refine lc_it (walk_list (xs := idsV N)) (fun k H2 => Ex H H2 ∧ ∃ us, H2 Dl = some (.lst us) ∧ Beasts K H2 us (HH.rowsOf (N.take k))) ⟨Ex.new hD, [], upd_same, Beasts.nil⟩ (fun k H2 _ p => sq_of (p.1 _ _ hl)) (fun k x H2 H3 hk p y => ?_) (fun H2 p => ?_)
    · obtain ⟨rfl, hx⟩ := y
      obtain ⟨p1, us, p2, p3⟩ := p
      have hk' : k < N.length := by rw [← idsV_len]; exact hk
      have hmem : N[k] ∈ N := List.getElem_mem hk'
      have hx' : x = .int (N[k].1 : Int) := by
        unfold idsV at hx
        rw [List.getElem?_map, List.getElem?_eq_getElem hk'] at hx
        exact (Option.some.inj hx).symm
      subst hx'
      refine ⟨rfl, .ref sa, rfl, .int (N[k].1 : Int), rfl, sa, _, _, .int N[k].2.1, rfl, rfl, sq_of (p1 _ _ hs), atI_nat (getI (kp.s _ hmem)), .ref ta, rfl, .int (N[k].1 : Int), rfl, ta, _, _, .int N[k].2.2, rfl, rfl, sq_of (p1 _ _ ht), atI_nat (getI (kp.t _ hmem)), by show 2 ≤ sizeLine; decide, fun TT hT => ?_⟩
      have g1 : (upd H3 TT (.tup [.int N[k].2.1, .int N[k].2.2])) Dl = some (.lst us) := Ex.new hT _ _ p2
      refine ⟨us, g1, ?_, Ex.mut (p1.trans (Ex.new hT)) hD, us ++ [.ref TT], upd_same, ?_⟩
      · rw [p3.1, cow_len, List.length_take]
        exact sz_lt (by omega)
      · have e : HH.rowsOf (N.take (k + 1)) = HH.rowsOf (N.take k) ++ [N[k].2] := by
          unfold HH.rowsOf
          rw [List.take_add_one, List.getElem?_eq_getElem hk', List.map_append]
          rfl
        rw [e]
        exact ((p3.ex (Ex.new hT)).app (Beasts.one (b := N[k].2) ⟨TT, rfl, st_of upd_same⟩)).exB (ExB.refl _ _).upd g1
    · obtain ⟨p1, us, p2, p3⟩ := p
      rw [idsV_len, List.take_length] at p3
      refine .inl ⟨Dl, us, rfl, sq_of p2, fun rt hrt => ⟨.ref l, rfl, l, _, rfl, sq_of (Ex.new hrt _ _ (p1 _ _ hl)), fun ot ob plain hot => ⟨by show 2 ≤ sizeLine; decide, fun qq hqq => ?_⟩⟩⟩
      have e2 := (Ex.new (o := .tup us) hrt).trans ((Ex.new (o := .frz ob (.tup (idsV N))) hot).trans (Ex.new (o := .tup [.ref rt, .ref ot]) hqq))
      refine q qq _ (p1.trans e2) ⟨.ref rt, ot, ob, upd_same, ⟨rt, us, rfl, st_of ?_, p3.ex e2⟩, ?_, plain⟩
      · exact Ex.new hqq _ _ (Ex.new hot _ _ upd_same)
      · exact Ex.new hqq _ _ upd_same
theorem ok_last {f f1 f2 : Addr} {fd fd1 fd2 : FuncData} (F : FnP K "last" s_last f fd) (g : mg "last" = some (.ref f)) (b : Binds K fd ["row"] []) (h_pass_all : Has P w K mg base 1 "pass_all" ["line", "strengths", "tolls", "who"] spPassAll f1 fd1) (h_row_and_order : Has P w K mg base 1 "row_and_order" ["line", "strengths", "tolls"] (spRowOrderF K) f2 fd2) (m_range : mg "range" = none) (m_len : mg "len" = none) :
    Has P w K mg base 2 "last" ["row"] (spLastF K) f fd := by
  refine ⟨F.ok sc_last (fun vs H Q E h => ?_) (fun cdv A outer s H vs Q E hr h => ?_), g, F.kp, b⟩
  · obtain ⟨v, rs, rfl, _⟩ := h
    rfl
  · obtain ⟨v, rs, rfl, hv, hl, ht, q⟩ := h
    refine ⟨_, PSs.nox (pss_cons (ps_setLc (i := 1) (own := [("strength", 5), ("toll", 6)]) (g := gTup K 2 (gCons (gName 5) (gCons (gName 6) gNil))) (by rfl) sc_last.nd rfl rfl (sw_true rfl rfl rfl (by decide +kernel)) (pi_tup (pv 0)) (blkOk_by (own := [("strength", 5), ("toll", 6)]) (N := ["row", "strengths", "tolls", "line", "who", "strength", "toll"]) (sc := defScope s_last) (by decide +kernel)) (fun _ _ _ _ _ => (pg_tup rfl (pgs_cons (pg_name (i := 5) sc_last.nd rfl (Or.inl rfl)) (pgs_cons (pg_name (i := 6) sc_last.nd rfl (Or.inl rfl)) pgs_nil)))) (fun _ _ _ _ _ => pts_nil) (fun _ _ _ _ _ => (pv 5)))
      (pss_cons (ps_setLc (i := 2) (own := [("strength", 5), ("toll", 6)]) (g := gTup K 2 (gCons (gName 5) (gCons (gName 6) gNil))) (by rfl) sc_last.nd rfl rfl (sw_true rfl rfl rfl (by decide +kernel)) (pi_tup (pv 0)) (blkOk_by (own := [("strength", 5), ("toll", 6)]) (N := ["row", "strengths", "tolls", "line", "who", "strength", "toll"]) (sc := defScope s_last) (by decide +kernel)) (fun _ _ _ _ _ => (pg_tup rfl (pgs_cons (pg_name (i := 5) sc_last.nd rfl (Or.inl rfl)) (pgs_cons (pg_name (i := 6) sc_last.nd rfl (Or.inl rfl)) pgs_nil)))) (fun _ _ _ _ _ => pts_nil) (fun _ _ _ _ _ => (pv 6)))
      (pss_cons (ps_set (i := 3) sc_last.nd rfl (.inl rfl) (pe_lst pa_nil))
      (pss_cons (ps_for PassesOwn.never rfl (pi_range1 (by rfl) m_range (pa_cons (pe_callB call_len_seq (by rfl) m_len PySem.boot_len (pa_cons (pv 0) pa_nil)) pa_nil)) (pg_name (i := 4) sc_last.nd rfl (Or.inl rfl))
        (pss_one (ps_expr (pe_call h_pass_all.G (hr.mono (by decide)) (by rfl) h_pass_all.g h_pass_all.kp h_pass_all.b .nil pass0 (pa_cons (pv 3) (pa_cons (pv 1) (pa_cons (pv 2) (pa_cons (pv 4) pa_nil))))))))
      (pss_one (ps_ret (pe_call h_row_and_order.G (hr.mono (by decide)) (by rfl) h_row_and_order.g h_row_and_order.kp h_row_and_order.b .nil pass0 (pa_cons (pv 3) (pa_cons (pv 1) (pa_cons (pv 2) pa_nil)))))))))), ?_⟩
    refine q_asgL (el_unzip true hv hl (ev_var rfl) (fun x y => rfl) (fun x y => rfl)) fun sa H1 hsa e1 h1 => ?_
    refine q_asgL (el_unzip false (hv.ex e1) hl (ev_var rfl) (fun x y => rfl) (fun x y => rfl)) fun ta H2 hta e2 h2 => ?_
    refine q_asgL (el_lst ea_nil (by show 0 ≤ 100000; decide)) fun l H3 hl3 e3 h3 => ?_
    have h1' : H3 sa = some (.lst ((rs.map (·.1)).map V.int)) := by
      rw [List.map_map]
      exact e3 _ _ (e2 _ _ h1)
    have h2' : H3 ta = some (.lst ((rs.map (·.2)).map V.int)) := by
      rw [List.map_map]
      exact e3 _ _ h2
    have ne3 : sa ≠ ta := ne_of_none h1 hta
    have ne1 : l ≠ sa := (ne_of_none (e2 _ _ h1) hl3).symm
    have ne2 : l ≠ ta := (ne_of_none h2 hl3).symm
    have e123 := (e1.trans e2).trans e3
    have fl : H l = none := fresh_back (e1.trans e2) hl3
    have fs : H sa = none := hsa
    have hlen0 : (rs.map (·.1)).length = rs.length := List.length_map ..
    refine q_forR1 (n := (rs.length : Int)) (ea_cons (ev_lenR (ev_var rfl) (hv.ex e123)) ea_nil) (by omega) (fun k σ' H' => ∃ (y : Option V) (y5 y6 : Option V) (N : List Cow) (S : List Int), σ' = [some v, some (.ref sa), some (.ref ta), some (.ref l), y, y5, y6] ∧ H' l = some (.lst (idsV N)) ∧ H' sa = some (.lst (S.map V.int)) ∧ H' ta = some (.lst ((rs.map (·.2)).map V.int)) ∧ Kept S (rs.map (·.2)) N ∧ (∀ j, k ≤ j → S[j]? = (rs.map (·.1))[j]?) ∧ (∀ x ∈ N, x.1 < k) ∧ N.length = k ∧ NfR N ∧ Steps (tag 0 rs) (N ++ tag k (rs.drop k)) ∧ Ex H H') (fun H4 e4 => ?_) (fun k σ' H4 hk hW => ?_) (fun σ' H4 hW => ?_)
    · refine ⟨none, none, none, [], rs.map (·.1), rfl, e4 _ _ h3, e4 _ _ h1', e4 _ _ h2', ⟨(fun x z => by cases z), (fun x z => by cases z)⟩, fun j _ => rfl, (fun x z => by cases z), rfl, True.intro, .refl _, e123.trans e4⟩
    · obtain ⟨y, y5, y6, N, S, rfl, w1, w2, w3, w4, w5, w6, w7, w8, w9, w10⟩ := hW
      have hk' : k < rs.length := by omega
      have gk := List.getElem?_eq_getElem hk'
      obtain ⟨g1, g2⟩ := rows_get rs k _ gk
      refine ⟨.ref l, rfl, .ref sa, rfl, .ref ta, rfl, .int (k : Int), rfl, l, sa, ta, N, S, rs.map (·.2), k, rs[k].1, rs[k].2, rfl, w1, w2, w3, ne1, ne2, ne3, w4, by rw [w5 k (Nat.le_refl _)]; exact g1, g2, fun x hx => by have := w6 x hx; omega, by omega, ht _ (List.getElem_mem hk'), w8, fun A B s5 H5 hAB st nf h5 h6 x5 => ?_⟩
      have hSk : S[k]? = some rs[k].1 := by
        rw [w5 k (Nat.le_refl _)]
        exact g1
      have hmem : ∀ x ∈ A ++ (k, (s5, rs[k].2)) :: B, x = (k, (s5, rs[k].2)) ∨ x ∈ N := fun x hx => by
        rw [hAB]
        rcases List.mem_append.mp hx with h | h
        · exact .inr (List.mem_append_left _ h)
        · rcases List.mem_cons.mp h with h | h
          · exact .inl h
          · exact .inr (List.mem_append_right _ h)
      refine ⟨_, y5, y6, A ++ (k, (s5, rs[k].2)) :: B, S.set k s5, rfl, h5, h6, x5 _ _ (Ne.symm ne2) (Ne.symm ne3) w3, ⟨fun x hx => ?_, fun x hx => ?_⟩, fun j hj => ?_, fun x hx => ?_, ?_, nf, ?_, fun c o hc => ?_⟩
      · rcases hmem x hx with rfl | hx
        · exact set_at hSk
        · rw [set_off (by have := w6 x hx; omega)]
          exact w4.s x hx
      · rcases hmem x hx with rfl | hx
        · exact g2
        · exact w4.t x hx
      · rw [set_off (by omega)]
        exact w5 j (by omega)
      · rcases hmem x hx with rfl | hx
        · exact Nat.lt_succ_self _
        · have := w6 x hx
          omega
      · have e0 := w7
        rw [hAB, List.length_append] at e0
        rw [List.length_append, List.length_cons]
        omega
      · have e0 := tag_split 0 k rs _ gk
        rw [Nat.zero_add] at e0
        rw [e0] at w9
        refine w9.trans ?_
        have := st.under [] (tag (k + 1) (rs.drop (k + 1)))
        simpa using this
      · refine x5 c o (fun z => ?_) (fun z => ?_) (w10 _ _ hc)
        · subst z
          rw [fl] at hc
          cases hc
        · subst z
          rw [fs] at hc
          cases hc
    · obtain ⟨y, y5, y6, N, S, rfl, w1, w2, w3, w4, w5, w6, w7, w8, w9, w10⟩ := hW
      refine ⟨.ref l, rfl, .ref sa, rfl, .ref ta, rfl, l, sa, ta, N, S, rs.map (·.2), rfl, w1, w2, w3, w4, by omega, fun qq H5 e5 la => q qq H5 N (w10.trans e5) la ?_ w8⟩
      rw [show ((rs.length : Int)).toNat = rs.length from rfl, List.drop_length] at w9
      have e0 : tag rs.length [] = [] := rfl
      rw [e0, List.append_nil] at w9
      exact w9
theorem ok_first {f f1 f2 : Addr} {fd fd1 fd2 : FuncData} (F : FnP K "first" s_first f fd) (g : mg "first" = some (.ref f)) (b : Binds K fd ["row"] []) (h_fall_all : Has P w K mg base 1 "fall_all" ["line", "strengths", "tolls", "who"] spFallAll f1 fd1) (h_row_and_order : Has P w K mg base 1 "row_and_order" ["line", "strengths", "tolls"] (spRowOrderF K) f2 fd2) (m_range : mg "range" = none) (m_len : mg "len" = none) (m_reversed : mg "reversed" = none) :
    Has P w K mg base 2 "first" ["row"] (spFirstF K) f fd := by
  refine ⟨F.ok sc_first (fun vs H Q E h => ?_) (fun cdv A outer s H vs Q E hr h => ?_), g, F.kp, b⟩
  · obtain ⟨v, rs, rfl, _⟩ := h
    rfl
  · obtain ⟨v, rs, rfl, hv, hl, ht, q⟩ := h
    refine ⟨_, PSs.nox (pss_cons (ps_setLc (i := 1) (own := [("strength", 5), ("toll", 6)]) (g := gTup K 2 (gCons (gName 5) (gCons (gName 6) gNil))) (by rfl) sc_first.nd rfl rfl (sw_true rfl rfl rfl (by decide +kernel)) (pi_tup (pv 0)) (blkOk_by (own := [("strength", 5), ("toll", 6)]) (N := ["row", "strengths", "tolls", "line", "who", "strength", "toll"]) (sc := defScope s_first) (by decide +kernel)) (fun _ _ _ _ _ => (pg_tup rfl (pgs_cons (pg_name (i := 5) sc_first.nd rfl (Or.inl rfl)) (pgs_cons (pg_name (i := 6) sc_first.nd rfl (Or.inl rfl)) pgs_nil)))) (fun _ _ _ _ _ => pts_nil) (fun _ _ _ _ _ => (pv 5)))
      (pss_cons (ps_setLc (i := 2) (own := [("strength", 5), ("toll", 6)]) (g := gTup K 2 (gCons (gName 5) (gCons (gName 6) gNil))) (by rfl) sc_first.nd rfl rfl (sw_true rfl rfl rfl (by decide +kernel)) (pi_tup (pv 0)) (blkOk_by (own := [("strength", 5), ("toll", 6)]) (N := ["row", "strengths", "tolls", "line", "who", "strength", "toll"]) (sc := defScope s_first) (by decide +kernel)) (fun _ _ _ _ _ => (pg_tup rfl (pgs_cons (pg_name (i := 5) sc_first.nd rfl (Or.inl rfl)) (pgs_cons (pg_name (i := 6) sc_first.nd rfl (Or.inl rfl)) pgs_nil)))) (fun _ _ _ _ _ => pts_nil) (fun _ _ _ _ _ => (pv 6)))
      (pss_cons (ps_set (i := 3) sc_first.nd rfl (.inl rfl) (pe_lst pa_nil))
      (pss_cons (ps_for PassesOwn.never rfl (pi_revR (by rfl) m_reversed (prg_1 (by rfl) m_range (pe_callB call_len_seq (by rfl) m_len PySem.boot_len (pa_cons (pv 0) pa_nil)))) (pg_name (i := 4) sc_first.nd rfl (Or.inl rfl))
        (pss_one (ps_expr (pe_call h_fall_all.G (hr.mono (by decide)) (by rfl) h_fall_all.g h_fall_all.kp h_fall_all.b .nil pass0 (pa_cons (pv 3) (pa_cons (pv 1) (pa_cons (pv 2) (pa_cons (pv 4) pa_nil))))))))
      (pss_one (ps_ret (pe_call h_row_and_order.G (hr.mono (by decide)) (by rfl) h_row_and_order.g h_row_and_order.kp h_row_and_order.b .nil pass0 (pa_cons (pv 3) (pa_cons (pv 1) (pa_cons (pv 2) pa_nil)))))))))), ?_⟩
    refine q_asgL (el_unzip true hv hl (ev_var rfl) (fun x y => rfl) (fun x y => rfl)) fun sa H1 hsa e1 h1 => ?_
    refine q_asgL (el_unzip false (hv.ex e1) hl (ev_var rfl) (fun x y => rfl) (fun x y => rfl)) fun ta H2 hta e2 h2 => ?_
    refine q_asgL (el_lst ea_nil (by show 0 ≤ 100000; decide)) fun l H3 hl3 e3 h3 => ?_
    have h1' : H3 sa = some (.lst ((rs.map (·.1)).map V.int)) := by
      rw [List.map_map]
      exact e3 _ _ (e2 _ _ h1)
    have h2' : H3 ta = some (.lst ((rs.map (·.2)).map V.int)) := by
      rw [List.map_map]
      exact e3 _ _ h2
    have ne3 : sa ≠ ta := ne_of_none h1 hta
    have ne1 : l ≠ sa := (ne_of_none (e2 _ _ h1) hl3).symm
    have ne2 : l ≠ ta := (ne_of_none h2 hl3).symm
    have e123 := (e1.trans e2).trans e3
    have fl : H l = none := fresh_back (e1.trans e2) hl3
    have fs : H sa = none := hsa
    have hlen0 : (rs.map (·.1)).length = rs.length := List.length_map ..
    refine q_forRev (n := rs.length) (ev_lenR (ev_var rfl) (hv.ex e123)) (by omega) (fun i σ' H' => ∃ (y y5 y6 : Option V) (N : List Cow) (S : List Int), σ' = [some v, some (.ref sa), some (.ref ta), some (.ref l), y, y5, y6] ∧ H' l = some (.lst (idsV N)) ∧ H' sa = some (.lst (S.map V.int)) ∧ H' ta = some (.lst ((rs.map (·.2)).map V.int)) ∧ Kept S (rs.map (·.2)) N ∧ (∀ j, j < rs.length - i → S[j]? = (rs.map (·.1))[j]?) ∧ (∀ x ∈ N, rs.length - i ≤ x.1) ∧ N.length = i ∧ FfR N ∧ FSteps (tag 0 rs) (tag 0 (rs.take (rs.length - i)) ++ N) ∧ Ex H H') (fun H3' e3' => ?_) (fun i σ' H4 hi hW => ?_) (fun σ' H4 hW => ?_)
    · refine ⟨none, none, none, [], rs.map (·.1), rfl, e3' _ _ h3, e3' _ _ h1', e3' _ _ h2', ⟨(fun x z => by cases z), (fun x z => by cases z)⟩, fun j _ => rfl, (fun x z => by cases z), rfl, True.intro, ?_, e123.trans e3'⟩
      rw [Nat.sub_zero, List.take_length, List.append_nil]
      exact .refl _
    · obtain ⟨y, y5, y6, N, S, rfl, w1, w2, w3, w4, w5, w6, w7, w8, w9, w10⟩ := hW
      obtain ⟨k, hk⟩ : ∃ k, rs.length - i = k + 1 := ⟨rs.length - i - 1, by omega⟩
      have hk2 : rs.length - (i + 1) = k := by omega
      have hk' : k < rs.length := by omega
      rw [show rs.length - 1 - i = k by omega]
      have gk := List.getElem?_eq_getElem hk'
      obtain ⟨g1, g2⟩ := rows_get rs k _ gk
      have hSk : S[k]? = some rs[k].1 := by
        rw [w5 k (by omega)]
        exact g1
      have hnn : ∀ x ∈ N, x.1 ≠ k ∧ 0 ≤ x.2.2 := fun x hx => by
        refine ⟨by have := w6 x hx; omega, ?_⟩
        have := w4.t x hx
        rw [List.getElem?_map] at this
        obtain ⟨bb, hb1, hb2⟩ := Option.map_eq_some_iff.mp this
        rw [← hb2]
        exact ht bb (List.mem_of_getElem? hb1)
      refine ⟨.ref l, rfl, .ref sa, rfl, .ref ta, rfl, .int (k : Int), rfl, l, sa, ta, N, S, rs.map (·.2), k, rs[k].1, rs[k].2, rfl, w1, w2, w3, ne1, ne2, ne3, w4, hSk, g2, hnn, by omega, w8, fun A B s5 H5 hAB st nf h5 h6 x5 => ?_⟩
      have hmem : ∀ x ∈ A ++ (k, (s5, rs[k].2)) :: B, x = (k, (s5, rs[k].2)) ∨ x ∈ N := fun x hx => by
        rw [hAB]
        rcases List.mem_append.mp hx with h | h
        · exact .inr (List.mem_append_left _ h)
        · rcases List.mem_cons.mp h with h | h
          · exact .inl h
          · exact .inr (List.mem_append_right _ h)
      refine ⟨_, y5, y6, A ++ (k, (s5, rs[k].2)) :: B, S.set k s5, rfl, h5, h6, x5 _ _ (Ne.symm ne2) (Ne.symm ne3) w3, ⟨fun x hx => ?_, fun x hx => ?_⟩, fun j hj => ?_, fun x hx => ?_, ?_, nf, ?_, fun c o hc => ?_⟩
      · rcases hmem x hx with rfl | hx
        · exact set_at hSk
        · rw [set_off (by have := w6 x hx; omega)]
          exact w4.s x hx
      · rcases hmem x hx with rfl | hx
        · exact g2
        · exact w4.t x hx
      · rw [set_off (by omega)]
        exact w5 j (by omega)
      · rcases hmem x hx with rfl | hx
        · dsimp only
          omega
        · have := w6 x hx
          omega
      · have e0 := w7
        rw [hAB, List.length_append] at e0
        rw [List.length_append, List.length_cons]
        omega
      · rw [hk, tag_take gk] at w9
        rw [hk2]
        refine w9.trans ?_
        have := st.under (tag 0 (rs.take k)) []
        simpa using this
      · refine x5 c o (fun z => ?_) (fun z => ?_) (w10 _ _ hc)
        · subst z
          rw [fl] at hc
          cases hc
        · subst z
          rw [fs] at hc
          cases hc
    · obtain ⟨y, y5, y6, N, S, rfl, w1, w2, w3, w4, w5, w6, w7, w8, w9, w10⟩ := hW
      refine ⟨.ref l, rfl, .ref sa, rfl, .ref ta, rfl, l, sa, ta, N, S, rs.map (·.2), rfl, w1, w2, w3, w4, by omega, fun qq H5 e5 la => q qq H5 N (w10.trans e5) la ?_ w8⟩
      rw [Nat.sub_self] at w9
      exact w9
end
end K78
set_option maxHeartbeats 4000000
namespace HH
open PySem PySem.Spec PyProof.Rows L2 Evl RZ
def spOwners (K : PySem.W.Frag) : Sp := fun vs H Q _ => ∃ (v : V) (ls : List Lot), vs = [v] ∧ HerdAt K H v ls ∧ PosL ls ∧ (sprR ls).length ≤ 900 ∧ RetL (natsV (ownL ls)) H Q
def LedOk (w : Bool) (L0 L : List Cow) (ps : List (Int × Int)) : Prop := if w then PRun L0 L ps ∧ NfR L else FSteps L0 L ∧ FfR L
def spLedL (K : PySem.W.Frag) : Sp := fun vs H Q _ => ∃ (v : V) (rs : HH.Row) (w : Bool), vs = [v, .int (if w then 1 else -1)] ∧ RowAt K H v rs ∧ rs.length ≤ 100 ∧ (∀ b ∈ rs, 0 ≤ b.2) ∧
  ∀ (q ot lp : Addr) (v' : V) (us : List V) (L : List Cow) (ps : List (Int × Int)) H', Ex H H' → H' q = some (.tup [v', .ref ot, .ref lp]) → RowAt K H' v' (rowsOf L) → H' ot = some (.lst (natsV (L.map (·.1)))) → H' lp = some (.lst us) → BeastsT H' us ps → LedOk w (tag 0 rs) L ps → Q (.ref q) H'
theorem PRun.appR {L0 L : List Cow} {ps : List (Int × Int)} (X : List Cow) (h : PRun L0 L ps) : PRun (L0 ++ X) (L ++ X) ps := by
  induction h with
  | nil => exact .nil
  | step r hp ih =>
    rename_i pre post a b ps
    have e1 : (pre ++ a :: b :: post) ++ X = pre ++ a :: b :: (post ++ X) := by simp
    rw [e1] at ih
    have := PRun.step ih hp
    have e2 : (pre ++ (b.1, (b.2.1 - a.2.2, b.2.2)) :: a :: post) ++ X = pre ++ (b.1, (b.2.1 - a.2.2, b.2.2)) :: a :: (post ++ X) := by simp
    rw [e2]
    exact this
def Ex3 (a b c : Addr) (H H' : Hp) : Prop := ∀ x o, x ≠ a → x ≠ b → x ≠ c → H x = some o → H' x = some o
section
variable {a b c : Addr} {H0 H H1 H' : Hp}
theorem Ex3.trans (x : Ex3 a b c H H1) (y : Ex3 a b c H1 H') : Ex3 a b c H H' := fun d o n1 n2 n3 h => y d o n1 n2 n3 (x d o n1 n2 n3 h)
theorem Ex3.of (e : Ex H H') : Ex3 a b c H H' := fun d o _ _ _ h => e d o h
theorem Ex3.u1 {o : HO} (x : Ex3 a b c H H') : Ex3 a b c H (upd H' a o) := fun d u n1 n2 n3 h => by
  rw [upd_ne n1]
  exact x d u n1 n2 n3 h
theorem Ex3.u2 {o : HO} (x : Ex3 a b c H H') : Ex3 a b c H (upd H' b o) := fun d u n1 n2 n3 h => by
  rw [upd_ne n2]
  exact x d u n1 n2 n3 h
theorem Ex3.u3 {o : HO} (x : Ex3 a b c H H') : Ex3 a b c H (upd H' c o) := fun d u n1 n2 n3 h => by
  rw [upd_ne n3]
  exact x d u n1 n2 n3 h
theorem ex_ex3 (e : Ex H0 H) (x : Ex3 a b c H H') (na : H0 a = none) (nb : H0 b = none) (nc : H0 c = none) : Ex H0 H' := fun d o h => x d o (ne_of_none h na) (ne_of_none h nb) (ne_of_none h nc) (e d o h)
theorem beasts_ex3 {xs ys zs us : List V} {ps : HH.Row} (h : BeastsT H us ps) (e : Ex3 a b c H H') (ha : H a = some (.lst xs)) (hb : H b = some (.lst ys)) (hc : H c = some (.lst zs)) : BeastsT H' us ps := All2.mono (fun _ _ ⟨p, g1, g2⟩ => ⟨p, g1, e p _ (fun z => by rw [z, ha] at g2; cases g2) (fun z => by rw [z, hb] at g2; cases g2) (fun z => by rw [z, hc] at g2; cases g2) g2⟩) h
end
theorem rgV_at {n i : Nat} {x : V} (h : (rgV 0 (n : Int))[i]? = some x) : x = .int (i : Int) ∧ i < n := by
  have hi := (List.getElem?_eq_some_iff.mp h).1
  rw [rgV_length] at hi
  have hi : i < n := by omega
  refine ⟨?_, hi⟩
  unfold rgV at h
  rw [List.getElem?_map, List.getElem?_range (by omega)] at h
  have := Option.some.inj h
  rw [← this]
  show V.int (0 + (i : Int)) = _
  rw [Int.zero_add]
theorem rgR_at {n i : Nat} {x : V} (h : (rgV 0 (n : Int)).reverse[i]? = some x) : x = .int ((n - 1 - i : Nat) : Int) ∧ i < n := by
  have hi := (List.getElem?_eq_some_iff.mp h).1
  rw [List.length_reverse, rgV_length] at hi
  have hi : i < n := by omega
  rw [List.getElem?_reverse (by rw [rgV_length]; omega), rgV_length] at h
  have := rgV_at h
  rw [show ((n : Int) - 0).toNat - 1 - i = n - 1 - i by omega] at this
  exact ⟨this.1, hi⟩
section
variable {K : PySem.W.Frag} {H H' : Hp} {σ : L2.St} {ta tb tc ti : TE} {D : Ends} {tz : TS}
theorem s_appPT {l : Addr} {xs : List V} {a b : Int} (hl : H l = some (.lst xs)) (h1 : Ev ta σ H (.int a)) (h2 : Ev tb σ H (.int b)) (ho : Ev tc σ H (.ref l)) (hn : xs.length < 100000) (k : ∀ T H1, Ex H H1 → H1 l = some (.lst xs) → H1 T = some (.tup [.int a, .int b]) → D.nx σ (upd H1 l (.lst (xs ++ [.ref T])))) : tDrop (tBM K "list" rAppend tc (tCons (tTup (tCons ta (tCons tb tNil))) tNil)) D σ H :=
  ho H (Ex.refl H) _ fun H1 e1 => ⟨.inl ⟨rfl, xs, sq_of (e1 _ _ hl)⟩, h1 H1 e1 _ fun H3 e3 => h2 H3 (e1.trans e3) _ fun H4 e4 => ⟨by show 2 ≤ sizeLine; decide, fun T hT => by
    have e5 := ((e1.trans e3).trans e4).trans (Ex.new (o := .tup [V.int a, .int b]) hT)
    exact ⟨l, xs, .ref T, rfl, rfl, e5 _ _ hl, sz_lt hn, k T _ e5 (e5 _ _ hl) upd_same⟩⟩⟩
theorem q_appPT {l : Addr} {xs : List V} {a b : Int} (hl : H l = some (.lst xs)) (h1 : Ev ta σ H (.int a)) (h2 : Ev tb σ H (.int b)) (ho : Ev tc σ H (.ref l)) (hn : xs.length < 100000) (k : ∀ T H1, Ex H H1 → H1 l = some (.lst xs) → H1 T = some (.tup [.int a, .int b]) → tz D σ (upd H1 l (.lst (xs ++ [.ref T])))) : tSeq (tDrop (tBM K "list" rAppend tc (tCons (tTup (tCons ta (tCons tb tNil))) tNil))) tz D σ H := s_appPT (D := { D with nx := tz D }) hl h1 h2 ho hn k
theorem led_tail {ra l o p : Addr} {sv : V} {us pu : List V} {ps : HH.Row} {A B : List Cow} {who : Nat} {s t : Int} (nlo : l ≠ o) (nlp : l ≠ p) (nop : o ≠ p) (hl : H l = some (.lst us)) (bl : BeastsT H us (rowsOf (A ++ B))) (ho : H o = some (.lst (idsV (A ++ B)))) (hp : H p = some (.lst pu)) (bp : BeastsT H pu ps) (hn : (A ++ B).length ≤ 200)
    (k : ∀ us' H', Ex3 l o p H H' → H' l = some (.lst us') → BeastsT H' us' (rowsOf (A ++ (who, (s, t)) :: B)) → H' o = some (.lst (idsV (A ++ (who, (s, t)) :: B))) → H' p = some (.lst pu) → BeastsT H' pu ps → D.nx [some (.ref ra), some sv, some (.ref l), some (.ref o), some (.ref p), some (.int (who : Int)), some (.int s), some (.int t), some (.int (A.length : Int))] H') :
    tSeq (tDrop (tBM K "list" rIns (tVar 2) (tCons (tVar 8) (tCons (tTup (tCons (tVar 6) (tCons (tVar 7) tNil))) tNil)))) (tDrop (tBM K "list" rIns (tVar 3) (tCons (tVar 8) (tCons (tVar 5) tNil)))) D [some (.ref ra), some sv, some (.ref l), some (.ref o), some (.ref p), some (.int (who : Int)), some (.int s), some (.int t), some (.int (A.length : Int))] H := by
  have bl' : BeastsT H us (rowsOf A ++ rowsOf B) := by
    have e : rowsOf (A ++ B) = rowsOf A ++ rowsOf B := by unfold rowsOf; rw [List.map_append]
    rw [← e]
    exact bl
  obtain ⟨u1, u2, rfl, b1, b2⟩ := All2.split bl'
  have l1 : u1.length = A.length := by
    rw [b1.len]
    unfold rowsOf
    rw [List.length_map]
  have l2 : u2.length = B.length := by
    rw [b2.len]
    unfold rowsOf
    rw [List.length_map]
  rw [List.length_append] at hn
  refine q_insPT (K := K) hl (ev_var rfl) (ev_var rfl) (ev_var rfl) (ev_var rfl) (by rw [List.length_append]; omega) (by omega) fun T H1 e1 g1 gT => ?_
  rw [show (u1 ++ u2).take A.length ++ V.ref T :: (u1 ++ u2).drop A.length = u1 ++ .ref T :: u2 by rw [← l1, List.take_left, List.drop_left]]
  refine ⟨.ref o, rfl, .inl ⟨rfl, _, sq_of (by rw [upd_ne nlo.symm]; exact e1 _ _ ho)⟩, .int (A.length : Int), rfl, .int (who : Int), rfl, ?_⟩
  refine ⟨o, _, (A.length : Int), .int (who : Int), rfl, rfl, by rw [upd_ne nlo.symm]; exact e1 _ _ ho, sz_lt (by rw [idsV_len, List.length_append]; omega), by omega, by omega, ?_⟩
  rw [show ((A.length : Nat) : Int).toNat = A.length from rfl, ← idsV_ins A B (who, (s, t))] at *
  have x3 : Ex3 l o p H (upd (upd H1 l (.lst (u1 ++ .ref T :: u2))) o (.lst ((idsV (A ++ B)).take A.length ++ [.int (who : Int)] ++ (idsV (A ++ B)).drop A.length))) := (Ex3.of e1).u1.u2
  have gl : (upd (upd H1 l (.lst (u1 ++ .ref T :: u2))) o (.lst ((idsV (A ++ B)).take A.length ++ [.int (who : Int)] ++ (idsV (A ++ B)).drop A.length))) l = some (.lst (u1 ++ .ref T :: u2)) := by
    rw [upd_ne nlo]
    exact upd_same
  have gp : (upd (upd H1 l (.lst (u1 ++ .ref T :: u2))) o (.lst ((idsV (A ++ B)).take A.length ++ [.int (who : Int)] ++ (idsV (A ++ B)).drop A.length))) p = some (.lst pu) := by
    rw [upd_ne nop.symm, upd_ne nlp.symm]
    exact e1 _ _ hp
  refine k _ _ x3 gl ?_ upd_same gp (beasts_ex3 bp x3 hl ho hp)
  have e : rowsOf (A ++ (who, (s, t)) :: B) = rowsOf A ++ (s, t) :: rowsOf B := by
    unfold rowsOf
    rw [List.map_append]
    rfl
  rw [e]
  refine All2.app (beasts_ex3 b1 x3 hl ho hp) (.cons ⟨T, rfl, ?_⟩ (beasts_ex3 b2 x3 hl ho hp))
  rw [upd_ne (fun z => by rw [z, e1 _ _ ho] at gT; cases gT), upd_ne (fun z => by rw [z, g1] at gT; cases gT)]
  exact gT
end
theorem sprC_le {ls : List Lot} {k : Nat} (h : k ≤ ls.length) : (sprC ls k).length ≤ (sprR ls).length := by
  have e := spr_both ls (ls.length - k) (by omega)
  rw [show ls.length - (ls.length - k) = k by omega] at e
  have := own_len ls
  unfold ownL at this
  rw [List.length_map, ← e, List.length_append] at this
  omega
theorem own_succ {ls : List Lot} {k : Nat} {l : Lot} (h : ls[k]? = some l) : natsV ((sprC ls (k + 1)).map (·.1)) = natsV ((sprC ls k).map (·.1)) ++ List.replicate l.2.2.toNat (.int (k : Int)) := by
  have hk := (List.getElem?_eq_some_iff.mp h).1
  have e := lot_get hk
  rw [h] at e
  have e := Option.some.inj e
  subst e
  rw [sprC_succ, List.map_append, natsV_app]
  unfold blkL natsV
  rw [List.map_replicate, List.map_replicate]
theorem q_par3S {i j l : Nat} {ta tb tc : TE} {tz : TS} {D : Ends} {σ : L2.St} {H : Hp} (h : ta σ H fun x H1 => tb σ H1 fun y H2 => tc σ H2 fun z H3 => ∃ u v w, [x, y, z] = [u, v, w] ∧ tz D (((σ.set i (some u)).set j (some v)).set l (some w)) H3) : tSeq (tPar3 i j l (tCons ta (tCons tb (tCons tc tNil)))) tz D σ H := h
theorem tag_drop {rs : HH.Row} {k : Nat} (h : k < rs.length) : tag k (rs.drop k) = (k, rs[k]) :: tag (k + 1) (rs.drop (k + 1)) := by
  rw [List.drop_eq_getElem_cons h]
  rfl
theorem fs_tl {L M : List Cow} (h : FSteps L M) : (∀ x ∈ L, 0 ≤ x.2.2) → ∀ x ∈ M, 0 ≤ x.2.2 := by
  induction h with
  | refl => exact fun h => h
  | head s _ ih =>
    obtain ⟨p, q, a, b, rfl, hp, rfl⟩ := s
    refine fun h => ih fun x hx => ?_
    rcases List.mem_append.mp hx with hx | hx
    · exact h x (List.mem_append_left _ hx)
    · rcases List.mem_cons.mp hx with rfl | hx
      · exact h _ (by simp)
      · rcases List.mem_cons.mp hx with rfl | hx
        · exact h a (by simp)
        · exact h x (by simp [hx])
theorem tag_tl {rs : HH.Row} {k j : Nat} (tl : ∀ b ∈ rs, 0 ≤ b.2) : ∀ x ∈ tag k (rs.drop j), 0 ≤ x.2.2 := fun x hx => by
  have h : x.2 ∈ (tag k (rs.drop j)).map (·.2) := List.mem_map.mpr ⟨x, hx, rfl⟩
  rw [tag_snd] at h
  exact tl _ (List.mem_of_mem_drop h)
def spHerdM (K : PySem.W.Frag) : Sp := fun vs H Q _ => ∃ (p : Addr) (m : Nat) (M : Int) (n : Nat), vs = [.ref p, .int (m : Int), .int M] ∧ 0 < m ∧ m ≤ 30 ∧ 0 < M ∧ M ≤ 30 ∧ Bx H p n ∧ n + 200 < Lim ∧ ∀ z H' (ls : List Lot), ExB p H H' → Bx H' p (n + 200) → HerdAt K H' z ls → 0 < ls.length → ls.length ≤ m → (∀ l ∈ ls, Fits 100000000000 l) → (sprR ls).length ≤ m * M.toNat → Q z H'
theorem spr_bound {M : Int} : ∀ {ls : List Lot}, (∀ l ∈ ls, 1 ≤ l.2.2 ∧ l.2.2 ≤ M) → (sprR ls).length ≤ ls.length * M.toNat
  | [], _ => Nat.zero_le _
  | l :: ls, h => by
    have ih := spr_bound fun x hx => h x (List.mem_cons_of_mem _ hx)
    have h1 := h l (by simp)
    unfold sprR at ih ⊢
    rw [List.flatMap_cons, List.length_append, List.length_replicate, List.length_cons, Nat.add_mul, Nat.one_mul]
    omega
theorem pe_bmK {X : Cx} {K : PySem.W.Frag} {e : Expr} {T : String} {r : V → List V → Hp → VK → Prop} {to : TE} {t : TA} (h : PE X e (tBM X.K T r to t)) (hK : X.K = K := by rfl) : PE X e (tBM K T r to t) := by
  subst hK
  exact h
theorem mt_lcountK {X : Cx} {K : PySem.W.Frag} (hK : X.K = K := by rfl) : MtR X "list.count" (rCntI K) := by
  subst hK
  exact mt_lcount
theorem pi_enumK {X : Cx} {K : PySem.W.Frag} {e : Expr} {ta : TA} {p pos tpos : Pos} {elts : List Expr} {kk : Nat} (hg : Gl X "enumerate") (hm : X.mg "enumerate" = none) (ha : PA X [e] ta) (hs : starEach [e] X.env = [(false, eval e X.env)] := by rfl) (hK : X.K = K := by rfl) :
    PI X (.Tuple elts kk tpos) (.Call (.Name "enumerate" p) [e] [] pos) (iEnum K ta) := by
  subst hK
  exact pi_enum hg hm ha hs
theorem op_catAK {X : Cx} {K : PySem.W.Frag} (hK : X.K = K := by rfl) : OpR X (binaryOp .Add) (rCatA K) := by
  subst hK
  exact op_catA
end HH
set_option maxHeartbeats 4000000
namespace HH
open PySem PySem.Spec PyProof.Rows L2 Evl RZ
def ListOf (H : Hp) (u : V) (xs : List V) : Prop := ∃ p, u = .ref p ∧ H p = some (.lst xs)
theorem ListOf.ex {H H' : Hp} {u : V} {xs : List V} (h : ListOf H u xs) (e : Ex H H') : ListOf H' u xs := let ⟨p, h1, h2⟩ := h; ⟨p, h1, e _ _ h2⟩
section
variable {K : PySem.W.Frag} {H H' : Hp} {σ : L2.St} {te ta tb : TE} {tr : TA}
theorem el_rngM {n j : Nat} {vs : List Nat} (g : Nat → V) (h : EvA tr σ H [.int (n : Int)]) (hn : n ≤ 40000) (hw : ∀ x, wipe ((wipe σ vs).set j (some x)) vs = wipe σ vs)
    (h1 : ∀ i H1, Ex H H1 → i < n → Ev te ((wipe σ vs).set j (some (.int (i : Int)))) H1 (g i)) : EvL (tLc (iRng1 tr) (gName j) tYes te vs) σ H ((List.range n).map g) := fun H0 e0 Q q => by
  refine h H0 e0 _ fun H1 e1 => ⟨(n : Int), rfl, by omega, by omega, fun D hD => ?_⟩
  have e01 := e0.trans e1
  have hnn : ((n : Int) - 0).toNat = n := by omega
  refine in_it walk_range (fun k H2 => Ex H1 H2 ∧ H2 D = some (.lst ((List.range k).map g))) ⟨Ex.new hD, upd_same⟩ (fun _ _ _ _ => trivial) (fun m x H2 H3 hm p y => ?_) (fun H2 p => ?_)
  · obtain ⟨rfl, hx⟩ := y
    have hx : x = V.int (0 + (m : Int)) := hx
    rw [Int.zero_add] at hx
    subst hx
    obtain ⟨p1, p2⟩ := p
    have hm' : m < n := by omega
    refine ⟨hw _, t_yes ?_⟩
    refine (h1 m _ (e01.trans p1) hm') _ (Ex.refl _) _ fun H4 e4 => ⟨_, e4 _ _ p2, sz_lt (by rw [List.length_map, List.length_range]; omega), Ex.mut (p1.trans e4) hD, ?_⟩
    rw [upd_same, List.range_succ, List.map_append]
    rfl
  · obtain ⟨p1, p2⟩ := p
    rw [Int.toNat_natCast] at p2
    exact q D H2 (fresh_back e1 hD) (e1.trans p1) p2
theorem els_rng {n j : Nat} {vs : List Nat} (g : Nat → List V) (h : EvA tr σ H [.int (n : Int)]) (hn : n ≤ 40000) (hw : ∀ x, wipe ((wipe σ vs).set j (some x)) vs = wipe σ vs)
    (h1 : ∀ i H1, Ex H H1 → i < n → EvL te ((wipe σ vs).set j (some (.int (i : Int)))) H1 (g i)) : ∀ H1, Ex H H1 → ∀ Q : VK, (∀ q us H2, H1 q = none → Ex H1 H2 → H2 q = some (.lst us) → All2 (ListOf H2) us ((List.range n).map g) → Q (.ref q) H2) → tLc (iRng1 tr) (gName j) tYes te vs σ H1 Q := fun H0 e0 Q q => by
  refine h H0 e0 _ fun H1 e1 => ⟨(n : Int), rfl, by omega, by omega, fun D hD => ?_⟩
  have e01 := e0.trans e1
  have hnn : ((n : Int) - 0).toNat = n := by omega
  refine in_it walk_range (fun k H2 => Ex H1 H2 ∧ ∃ us, H2 D = some (.lst us) ∧ (∀ u ∈ us, u ≠ .ref D) ∧ All2 (ListOf H2) us ((List.range k).map g)) ⟨Ex.new hD, [], upd_same, (fun u hu => nomatch hu), .nil⟩ (fun _ _ _ _ => trivial) (fun m x H2 H3 hm p y => ?_) (fun H2 p => ?_)
  · obtain ⟨rfl, hx⟩ := y
    have hx : x = V.int (0 + (m : Int)) := hx
    rw [Int.zero_add] at hx
    subst hx
    obtain ⟨p1, us, p2, p4, p3⟩ := p
    have hm' : m < n := by omega
    refine ⟨hw _, t_yes ?_⟩
    refine (h1 m _ (e01.trans p1) hm') _ (Ex.refl _) _ fun r H4 hr e4 g4 => ?_
    have nrD : r ≠ D := (ne_of_none p2 hr).symm
    refine ⟨us, e4 _ _ p2, sz_lt (by rw [All2.len p3, List.length_map, List.length_range]; omega), Ex.mut (p1.trans e4) hD, us ++ [.ref r], upd_same, fun u hu => ?_, ?_⟩
    · rcases List.mem_append.mp hu with hu | hu
      · exact p4 u hu
      · rw [List.mem_singleton.mp hu]
        exact fun z => nrD (by injection z)
    · rw [List.range_succ, List.map_append]
      have keep : ∀ {vs : List V} {ll : List (List V)}, (∀ u ∈ vs, u ≠ .ref D) → All2 (ListOf H3) vs ll → All2 (ListOf (upd H4 D (.lst (us ++ [.ref r])))) vs ll := fun {vs} {ll} hv a => by
        induction a with
        | nil => exact .nil
        | cons hx _ ih =>
          obtain ⟨p, rfl, hp⟩ := hx
          refine .cons ⟨p, rfl, ?_⟩ (ih fun u hu => hv u (List.mem_cons_of_mem _ hu))
          rw [upd_ne (fun z => hv (.ref p) (by simp) (by rw [z]))]
          exact e4 _ _ hp
      refine All2.app (keep p4 p3) (.cons ⟨r, rfl, ?_⟩ .nil)
      rw [upd_ne nrD]
      exact g4
  · obtain ⟨p1, us, p2, p4, p3⟩ := p
    rw [Int.toNat_natCast] at p3
    exact q D us H2 (fresh_back e1 hD) (e1.trans p1) p2 p3
theorem ept_ends {j : Nat} {vs : List Nat} {a : Addr} {us : List V} {ll : List (List Int)} {ps : HH.Row} (h : Ev te σ H (.ref a)) (ha : H a = some (.lst us)) (hb : All2 (ListOf H) us (ll.map fun l => l.map V.int)) (hl : ll.length ≤ 1000) (hps : ps.length = ll.length) (he : ∀ (i : Nat) (b : Int × Int), ps[i]? = some b → ∃ l : List Int, ll[i]? = some l ∧ l.head? = some b.1 ∧ l.getLast? = some b.2)
    (hw : ∀ x, wipe ((wipe σ vs).set j (some x)) vs = wipe σ vs) (hj : ∀ x : V, ((wipe σ vs).set j (some x))[j]? = some (some x)) :
    ∀ H1, Ex H H1 → ∀ Q : VK, (∀ q us H2, H1 q = none → Ex H1 H2 → H2 q = some (.lst us) → BeastsT H2 us ps → Q (.ref q) H2) → tLc (iList K te) (gName j) tYes (tTup (tCons (tOp (rIxL K) (tVar j) (tC (.int 0))) (tCons (tOp (rIxL K) (tVar j) (tUn (rU fun i => .int (-i)) (tC (.int 1)))) tNil))) vs σ H1 Q := fun H0 e0 Q q => by
  refine h H0 e0 _ fun H1 e1 => ⟨a, rfl, ⟨us, sq_of ((e0.trans e1) _ _ ha)⟩, fun D hD => ?_⟩
  have e01 := e0.trans e1
  have ul : us.length = ps.length := by rw [All2.len hb, List.length_map, hps]
  refine in_it (walk_list (xs := us)) (fun k H2 => Ex H1 H2 ∧ ∃ ws, H2 D = some (.lst ws) ∧ BeastsT H2 ws (ps.take k)) ⟨Ex.new hD, [], upd_same, .nil⟩ (fun k H2 _ z => sq_of (z.1 _ _ (e01 _ _ ha))) (fun k x H2 H3 hk z y => ?_) (fun H2 z => ?_)
  · obtain ⟨rfl, hx⟩ := y
    obtain ⟨z1, ws, z2, z3⟩ := z
    have hk' : k < ps.length := by omega
    have hpk : ps[k]? = some ps[k] := List.getElem?_eq_getElem hk'
    obtain ⟨l, h1, h2, h3⟩ := he k _ hpk
    generalize ps[k] = b at hpk h2 h3
    obtain ⟨xs, hxs, p, rfl, hp⟩ := All2.get hb hx
    rw [List.getElem?_map, h1] at hxs
    have hxs := Option.some.inj hxs
    subst hxs
    have g3 := z1 _ _ (e01 _ _ hp)
    have a0 : atI (l.map V.int) 0 = some (.int b.1) := by
      cases l with
      | nil => cases h2
      | cons y l =>
        cases h2
        exact atI_nat (j := 0) rfl
    have a1 : atI (l.map V.int) (-1) = some (.int b.2) := by
      rcases List.eq_nil_or_concat l with rfl | ⟨l', y, rfl⟩
      · cases h3
      · rw [List.concat_eq_append] at h3 ⊢
        rw [List.getLast?_concat] at h3
        cases h3
        rw [List.map_append]
        exact atI_last _ _
    refine ⟨hw _, t_yes ?_⟩
    refine (ev_op (ev_var (hj _)) ev_c (rv_ixL (K := K) (sq_of g3) a0) : Ev _ _ _ (.int b.1)) _ (Ex.refl _) _ fun H4 e4 => ?_
    refine (ev_op (ev_var (hj _)) (ev_un ev_c ru_neg) (rv_ixL (K := K) (sq_of (e4 _ _ g3)) a1) : Ev _ _ _ (.int b.2)) _ (Ex.refl _) _ fun H5 e5 => ⟨by show 2 ≤ sizeLine; decide, fun T hT => ?_⟩
    have nT := Ex.new (o := .tup [V.int b.1, .int b.2]) hT
    have e35 := e4.trans e5
    have g7 := nT _ _ (e35 _ _ z2)
    refine ⟨ws, g7, sz_lt (by rw [z3.len, List.length_take]; omega), Ex.mut ((z1.trans e35).trans nT) hD, ws ++ [.ref T], upd_same, ?_⟩
    rw [List.take_add_one, hpk]
    exact BeastsT.exB' (q := D) (All2.app (BeastsT.ex' z3 (e35.trans nT)) (.cons ⟨T, rfl, upd_same⟩ .nil)) (ExB.refl _ _).upd g7
  · obtain ⟨z1, ws, z2, z3⟩ := z
    rw [ul, List.take_length] at z3
    exact q D ws H2 (fresh_back e1 hD) (e1.trans z1) z2 z3
theorem lt_ones {j : Nat} {vs : List Nat} {v : V} {rs : HH.Row} (h : Ev te σ H v) (hv : RowAt K H v rs) (hl : rs.length ≤ 1000) (hw : ∀ x, wipe ((wipe σ vs).set j (some x)) vs = wipe σ vs) (hj : ∀ x : V, ((wipe σ vs).set j (some x))[j]? = some (some x)) :
    ∀ H1, Ex H H1 → ∀ Q : VK, (∀ q ws H2, H1 q = none → Ex H1 H2 → H2 q = some (.lst ws) → LotsA K H2 ws (ones rs) → Q (.ref q) H2) → tLc (iTup K te) (gName j) tYes (tOp (rCatA K) (tVar j) (tTup (tCons (tC (.int 1)) tNil))) vs σ H1 Q := fun H0 e0 Q q => by
  obtain ⟨a, us, rfl, ha, bs⟩ := hv
  refine h H0 e0 _ fun H1 e1 => ⟨a, rfl, ⟨us, ex_t (e0.trans e1) ha⟩, fun D hD => ?_⟩
  have e01 := e0.trans e1
  have ul : us.length = rs.length := bs.1
  refine in_it (walk_tup (xs := us)) (fun k H2 => Ex H1 H2 ∧ ∃ ws, H2 D = some (.lst ws) ∧ LotsA K H2 ws (ones (rs.take k))) ⟨Ex.new hD, [], upd_same, .nil⟩ (fun k H2 _ z => ex_t (e01.trans z.1) ha) (fun k x H2 H3 hk z y => ?_) (fun H2 z => ?_)
  · obtain ⟨rfl, hx⟩ := y
    obtain ⟨z1, ws, z2, z3⟩ := z
    have hk' : k < rs.length := by omega
    have hpk : rs[k]? = some rs[k] := List.getElem?_eq_getElem hk'
    obtain ⟨u, hu, p, rfl, hp⟩ := bs.2 k _ hpk
    rw [hx] at hu
    cases hu
    generalize rs[k] = b at hpk hp
    refine ⟨hw _, t_yes ?_⟩
    have sp := ex_t (e01.trans z1) hp
    refine (ep_cat (K := K) (xs := [.int b.1, .int b.2]) (ys := [.int 1]) (ep_val (ev_var (hj _)) sp) (fun H5 e5 Q5 q5 => (eu_tup (ea_cons ev_c ea_nil) (by decide)) H5 e5 Q5 fun p H6 hp e6 g6 => q5 p H6 e6 (st_of g6)) (by show 2 + 1 ≤ 100000; decide)) _ (Ex.refl _) _ fun T H4 e4 sT => ?_
    have g7 := e4 _ _ z2
    refine ⟨ws, g7, sz_lt (by rw [All2.len z3]; unfold ones; rw [List.length_map, List.length_take]; omega), Ex.mut (z1.trans e4) hD, ws ++ [.ref T], upd_same, ?_⟩
    have eo : ones (rs.take (k + 1)) = ones (rs.take k) ++ [(b.1, b.2, 1)] := by
      unfold ones
      rw [List.take_add_one, hpk, List.map_append]
      rfl
    rw [eo]
    exact LotsA.exB' (All2.app (LotsA.ex' z3 e4) (.cons ⟨T, rfl, sT⟩ .nil)) (ExB.refl _ _).upd g7
  · obtain ⟨z1, ws, z2, z3⟩ := z
    rw [ul, List.take_length] at z3
    exact q D ws H2 (fresh_back e1 hD) (e1.trans z1) z2 z3
theorem el_sndV {ps : HH.Row} {j : Nat} {vs : List Nat} {a : Addr} {us : List V} (h : Ev te σ H (.ref a)) (ha : H a = some (.lst us)) (bs : BeastsT H us ps) (hl : ps.length ≤ 20000) (hw : ∀ x, wipe ((wipe σ vs).set j (some x)) vs = wipe σ vs) (hj : ∀ x : V, ((wipe σ vs).set j (some x))[j]? = some (some x)) :
    EvL (tLc (iList K te) (gName j) tYes (tOp (rIxT K) (tVar j) (tC (.int 1))) vs) σ H ((ps.map (·.2)).map V.int) := fun H0 e0 Q q => by
  refine h H0 e0 _ fun H1 e1 => ⟨a, rfl, ⟨us, sq_of ((e0.trans e1) _ _ ha)⟩, fun D hD => ?_⟩
  have e01 := e0.trans e1
  have ul : us.length = ps.length := All2.len bs
  refine in_it (walk_list (xs := us)) (fun k H2 => Ex H1 H2 ∧ H2 D = some (.lst (((ps.take k).map (·.2)).map V.int))) ⟨Ex.new hD, upd_same⟩ (fun k H2 _ z => sq_of (z.1 _ _ (e01 _ _ ha))) (fun k x H2 H3 hk z y => ?_) (fun H2 z => ?_)
  · obtain ⟨rfl, hx⟩ := y
    obtain ⟨z1, z2⟩ := z
    obtain ⟨b, hb, p, rfl, hp⟩ := All2.get bs hx
    refine ⟨hw _, t_yes ?_⟩
    refine (ev_op (ev_var (hj _)) ev_c (rv_ixT (K := K) (st_of (z1 _ _ (e01 _ _ hp))) rfl) : Ev (tOp (rIxT K) (tVar j) (tC (.int 1))) _ _ (.int b.2)) _ (Ex.refl _) _ fun H4 e4 => ⟨_, e4 _ _ z2, sz_lt (by rw [List.length_map, List.length_map, List.length_take]; omega), Ex.mut (z1.trans e4) hD, ?_⟩
    rw [List.take_add_one, hb, List.map_append, List.map_append]
    exact upd_same
  · obtain ⟨z1, z2⟩ := z
    rw [ul, List.take_length] at z2
    exact q D H2 (fresh_back e1 hD) (e1.trans z1) z2
theorem el_natsM {l : List Nat} {j : Nat} {vs : List Nat} {a : Addr} (g : Nat → V) (h : Ev te σ H (.ref a)) (ha : H a = some (.lst (natsV l))) (hl : l.length ≤ 20000) (hw : ∀ x, wipe ((wipe σ vs).set j (some x)) vs = wipe σ vs)
    (h1 : ∀ x H1, Ex H H1 → x ∈ l → Ev tb ((wipe σ vs).set j (some (.int (x : Int)))) H1 (g x)) : EvL (tLc (iList K te) (gName j) tYes tb vs) σ H (l.map g) := fun H0 e0 Q q => by
  refine h H0 e0 _ fun H1 e1 => ⟨a, rfl, ⟨_, sq_of ((e0.trans e1) _ _ ha)⟩, fun D hD => ?_⟩
  have e01 := e0.trans e1
  refine in_it (walk_list (xs := natsV l)) (fun k H2 => Ex H1 H2 ∧ H2 D = some (.lst ((l.take k).map g))) ⟨Ex.new hD, upd_same⟩ (fun k H2 _ z => sq_of (z.1 _ _ (e01 _ _ ha))) (fun k x H2 H3 hk z y => ?_) (fun H2 z => ?_)
  · obtain ⟨rfl, hx⟩ := y
    obtain ⟨z1, z2⟩ := z
    have hk' : k < l.length := by
      rw [natsV_len] at hk
      exact hk
    have hb : l[k]? = some l[k] := List.getElem?_eq_getElem hk'
    have hx2 := natsV_at hb
    rw [hx] at hx2
    cases hx2
    generalize l[k] = b at hb hx
    refine ⟨hw _, t_yes ?_⟩
    refine (h1 b _ (e01.trans z1) (List.mem_of_getElem? hb)) _ (Ex.refl _) _ fun H4 e4 => ⟨_, e4 _ _ z2, sz_lt (by rw [List.length_map, List.length_take]; omega), Ex.mut (z1.trans e4) hD, ?_⟩
    rw [upd_same, List.take_add_one, hb, List.map_append]
    rfl
  · obtain ⟨z1, z2⟩ := z
    rw [natsV_len, List.take_length] at z2
    exact q D H2 (fresh_back e1 hD) (e1.trans z1) z2
theorem q_asgLs {i : Nat} {D : Ends} {tz : TS} {R : List V → Hp → Prop} (h : ∀ H1, Ex H H1 → ∀ Q : VK, (∀ q us H2, H1 q = none → Ex H1 H2 → H2 q = some (.lst us) → R us H2 → Q (.ref q) H2) → te σ H1 Q) (k : ∀ q us H2, H q = none → Ex H H2 → H2 q = some (.lst us) → R us H2 → tz D (σ.set i (some (.ref q))) H2) : tSeq (tAsg te (gName i)) tz D σ H := h H (Ex.refl H) _ k
end
section
variable {H : Hp} {σ : L2.St} {te : TE} {ta : TA} {D : Ends} {tz : TS} {g : TG}
theorem c_cons {Q : List V → Hp → Prop} (h : te σ H fun x H1 => ta σ H1 fun xs H2 => Q (x :: xs) H2) : tCons te ta σ H Q := h
theorem c_call {sp : Sp} {dvs : List V} {E : XK} {Q : VK} (h : ta σ H fun vs H1 => sp (vs ++ dvs) H1 Q E) : tCall sp dvs E ta σ H Q := h
theorem c_lst {Q : VK} (h : ta σ H fun xs H1 => xs.length ≤ sizeLine ∧ ∀ p, H1 p = none → Q (.ref p) (upd H1 p (.lst xs))) : tLst ta σ H Q := h
theorem q_asg0 (h : te σ H fun x H1 => g x σ H1 (tz D)) : tSeq (tAsg te g) tz D σ H := h
end
end HH
set_option maxHeartbeats 4000000
namespace HH
open PySem PySem.Spec PyProof.Rows L2 Evl RZ
theorem mem_spr {ls : List Lot} {l : Lot} (h : l ∈ ls) (hm : 1 ≤ l.2.2) : (l.1, l.2.1) ∈ sprR ls := List.mem_flatMap.mpr ⟨l, h, List.mem_replicate.mpr ⟨by omega, rfl⟩⟩
theorem many_le : ∀ {ls : List Lot} {l : Lot}, l ∈ ls → l.2.2.toNat ≤ (sprR ls).length
  | x :: ls, l, h => by
    unfold sprR
    rw [List.flatMap_cons, List.length_append, List.length_replicate]
    rcases List.mem_cons.mp h with rfl | h
    · omega
    · have := many_le h
      unfold sprR at this
      omega
theorem fit_spr {ls : List Lot} (pos : PosL ls) (hl : ls.length ≤ 100) (ht : ∀ b ∈ sprR ls, 0 ≤ b.2 ∧ b.2 < 1152921504606846976) (hn : (sprR ls).length ≤ 1000) : Fit ls := ⟨hl, fun l h => by
  have h1 := pos l h
  have h2 := ht _ (mem_spr h h1)
  have h3 := many_le h
  exact ⟨h2.1, h2.2, by omega, by omega⟩⟩
theorem tag0_fst (rs : HH.Row) : (tag 0 rs).map (·.1) = List.range rs.length := by
  rw [tag_fst]
  have e : (fun x => 0 + x) = (id : Nat → Nat) := by
    funext x
    exact Nat.zero_add x
  rw [e, List.map_id]
theorem ids_low {rs : HH.Row} {E : List Cow} (s : Steps (tag 0 rs) E) : (∀ x ∈ E.map (·.1), x < rs.length) ∧ E.length = rs.length := by
  have h := s.ids
  rw [tag0_fst] at h
  refine ⟨fun x hx => List.mem_range.mp (h.mem_iff.mp hx), ?_⟩
  have := h.length_eq
  rw [List.length_map, List.length_range] at this
  exact this
theorem pairs_inv {n : Nat} {l : List Nat} {ps : HH.Row} (t : Told n l ps) (hl : ∀ x ∈ l, x < n) : ps.Perm (invJ l n) := by
  refine (told_tab t hl).trans (told_tab ⟨fun p => ?_, nd_invJ⟩ hl).symm
  rw [mem_invJ]
  constructor
  · rintro ⟨i, j, h1, h2, h3, h4⟩
    exact ⟨i, j, h1, h3, h4⟩
  · rintro ⟨i, j, h1, h2, h3⟩
    exact ⟨i, j, h1, hl _ (bef_mem h3).1, h2, h3⟩
section
variable {ls : List Lot} {E : List Cow} {ps : HH.Row}
theorem often_here (fit : Fit ls) (pos : PosL ls) (r : PRun (tag 0 (sprR ls)) E ps) (n : NfR E) {who : Nat} (hw : who < (sprR ls).length) : (((ps.map (·.2)).count (who : Int) : Nat) : Int) = (endG ls ls.length).2.2.getD (ixN (ownL ls) who) 0 := by
  have t := (r.told (sprR_tl fit)).1
  have p := pairs_inv t (ids_low r.steps).1
  rw [(p.map (·.2)).count_eq, count_invJ, if_pos hw]
  exact often_is fit pos r.steps (nfr_nf n) hw
theorem often_all (fit : Fit ls) (pos : PosL ls) (r : PRun (tag 0 (sprR ls)) E ps) (n : NfR E) : (List.range (sprR ls).length).map (fun (who : Nat) => V.int (((ps.map (·.2)).count (who : Int) : Nat) : Int)) = (ownL ls).map fun o => V.int ((endG ls ls.length).2.2.getD o 0) := by
  refine List.ext_getElem (by rw [List.length_map, List.length_map, List.length_range, own_len]) fun i h1 h2 => ?_
  rw [List.getElem_map, List.getElem_map, List.getElem_range]
  rw [List.length_map, List.length_range] at h1
  obtain ⟨u, _, h3, h4, _⟩ := own_at h1
  have e : (ownL ls)[i]'(by rw [own_len]; exact h1) = u := by
    have := (List.getElem?_eq_some_iff.mp h3).2
    exact this
  rw [often_here fit pos r n h1, h4, e]
theorem pairs_len (fit : Fit ls) (pos : PosL ls) (r : PRun (tag 0 (sprR ls)) E ps) (n : NfR E) : (ps.length : Int) = passingsG ls := by
  have t := (r.told (sprR_tl fit)).1
  have p := pairs_inv t (ids_low r.steps).1
  rw [p.length_eq]
  exact all_pairs fit pos r.steps (nfr_nf n)
end
end HH
set_option maxHeartbeats 4000000
namespace K78
open PySem PySem.Spec PyProof.Rows L2 Evl HH RZ
section
variable {P : Program} {w : World} {K : PySem.W.Frag} {mg : Str → Option Value} {base : Heap}
theorem ok_law_herd {f f1 f2 f3 : Addr} {fd fd1 fd2 fd3 : FuncData} (F : FnP K "_law_herd" s_law_herd f fd) (g : mg "_law_herd" = some (.ref f)) (b : Binds K fd ["_law_box", "_law_size", "_law_most"] []) (h_law_row : Has P w K mg base 3 "_law_row" ["_law_box", "_law_most"] (spRow K) f1 fd1) (h_law_take : Has P w K mg base 1 "_law_take" ["_law_box", "_law_many"] spTake f2 fd2) (h_law_packed : Has P w K mg base 1 "_law_packed" ["_law_lots"] (spPackA K) f3 fd3) : Has P w K mg base 4 "_law_herd" ["_law_box", "_law_size", "_law_most"] (spHerdM K) f fd := by
  refine ⟨F.ok sc_law_herd (fun vs H Q E h => ?_) (fun cdv A outer s H vs Q E hr h => ?_), g, F.kp, b⟩
  · obtain ⟨p, m, M, n, rfl, _⟩ := h
    rfl
  · obtain ⟨p, m, M, n, rfl, m0, m30, M0, M1, hb, hn, q⟩ := h
    refine ⟨_, PSs.nox (pss_cons (ps_set (i := 3) sc_law_herd.nd rfl (.inl rfl) (pe_call h_law_row.G (hr.mono (by decide)) (by rfl) h_law_row.g h_law_row.kp h_law_row.b .nil pass0 (pa_cons (pv 0) (pa_cons (pv 1) pa_nil))))
      (pss_one (ps_ret (pe_call h_law_packed.G (hr.mono (by decide)) (by rfl) h_law_packed.g h_law_packed.kp h_law_packed.b .nil pass0 (pa_cons (pe_lc (own := [("_law_strength", 4), ("_law_toll", 5)]) (g := gTup K 2 (gCons (gName 4) (gCons (gName 5) gNil))) (by rfl) sc_law_herd.nd (pi_tup (pv 3)) (blkOk_by (own := [("_law_strength", 4), ("_law_toll", 5)]) (N := ["_law_box", "_law_size", "_law_most", "_law_row_here", "_law_strength", "_law_toll"]) (sc := defScope s_law_herd) (by decide +kernel)) (fun _ _ _ _ _ => (pg_tup rfl (pgs_cons (pg_name (i := 4) sc_law_herd.nd rfl (Or.inl rfl)) (pgs_cons (pg_name (i := 5) sc_law_herd.nd rfl (Or.inl rfl)) pgs_nil)))) (fun _ _ _ _ _ => pts_nil) (fun _ _ _ _ _ => (pe_tup (pa_cons (pv 4) (pa_cons (pv 5) (pa_cons (pe_op op_add pe_int (pe_call h_law_take.G (hr.mono (by decide)) (by rfl) h_law_take.g h_law_take.kp h_law_take.b .nil pass0 (pa_cons (pv 0) (pa_cons (pv 2) pa_nil)))) pa_nil)))))) pa_nil))))), ?_⟩
    refine ⟨.ref p, rfl, .int (m : Int), rfl, p, m, n, rfl, m0, m30, hb, by omega, fun v H2 rs x2 b2 hv r0 rm tm => ?_⟩
    refine g_at [some (.ref p), some (.int (m : Int)), some (.int M), some v, none, none] rfl ?_
    dsimp only
    refine ret_run (call1_run ?_)
    obtain ⟨ra, ru, rfl, sq, bs⟩ := hv
    obtain ⟨bl2, hbl2⟩ := b2.lst
    refine ⟨.ref ra, rfl, ra, rfl, ⟨ru, sq⟩, fun D hD => ?_⟩
    have nDp : D ≠ p := (b2.ne hD).symm
    refine in_it (walk_tup (xs := ru)) (fun k H3 => ExB p H2 H3 ∧ Bx H3 p (n + 100 + k) ∧ ∃ (ws : List V) (ls : List Lot), H3 D = some (.lst ws) ∧ LotsA K H3 ws ls ∧ ls.length = k ∧ (∀ l ∈ ls, Fits M l)) ⟨.of (Ex.new hD), b2.ex (Ex.new hD), [], [], upd_same, .nil, rfl, fun l hl => nomatch hl⟩ (fun k H3 _ z => z.1.t hbl2 sq) (fun k x H3 H4 hk z y => ?_) (fun H3 z => ?_)
    · obtain ⟨rfl, hx⟩ := y
      obtain ⟨z1, zb, ws, ls, z2, z3, z4, z5⟩ := z
      obtain ⟨bl3, hbl3⟩ := zb.lst
      have hk' : k < rs.length := by rw [← bs.1]; exact hk
      obtain ⟨u, hu, pp, rfl, hpp⟩ := bs.2 k rs[k] (List.getElem?_eq_getElem hk')
      rw [hx] at hu
      cases hu
      refine ⟨pp, _, rfl, z1.t hbl2 hpp, rfl, _, _, rfl, _, _, rfl, rfl, rfl, t_yes ⟨_, rfl, _, rfl, .ref p, rfl, .int M, rfl, p, M, n + 100 + k, rfl, M0, by omega, zb, by omega, fun r H4 r0 r1 x4 b4 => ⟨1, r, rfl, rfl, by show 3 ≤ sizeLine; decide, fun T hT => ?_⟩⟩⟩
      have nT := Ex.new (o := .tup [V.int rs[k].1, .int rs[k].2, .int (1 + r)]) hT
      have gD := nT _ _ (x4 _ _ nDp z2)
      obtain ⟨t1, t2, t3, t4⟩ := tm rs[k] (List.getElem_mem hk')
      refine ⟨ws, gD, sz_lt (by rw [All2.len z3]; omega), (z1.trans (x4.trans (.of nT))).mut hD, (b4.ex nT).mut nDp.symm, ws ++ [.ref T], ls ++ [(rs[k].1, rs[k].2, 1 + r)], upd_same, LotsA.exB' (All2.app (LotsA.ex' (LotsA.exB' z3 x4 hbl3) nT) (.cons ⟨T, rfl, st_of upd_same⟩ .nil)) (ExB.refl _ _).upd gD, by rw [List.length_append, z4]; rfl, fun l hl => ?_⟩
      rcases List.mem_append.mp hl with h | h
      · exact z5 l h
      · rw [List.mem_singleton.mp h]
        exact ⟨t1, t2, t3, t4, by show 1 ≤ 1 + r; omega, by show 1 + r ≤ M; omega⟩
    · obtain ⟨z1, zb, ws, ls, z2, z3, z4, z5⟩ := z
      have z4 : ls.length = rs.length := by rw [z4, bs.1]
      have pos : PosL ls := fun l hl => (z5 l hl).2.2.2.2.1
      refine ⟨D, ws, ls, rfl, .inl (sq_of z2), z3, by omega, fun z H4 e4 hz => q z H4 (packL ls) (x2.trans (z1.trans (.of e4))) ((zb.ex e4).le (by rw [bs.1]; omega)) hz (packL_ne (by omega)) (by have := packL_len ls; omega) (fun l hl => (packL_fits (by omega) z5 l hl).le ?_) ?_⟩
      · have h1 : (ls.length : Int) ≤ 30 := by omega
        have h2 : (ls.length : Int) * M ≤ 30 * 30 := Int.mul_le_mul h1 M1 (by omega) (by decide)
        rw [Int.mul_comm] at h2
        omega
      · rw [packL_spr pos]
        have h1 := spr_bound (M := M) (ls := ls) fun l hl => ⟨(z5 l hl).2.2.2.2.1, (z5 l hl).2.2.2.2.2⟩
        exact Nat.le_trans h1 (Nat.mul_le_mul_right _ (by omega))
theorem ok_law_spread {f : Addr} {fd : FuncData} (F : FnP K "_law_spread" s_law_spread f fd) (g : mg "_law_spread" = some (.ref f)) (b : Binds K fd ["_law_herd_here"] []) : Has P w K mg base 1 "_law_spread" ["_law_herd_here"] (spRowOf K) f fd := by
  refine ⟨F.ok sc_law_spread (fun vs H Q E h => ?_) (fun cdv A outer s H vs Q E hr h => ?_), g, F.kp, b⟩
  · obtain ⟨v, ls, rfl, _⟩ := h
    rfl
  · obtain ⟨v, ls, rfl, ⟨a, us, rfl, sq, la⟩, pos, hl, q⟩ := h
    refine ⟨_, PSs.nox (pss_cons (ps_set (i := 1) sc_law_spread.nd rfl (.inl rfl) (pe_tup pa_nil))
      (pss_cons (ps_for PassesOwn.never rfl (pi_tup (pv 0)) (pg_tup rfl (pgs_cons (pg_name (i := 2) sc_law_spread.nd rfl (Or.inl rfl)) (pgs_cons (pg_name (i := 3) sc_law_spread.nd rfl (Or.inl rfl)) (pgs_cons (pg_name (i := 4) sc_law_spread.nd rfl (Or.inl rfl)) pgs_nil))))
        (pss_one (ps_set (i := 1) sc_law_spread.nd rfl (.inl rfl) (pe_op op_catA (pv 1) (pe_op op_repA (pe_tup (pa_cons (pe_tup (pa_cons (pv 2) (pa_cons (pv 3) pa_nil))) pa_nil)) (pv 4))))))
      (pss_one (ps_ret (pv 1))))), ?_⟩
    refine ⟨by show 0 ≤ sizeLine; decide, fun T0 hT0 => ?_⟩
    have n1 := Ex.new (o := .tup []) hT0
    have r1 : RowAt K (upd H T0 (.tup [])) (.ref T0) [] := ⟨T0, [], rfl, st_of upd_same, Beasts.nil⟩
    generalize upd H T0 (.tup []) = H1 at n1 r1 ⊢
    refine g_at [some (.ref a), some (.ref T0), none, none, none] rfl ?_
    dsimp only
    refine ⟨.ref a, rfl, a, rfl, ⟨_, ex_t n1 sq⟩, ?_⟩
    refine for_tup (K := K) (xs := us) (fun k σ' H' => ∃ (y2 y3 y4 : Option V) (vf : V), σ' = [some (.ref a), some vf, y2, y3, y4] ∧ Ex H H' ∧ RowAt K H' vf (sprR (ls.take k))) ⟨_, _, _, _, rfl, n1, r1⟩ (fun k σ' H' _ hW => ?_) (fun k x σ' H2 hx hW => ?_) (fun σ' H2 hW => ?_)
    · obtain ⟨y2, y3, y4, vf, rfl, c1, c2⟩ := hW
      exact ex_t c1 sq
    · obtain ⟨y2, y3, y4, vf, rfl, e2, r2⟩ := hW
      obtain ⟨⟨st, tl, mn⟩, hlk, p, rfl, sqp⟩ := All2.get la hx
      have hm : 1 ≤ mn := pos _ (List.mem_of_getElem? hlk)
      obtain ⟨m, rfl⟩ := Int.eq_ofNat_of_zero_le (show 0 ≤ mn by omega)
      have hle := spr_le ls (k + 1)
      rw [spr_take hlk, List.length_append, List.length_replicate] at hle
      have hle : (sprR (ls.take k)).length + m ≤ (sprR ls).length := hle
      refine ⟨p, _, rfl, ex_t e2 sqp, rfl, _, _, rfl, _, _, rfl, _, _, rfl, rfl, ?_⟩
      refine ⟨vf, rfl, .int st, rfl, .int tl, rfl, by show 2 ≤ sizeLine; decide, fun T hT => ⟨by show 1 ≤ sizeLine; decide, fun T2 hT2 => ⟨.int (m : Int), rfl, ?_⟩⟩⟩
      have nT := Ex.new (o := .tup [V.int st, .int tl]) hT
      have nT2 := Ex.new (o := .tup [V.ref T]) hT2
      have hb : RowAt K (upd (upd H2 T (.tup [V.int st, .int tl])) T2 (.tup [V.ref T])) (.ref T2) [(st, tl)] := ⟨T2, [.ref T], rfl, st_of upd_same, Beasts.one ⟨T, rfl, st_of (nT2 _ _ upd_same)⟩⟩
      have e24 := nT.trans nT2
      generalize upd (upd H2 T (.tup [V.int st, .int tl])) T2 (.tup [V.ref T]) = H4 at hb e24 nT2 ⊢
      refine rep_row (K := K) hb (by omega) (by omega) fun z H5 e5 hz => ?_
      refine cat_rows (K := K) (r2.ex (e24.trans e5)) hz (by rw [List.length_replicate]; omega) fun z2 H6 e6 hz2 => ?_
      refine ⟨_, _, _, z2, rfl, ((e2.trans e24).trans e5).trans e6, ?_⟩
      rw [spr_take hlk]
      exact hz2
    · obtain ⟨y2, y3, y4, vf, rfl, e2, r2⟩ := hW
      rw [All2.len la, List.take_length] at r2
      exact ⟨vf, rfl, q vf H2 e2 r2⟩
theorem ok_law_packed {f : Addr} {fd : FuncData} (F : FnP K "_law_packed" s_law_packed f fd) (g : mg "_law_packed" = some (.ref f)) (b : Binds K fd ["_law_lots"] []) (m_tuple : mg "tuple" = none) : Has P w K mg base 1 "_law_packed" ["_law_lots"] (spPackA K) f fd := by
  refine ⟨F.ok sc_law_packed (fun vs H Q E h => ?_) (fun cdv A outer s H vs Q E hr h => ?_), g, F.kp, b⟩
  · obtain ⟨a, us, ls, rfl, _⟩ := h
    rfl
  · obtain ⟨a, us, ls, rfl, sq, la, hl, q⟩ := h
    have hu : (A.deeper (envOfC "_law_packed" (defScope s_law_packed) s.heap.objs.size f cdv)).units + 64 < cLine := by
      have := hr.un
      omega
    refine ⟨_, PSs.nox (pss_cons (ps_set (i := 1) sc_law_packed.nd rfl (.inl rfl) (pe_lst pa_nil))
      (pss_cons (ps_for PassesOwn.never rfl (pi_seqA (pv 0)) (pg_tup rfl (pgs_cons (pg_name (i := 2) sc_law_packed.nd rfl (Or.inl rfl)) (pgs_cons (pg_name (i := 3) sc_law_packed.nd rfl (Or.inl rfl)) (pgs_cons (pg_name (i := 4) sc_law_packed.nd rfl (Or.inl rfl)) pgs_nil))))
        (Evl.pss_cut (ps_if (PW.pt (pw_and (pt_cmpR (op_neD hr.units) (pv 1) (pe_lst pa_nil) (nomark _)) (pw_and1 (pt_cmpR (op_eqD hu) (pe_slice sl_tupA (pe_ix ix_list (pv 1) (pe_un un_neg pe_int) (fun _ _ => rfl)) po_none (po_some pe_int)) (pe_tup (pa_cons (pv 2) (pa_cons (pv 3) pa_nil))) (nomark _))))) (pss_one (ps_set (i := 4) sc_law_packed.nd rfl (.inl rfl) (pe_op op_add (pv 4) (pe_ix ix_tup (pe_bm0 PySem.F.plainAttrs_list PySem.F.slot_list_pop PySem.F.type_list_pop mt_pop (pv 1)) pe_int (fun _ _ => rfl))))) pss_nil)
      (pss_one (ps_expr (pe_bm PySem.F.plainAttrs_list PySem.F.slot_list_append PySem.F.type_list_append mt_append (pv 1) (pa_cons (pe_tup (pa_cons (pv 2) (pa_cons (pv 3) (pa_cons (pv 4) pa_nil)))) pa_nil))))))
      (pss_one (ps_ret (pe_tupleOf (by rfl) m_tuple (pv 1)))))), ?_⟩
    refine q_asgL (el_lst ea_nil (by decide)) fun hd H1 hhd e1 g1 => ?_
    refine q_forSA (K := K) (xs := us) (ev_var (i := 0) rfl) e1 sq (fun k σ' H' => ∃ (y2 y3 y4 : Option V) (ws : List V), σ' = [some (.ref a), some (.ref hd), y2, y3, y4] ∧ Ex H H' ∧ H' hd = some (.lst ws) ∧ LotsA K H' ws (packL (ls.take k))) (fun H2 e2 => ⟨_, _, _, [], rfl, e1.trans e2, e2 _ _ g1, .nil⟩) (fun k σ' H' _ hW => ?_) (fun k x σ' H2 hx hW => ?_) (fun σ' H2 hW => ?_)
    · obtain ⟨y2, y3, y4, ws, rfl, c1, c2, c3⟩ := hW
      exact c1
    · obtain ⟨y2, y3, y4, ws, rfl, e2, g2, l2⟩ := hW
      obtain ⟨⟨st, tl, mn⟩, hlk, p, rfl, sqp⟩ := All2.get la hx
      refine ⟨p, _, rfl, ex_t e2 sqp, rfl, _, _, rfl, _, _, rfl, _, _, rfl, rfl, ?_⟩
      have lenp := packL_len (ls.take k)
      rw [List.length_take] at lenp
      rw [packL_take hlk] at *
      generalize packL (ls.take k) = acc at l2 lenp
      have wl : ws.length ≤ 1000 := by rw [All2.len l2]; omega
      dsimp only
      have tst : EvT (tAnd (tTest (tOp (rNeD K) (tVar 1) (tLst tNil))) (tTest (tOp (rEqD K) (tSl (rSlA K) (tOp (rIxL K) (tVar 1) (tUn (rU fun i => .int (-i)) (tC (.int 1)))) tNoPart (tPart (tC (.int 2)))) (tTup (tCons (tVar 2) (tCons (tVar 3) tNil)))))) [some (V.ref a), some (.ref hd), some (.int st), some (.int tl), some (.int mn)] H2 (alikeB acc st tl) := by
        have nl : ∀ d ∈ acc.map (fun l => PyData.tuple [.int l.1, .int l.2.1, .int l.2.2]), Nice 1 d := fun d hd => by
          obtain ⟨l, _, rfl⟩ := List.mem_map.mp hd
          exact nice_tuple (nice_ints [l.1, l.2.1, l.2.2])
        have t1 := et_neNil (K := K) (te := tVar 1) (σ := [some (V.ref a), some (.ref hd), some (.int st), some (.int tl), some (.int mn)]) (ev_var rfl) (sq_of g2) (dp_lots l2) nl (by decide)
        rcases List.eq_nil_or_concat acc with z | ⟨pre, l, z⟩
        · subst z
          cases l2
          exact et_and (a := false) (b := false) t1 fun z => by cases z
        · rw [List.concat_eq_append] at z
          subst z
          have ne : (!ws.isEmpty) = true := by
            have : ws.length = pre.length + 1 := by rw [All2.len l2, List.length_append]; rfl
            cases ws with
            | nil => cases this
            | cons _ _ => rfl
          rw [ne] at t1
          rw [alike_snoc]
          exact et_and (a := true) (b := decide (l.1 = st ∧ l.2.1 = tl)) t1 fun _ => et_test (ev_last2 (K := K) (ih := 1) (is := 2) (it := 3) rfl rfl rfl g2 l2)
      refine q_cut (M := fun σ' H' => ∃ (ws' : List V), σ' = [some (.ref a), some (.ref hd), some (.int st), some (.int tl), some (.int (befL acc st tl + mn))] ∧ Ex H H' ∧ H' hd = some (.lst ws') ∧ LotsA K H' ws' (popL acc st tl)) ?_ (fun σ' H4 hM => ?_)
      · refine tst H2 (Ex.refl H2) _ fun H3 e3 => ?_
        have g3 := e3 _ _ g2
        have l3 := l2.ex' e3
        have e03 := e2.trans e3
        refine ite2 (fun hc => ?_) (fun hc => ?_)
        · obtain ⟨pre, m, rfl⟩ := alike_ex hc
          obtain ⟨w1, w2, rfl, h1, h2⟩ := All2.split l3
          cases h2 with
          | cons ry nl =>
            cases nl
            obtain ⟨yp, rfl, sqy⟩ := ry
            refine ⟨.int mn, rfl, .ref hd, rfl, .inl ⟨rfl, _, sq_of g3⟩, hd, _, .ref yp, rfl, rfl, g3, by rw [List.length_append]; show (w1 ++ _)[w1.length + 1 - 1]? = _; rw [Nat.add_sub_cancel, List.getElem?_append_right (Nat.le_refl _), Nat.sub_self]; rfl, ?_⟩
            rw [show (w1 ++ [V.ref yp]).dropLast = w1 from List.dropLast_concat ..]
            have x4 : ExB hd H3 (upd H3 hd (.lst w1)) := (ExB.refl _ _).upd
            refine ⟨yp, _, 2, .int m, rfl, rfl, x4.t g3 sqy, rfl, _, _, rfl, rfl, w1, ?_, Ex.mut e03 hhd, upd_same, ?_⟩
            · unfold befL
              rw [if_pos hc, List.getLast?_concat]
              show _ = [_, _, _, _, some (V.int (m + mn))]
              rw [Int.add_comm m mn]
              rfl
            · unfold popL
              rw [if_pos hc, List.dropLast_concat]
              exact LotsA.exB' h1 x4 g3
        · refine ⟨ws, ?_, e03, g3, ?_⟩
          · unfold befL
            rw [if_neg hc, Int.zero_add]
            rfl
          · unfold popL
            rw [if_neg hc]
            exact l3
      obtain ⟨ws', rfl, e4, g4, l4⟩ := hM
      have pl : (popL acc st tl).length ≤ acc.length := by
        unfold popL
        split
        · rw [List.length_dropLast]; omega
        · exact Nat.le_refl _
      refine s_appU g4 (ev_var rfl) (eu_tup (ea_cons (ev_var rfl) (ea_cons (ev_var rfl) (ea_cons (ev_var rfl) ea_nil))) (by show 3 ≤ 100000; decide)) (by rw [All2.len l4]; omega) fun T H5 hT e5 h5 => ?_
      have g5 := e5 _ _ g4
      have x6 : ExB hd H5 (upd H5 hd (.lst (ws' ++ [.ref T]))) := (ExB.refl _ _).upd
      refine ⟨_, _, _, ws' ++ [.ref T], rfl, Ex.mut (e4.trans e5) hhd, upd_same, ?_⟩
      exact LotsA.exB' (All2.app (l4.ex' e5) (.cons ⟨T, rfl, st_of h5⟩ .nil)) x6 g5
    · obtain ⟨y2, y3, y4, ws, rfl, e2, g2, l2⟩ := hW
      rw [All2.len la, List.take_length] at l2
      refine ⟨.ref hd, rfl, .inl ⟨hd, _, rfl, sq_of g2, fun rt hrt => q (.ref rt) _ (e2.trans (Ex.new hrt)) ⟨rt, ws, rfl, st_of upd_same, l2.ex' (Ex.new hrt)⟩⟩⟩
end
end K78
set_option maxHeartbeats 4000000
namespace K78
open PySem PySem.Spec PyProof.Rows L2 Evl HH RZ
section
variable {P : Program} {w : World} {K : PySem.W.Frag} {mg : Str → Option Value} {base : Heap}
theorem ok_law_owners {f : Addr} {fd : FuncData} (F : FnP K "_law_owners" s_law_owners f fd) (g : mg "_law_owners" = some (.ref f)) (b : Binds K fd ["_law_herd_here"] []) (m_enumerate : mg "enumerate" = none) : Has P w K mg base 1 "_law_owners" ["_law_herd_here"] (spOwners K) f fd := by
  refine ⟨F.ok sc_law_owners (fun vs H Q E h => ?_) (fun cdv A outer s H vs Q E hr h => ?_), g, F.kp, b⟩
  · obtain ⟨v, ls, rfl, _⟩ := h
    rfl
  · obtain ⟨v, ls, rfl, hv, pos, hl, q⟩ := h
    have hu : (A.deeper (envOfC "_law_owners" (defScope s_law_owners) s.heap.objs.size f cdv)).units + 64 < cLine := by
      have := hr.un
      omega
    refine ⟨_, PSs.nox (pss_cons (ps_set (i := 1) sc_law_owners.nd rfl (.inl rfl) (pe_lst pa_nil))
      (pss_cons (ps_for PassesOwn.never rfl (pi_enumT (by rfl) m_enumerate (pa_cons (pv 0) pa_nil)) (pg_tup rfl (pgs_cons (pg_name (i := 2) sc_law_owners.nd rfl (Or.inl rfl)) (pgs_cons (pg_name (i := 3) sc_law_owners.nd rfl (Or.inl rfl)) pgs_nil)))
        (pss_one (ps_set (i := 1) sc_law_owners.nd rfl (.inl rfl) (pe_op op_cat (pv 1) (pe_op op_rep (pe_lst (pa_cons (pv 2) pa_nil)) (pe_ix ix_tup (pv 3) pe_int (fun _ _ => rfl)))))))
      (pss_one (ps_ret (pv 1))))), ?_⟩
    obtain ⟨a, us, rfl, sq, la⟩ := hv
    refine q_asgL (el_lst ea_nil (by decide)) fun hd H1 hhd e1 g1 => ?_
    refine q_forEvT (K := K) (xs := us) (ev_var rfl) (ex_t e1 sq) (fun k σ' H' => ∃ (f : Addr) (y2 y3 : Option V), σ' = [some (.ref a), some (.ref f), y2, y3] ∧ Ex H H' ∧ H f = none ∧ H' f = some (.lst (natsV ((sprC ls k).map (·.1))))) (fun H2 e2 => ⟨hd, _, _, rfl, e1.trans e2, hhd, e2 _ _ g1⟩) (fun k σ' H' _ hW => ?_) (fun k x σ' H' T hx hW hT => ?_) (fun σ' H' hW => ?_)
    · obtain ⟨f, y2, y3, rfl, e2, nf, g2⟩ := hW
      exact ex_t e2 sq
    · obtain ⟨f, y2, y3, rfl, e2, nf, g2⟩ := hW
      obtain ⟨⟨st, tl, mn⟩, hlk, p, rfl, sqp⟩ := All2.get la hx
      have hm : 1 ≤ mn := pos _ (List.mem_of_getElem? hlk)
      have hk := (List.getElem?_eq_some_iff.mp hlk).1
      have nT := Ex.new (o := .tup [V.int (k : Nat), .ref p]) hT
      have c1 := sprC_le (ls := ls) (k := k + 1) (by omega)
      have c2 := own_succ hlk
      have c3 := congrArg List.length c2
      rw [natsV_len, List.length_map, List.length_append, natsV_len, List.length_map, List.length_replicate] at c3
      refine ⟨T, _, rfl, st_of upd_same, rfl, _, _, rfl, _, _, rfl, rfl, ?_⟩
      refine s_at [some (.ref a), some (.ref f), some (.int (k : Nat)), some (.ref p)] rfl ?_
      have c3 : (sprC ls (k + 1)).length = (sprC ls k).length + mn.toNat := c3
      refine s_asgL (el_catV (ev_var rfl) (nT _ _ g2) (el_repI (n := mn) (ev_var rfl) (ev_op (ev_var rfl) ev_c (rv_ixT (ex_t (e2.trans nT) sqp) rfl)) (by omega) (by omega)) (by rw [natsV_len, List.length_map, List.length_replicate]; omega)) fun q2 H3 hq2 e3 g3 => ?_
      refine ⟨q2, _, _, rfl, (e2.trans nT).trans e3, fresh_back (e2.trans nT) hq2, ?_⟩
      rw [g3, c2]
    · obtain ⟨f, y2, y3, rfl, e2, nf, g2⟩ := hW
      rw [All2.len la] at g2
      exact ⟨.ref f, rfl, q f H' nf e2 g2⟩
theorem ok_law_led {f : Addr} {fd : FuncData} (F : FnP K "_law_led" s_law_led f fd) (g : mg "_law_led" = some (.ref f)) (b : Binds K fd ["_law_row_here", "_law_sign"] []) (m_list : mg "list" = none) (m_range : mg "range" = none) (m_len : mg "len" = none) (m_tuple : mg "tuple" = none) : Has P w K mg base 1 "_law_led" ["_law_row_here", "_law_sign"] (spLedL K) f fd := by
  refine ⟨F.ok sc_law_led (fun vs H Q E h => ?_) (fun cdv A outer s H vs Q E hr h => ?_), g, F.kp, b⟩
  · obtain ⟨v, rs, sg, rfl, _⟩ := h
    rfl
  · obtain ⟨v, rs, sg, rfl, hv, hl, tl, q⟩ := h
    have hu : (A.deeper (envOfC "_law_led" (defScope s_law_led) s.heap.objs.size f cdv)).units + 64 < cLine := by
      have := hr.un
      omega
    refine ⟨_, PSs.nox (pss_cons (ps_par3 (i := 2) (j := 3) (l := 4) (by rfl) sc_law_led.nd rfl rfl rfl (by decide) (by decide) (by decide) rfl rfl rfl (pa_cons (pe_lst pa_nil) (pa_cons (pe_lst pa_nil) (pa_cons (pe_lst pa_nil) pa_nil))) (by rfl))
      (pss_cons (ps_for PassesOwn.never rfl (pi_list (pe_slS (pe_listRg rfl (by rfl) m_list (prg_1 (by rfl) m_range (pe_callB call_len_seq (by rfl) m_len PySem.boot_len (pa_cons (pv 0) pa_nil)))) (po_some (pv 1)))) (pg_name (i := 5) sc_law_led.nd rfl (Or.inl rfl))
        (pss_cons (ps_asg (pe_ix ix_tup (pv 0) (pv 5) (fun _ _ => rfl)) (pg_tup rfl (pgs_cons (pg_name (i := 6) sc_law_led.nd rfl (Or.inl rfl)) (pgs_cons (pg_name (i := 7) sc_law_led.nd rfl (Or.inl rfl)) pgs_nil))))
      (pss_cons (ps_set (i := 8) sc_law_led.nd rfl (.inl rfl) (pe_ifExp (pt_cmpR op_gt (pv 1) pe_int (nomark _)) (pe_callB call_len_seq (by rfl) m_len PySem.boot_len (pa_cons (pv 2) pa_nil)) pe_int))
      (pss_cons (ps_if (pt_cmpR op_gt (pv 1) pe_int (nomark _)) (pss_one (ps_while PassesOwn.never (PW.pt (pw_and (pt_cmpR op_gt (pv 8) pe_int (nomark _)) (pw_and1 (pt_cmpR op_gt (pe_op op_sub (pv 6) (pe_ix ix_tup (pe_ix ix_list (pv 2) (pe_op op_sub (pv 8) pe_int) (fun _ _ => rfl)) pe_int (fun _ _ => rfl))) (pe_ix ix_tup (pe_ix ix_list (pv 2) (pe_op op_sub (pv 8) pe_int) (fun _ _ => rfl)) pe_int (fun _ _ => rfl)) (nomark _))))) (pss_cons (ps_par (i := 8) (j := 6) (by rfl) sc_law_led.nd rfl rfl (by decide) rfl rfl (pa_cons (pe_op op_sub (pv 8) pe_int) (pa_cons (pe_op op_sub (pv 6) (pe_ix ix_tup (pe_ix ix_list (pv 2) (pe_op op_sub (pv 8) pe_int) (fun _ _ => rfl)) pe_int (fun _ _ => rfl))) pa_nil)) (by rfl))
      (pss_one (ps_expr (pe_bm PySem.F.plainAttrs_list PySem.F.slot_list_append PySem.F.type_list_append mt_append (pv 4) (pa_cons (pe_tup (pa_cons (pe_ix ix_list (pv 3) (pv 8) (fun _ _ => rfl)) (pa_cons (pv 5) pa_nil))) pa_nil))))))) (pss_one (ps_while PassesOwn.never (PW.pt (pw_and (pt_cmpR op_lt (pv 8) (pe_callB call_len_seq (by rfl) m_len PySem.boot_len (pa_cons (pv 2) pa_nil)) (nomark _)) (pw_and1 (pt_cmpR op_gt (pv 6) (pe_ix ix_tup (pe_ix ix_list (pv 2) (pv 8) (fun _ _ => rfl)) pe_int (fun _ _ => rfl)) (nomark _))))) (pss_cons (ps_set (i := 6) sc_law_led.nd rfl (.inl rfl) (pe_op op_add (pv 6) (pe_ix ix_tup (pe_ix ix_list (pv 2) (pv 8) (fun _ _ => rfl)) pe_int (fun _ _ => rfl))))
      (pss_cons (ps_expr (pe_bm PySem.F.plainAttrs_list PySem.F.slot_list_append PySem.F.type_list_append mt_append (pv 4) (pa_cons (pe_tup (pa_cons (pv 5) (pa_cons (pe_ix ix_list (pv 3) (pv 8) (fun _ _ => rfl)) pa_nil))) pa_nil)))
      (pss_one (ps_set (i := 8) sc_law_led.nd rfl (.inl rfl) (pe_op op_add (pv 8) pe_int))))))))
      (pss_cons (ps_expr (pe_bm PySem.F.plainAttrs_list PySem.F.slot_list_insert PySem.F.type_list_insert mt_insert (pv 2) (pa_cons (pv 8) (pa_cons (pe_tup (pa_cons (pv 6) (pa_cons (pv 7) pa_nil))) pa_nil))))
      (pss_one (ps_expr (pe_bm PySem.F.plainAttrs_list PySem.F.slot_list_insert PySem.F.type_list_insert mt_insert (pv 3) (pa_cons (pv 8) (pa_cons (pv 5) pa_nil))))))))))
      (pss_one (ps_ret (pe_tup (pa_cons (pe_tupleOf (by rfl) m_tuple (pv 2)) (pa_cons (pv 3) (pa_cons (pv 4) pa_nil)))))))), ?_⟩
    obtain ⟨ra, ru, rfl, ha, bs⟩ := hv
    have hru : ru.length = rs.length := bs.1
    refine q_par3S ⟨by show 0 ≤ sizeLine; decide, fun l hl0 => ⟨by show 0 ≤ sizeLine; decide, fun o ho0 => ⟨by show 0 ≤ sizeLine; decide, fun p hp0 => ⟨_, _, _, rfl, ?_⟩⟩⟩⟩
    refine s_at [some (.ref ra), some (.int (if sg then 1 else -1)), some (.ref l), some (.ref o), some (.ref p), none, none, none, none] rfl ?_
    have n1 := Ex.new (o := .lst []) hl0
    have n2 := Ex.new (o := .lst []) ho0
    have n3 := Ex.new (o := .lst []) hp0
    have gl : (upd (upd (upd H l (.lst [])) o (.lst [])) p (.lst [])) l = some (.lst []) := n3 _ _ (n2 _ _ upd_same)
    have go : (upd (upd (upd H l (.lst [])) o (.lst [])) p (.lst [])) o = some (.lst []) := n3 _ _ upd_same
    have gp : (upd (upd (upd H l (.lst [])) o (.lst [])) p (.lst [])) p = some (.lst []) := upd_same
    have nlo : l ≠ o := fun z => by rw [← z, upd_same] at ho0; cases ho0
    have nlp : l ≠ p := fun z => by rw [← z, n2 _ _ upd_same] at hp0; cases hp0
    have nop : o ≠ p := fun z => by rw [← z, upd_same] at hp0; cases hp0
    have oH : H o = none := fresh_back n1 ho0
    have pH : H p = none := fresh_back (n1.trans n2) hp0
    have e1 := (n1.trans n2).trans n3
    generalize upd (upd (upd H l (.lst [])) o (.lst [])) p (.lst []) = H1 at gl go gp e1
    refine q_forNL (K := K) (xs := if sg then rgV 0 (rs.length : Int) else (rgV 0 (rs.length : Int)).reverse) (el_slS (K := K) (el_listRg (ev_is (ev_lenT (ev_var rfl) (ex_t e1 ha)) (by rw [hru])) (by omega)) (fun _ _ => ev_var rfl)) (fun c i σ' H' => ∃ (E : List Cow) (ps : HH.Row) (us pu : List V) (y5 y6 y7 y8 : Option V), σ' = [some (.ref ra), some (.int (if sg then 1 else -1)), some (.ref l), some (.ref o), some (.ref p), y5, y6, y7, y8] ∧ H' l = some (.lst us) ∧ BeastsT H' us (rowsOf E) ∧ H' o = some (.lst (idsV E)) ∧ H' p = some (.lst pu) ∧ BeastsT H' pu ps ∧ E.length = i ∧ ps.length ≤ 100 * i ∧ LedOk sg (if sg then tag 0 (rs.take i) else tag (rs.length - i) (rs.drop (rs.length - i))) E ps ∧ Ex H H' ∧ c ≠ l ∧ c ≠ o ∧ c ≠ p ∧ H' c = some (.lst (if sg then rgV 0 (rs.length : Int) else (rgV 0 (rs.length : Int)).reverse))) (fun c H2 hc e2 g2 => ?_) (fun c i σ' H' _ hW => ?_) (fun c i x σ' H' hx hW => ?_) (fun c σ' H' hW => ?_)
    · refine ⟨[], [], [], [], _, _, _, _, rfl, e2 _ _ gl, .nil, e2 _ _ go, e2 _ _ gp, .nil, rfl, Nat.le_refl _, ?_, e1.trans e2, (ne_of_none gl hc).symm, (ne_of_none go hc).symm, (ne_of_none gp hc).symm, g2⟩
      cases sg with
      | true => exact ⟨.nil, trivial⟩
      | false =>
        have : tag (rs.length - 0) (rs.drop (rs.length - 0)) = [] := by
          rw [List.drop_of_length_le (by omega)]
          rfl
        exact ⟨by rw [if_neg (by decide), this]; exact .refl _, trivial⟩
    · obtain ⟨E, ps, us, pu, y5, y6, y7, y8, rfl, w1, w2, w3, w4, w5, w6, w7, w8, w9, c1, c2, c3, w10⟩ := hW
      exact sq_of w10
    · obtain ⟨E, ps, us, pu, y5, y6, y7, y8, rfl, w1, w2, w3, w4, w5, w6, w7, w8, w9, c1, c2, c3, w10⟩ := hW
      have hEi : E.length ≤ 200 ∧ i < rs.length := by
        have := (List.getElem?_eq_some_iff.mp hx).1
        cases sg with
        | true =>
          have := (rgV_at hx).2
          omega
        | false =>
          have := (rgR_at hx).2
          omega
      cases sg with
      | true =>
        obtain ⟨rfl, hi⟩ := rgV_at hx
        obtain ⟨u, hu, pp, rfl, hpp⟩ := bs.2 i rs[i] (List.getElem?_eq_getElem hi)
        have hci : rs[i]? = some rs[i] := List.getElem?_eq_getElem hi
        have tlb : 0 ≤ rs[i].2 := tl _ (List.getElem_mem hi)
        have run0 : PRun (tag 0 (rs.take (i + 1))) (E ++ [(i, rs[i])]) ps := by
          rw [tag_take hci]
          exact w8.1.appR _
        have nfE : NfR E := w8.2
        have out : ∀ (E' : List Cow) (ps' : HH.Row) (us' pu' : List V) (y5 y6 y7 y8 : Option V) (H2 : Hp), Ex3 l o p H' H2 → H2 l = some (.lst us') → BeastsT H2 us' (rowsOf E') → H2 o = some (.lst (idsV E')) → H2 p = some (.lst pu') → BeastsT H2 pu' ps' → E'.length = i + 1 → ps'.length ≤ 100 * (i + 1) → PRun (tag 0 (rs.take (i + 1))) E' ps' → NfR E' → ∃ (E : List Cow) (ps : HH.Row) (us pu : List V) (z5 z6 z7 z8 : Option V), [some (V.ref ra), some (.int 1), some (.ref l), some (.ref o), some (.ref p), y5, y6, y7, y8] = [some (.ref ra), some (.int (if true then 1 else -1)), some (.ref l), some (.ref o), some (.ref p), z5, z6, z7, z8] ∧ H2 l = some (.lst us) ∧ BeastsT H2 us (rowsOf E) ∧ H2 o = some (.lst (idsV E)) ∧ H2 p = some (.lst pu) ∧ BeastsT H2 pu ps ∧ E.length = i + 1 ∧ ps.length ≤ 100 * (i + 1) ∧ LedOk true (if true then tag 0 (rs.take (i + 1)) else tag (rs.length - (i + 1)) (rs.drop (rs.length - (i + 1)))) E ps ∧ Ex H H2 ∧ c ≠ l ∧ c ≠ o ∧ c ≠ p ∧ H2 c = some (.lst (if true then rgV 0 (rs.length : Int) else (rgV 0 (rs.length : Int)).reverse)) :=
          fun E' ps' us' pu' y5 y6 y7 y8 H2 x3 k1 k2 k3 k4 k5 k6 k7 k8 k9 => ⟨E', ps', us', pu', _, _, _, _, rfl, k1, k2, k3, k4, k5, k6, k7, ⟨k8, k9⟩, ex_ex3 w9 x3 hl0 oH pH, c1, c2, c3, x3 _ _ c1 c2 c3 w10⟩
        refine g_at [some (.ref ra), some (.int 1), some (.ref l), some (.ref o), some (.ref p), some (.int (i : Int)), y6, y7, y8] rfl ?_
        dsimp only
        refine q_asgT2 (K := K) (p := pp) (x := .int rs[i].1) (y := .int rs[i].2) (ev_op (ev_var rfl) (ev_var rfl) (rv_ixT (ex_t w9 ha) (atI_nat hu))) (ex_t w9 hpp) fun H2 e2 => ?_
        refine s_at [some (.ref ra), some (.int 1), some (.ref l), some (.ref o), some (.ref p), some (.int (i : Int)), some (.int rs[i].1), some (.int rs[i].2), y8] rfl ?_
        refine q_asg (v := .int (E.length : Int)) (ev_if (b := true) (et_is (et_test (ev_op (ev_var rfl) ev_c rv_I0)) rfl) (fun _ => ev_is (ev_len (K := K) (ev_var rfl) (sq_of (e2 _ _ w1))) (by rw [w2.len]; unfold rowsOf; rw [List.length_map])) fun z => by cases z) fun H3 e3 => ?_
        refine s_at [some (.ref ra), some (.int 1), some (.ref l), some (.ref o), some (.ref p), some (.int (i : Int)), some (.int rs[i].1), some (.int rs[i].2), some (.int (E.length : Int))] rfl ?_
        have e23 := e2.trans e3
        refine q_if (b := true) (et_is (et_test (ev_op (ev_var rfl) ev_c rv_I0)) rfl) (fun _ H4 e4 => ?_) (fun z => by cases z)
        have e24 := e23.trans e4
        refine s_while (fun m σ' H8 => ∃ (A B : List Cow) (s : Int) (ps : HH.Row) (pu : List V), m = A.length ∧ σ' = [some (.ref ra), some (.int 1), some (.ref l), some (.ref o), some (.ref p), some (.int (i : Int)), some (.int s), some (.int rs[i].2), some (.int (A.length : Int))] ∧ E = A ++ B ∧ H8 l = some (.lst us) ∧ BeastsT H8 us (rowsOf E) ∧ H8 o = some (.lst (idsV E)) ∧ H8 p = some (.lst pu) ∧ BeastsT H8 pu ps ∧ ps.length + A.length ≤ 100 * i + E.length ∧ PRun (tag 0 (rs.take (i + 1))) (A ++ (i, (s, rs[i].2)) :: B) ps ∧ (∀ b r, B = b :: r → b.2.1 < s) ∧ Ex3 l o p H' H8) E.length ⟨E, [], rs[i].1, ps, pu, rfl, rfl, by rw [List.append_nil], e24 _ _ w1, w2.ex' e24, e24 _ _ w3, e24 _ _ w4, w5.ex' e24, by omega, run0, (fun b r z => by cases z), .of e24⟩ (fun m σ' H8 hW => ?_)
        obtain ⟨A, B, s, ps, pu, rfl, rfl, hE, k1, k2, k3, k4, k5, k6, k7, k8, k9⟩ := hW
        have nfin : (∀ x, A.getLast? = some x → ¬ (s - x.2.2 > x.2.1)) → NfR (A ++ (i, (s, rs[i].2)) :: B) := fun hlast => nfr_in (by rw [← hE]; exact nfE) hlast fun b r z => by
          have := k8 b r z
          dsimp only
          omega
        have hEl : (A ++ B).length ≤ 200 := by rw [← hE]; exact hEi.1
        have hEl2 : A.length + B.length = i := by rw [← w6, hE, List.length_append]
        have hlu : us.length = A.length + B.length := by rw [k2.len]; unfold rowsOf; rw [List.length_map, hE, List.length_append]
        have k2' : BeastsT H8 us (rowsOf (A ++ B)) := by rw [← hE]; exact k2
        have k3' : H8 o = some (.lst (idsV (A ++ B))) := by rw [← hE]; exact k3
        rcases List.eq_nil_or_concat A with rfl | ⟨A', x, rfl⟩
        · refine ⟨false, et_and (a := false) (b := false) (et_is (et_test (ev_op (ev_var rfl) ev_c rv_I0)) rfl) (fun z => by cases z), (fun z => by cases z), fun _ H9 e9 => ?_⟩
          exact led_tail (K := K) nlo nlp nop (e9 _ _ k1) (k2'.ex' e9) (e9 _ _ k3') (e9 _ _ k4) (k5.ex' e9) hEl fun us' H10 x10 g1 g2 g3 g4 g5 => out _ _ us' pu _ _ _ _ H10 ((k9.trans (.of e9)).trans x10) g1 g2 g3 g4 g5 (by rw [List.length_append, List.length_cons]; omega) (by omega) k7 (nfin fun x z => by cases z)
        · rw [List.concat_eq_append] at *
          have hlen : (A' ++ [x]).length = A'.length + 1 := by rw [List.length_append]; rfl
          have hpl : ((A' ++ [x]).length : Int) - 1 = (A'.length : Int) := by
            rw [hlen]
            omega
          obtain ⟨u2, hu2⟩ : ∃ u2, us[A'.length]? = some u2 := ⟨_, List.getElem?_eq_getElem (by omega)⟩
          obtain ⟨bb, hbb, p2, rfl, hp2⟩ := k2.at' hu2
          have ebb : bb = x.2 := by
            unfold rowsOf at hbb
            rw [hE, List.append_assoc, List.map_append, List.getElem?_append_right (by rw [List.length_map]; exact Nat.le_refl _), List.length_map, Nat.sub_self] at hbb
            exact (Option.some.inj hbb).symm
          subst ebb
          have eix : ∀ (σ : L2.St) (H9 : Hp), Ex H8 H9 → σ[2]? = some (some (.ref l)) → σ[8]? = some (some (.int ((A' ++ [x]).length : Int))) → Ev (tOp (rIxL K) (tVar 2) (tOp (rI0 fun i j => .int (i - j)) (tVar 8) (tC (.int 1)))) σ H9 (.ref p2) := fun σ H9 e9 h2 h8 => ev_op (ev_var h2) (ev_is (ev_op (ev_var h8) ev_c rv_I0) (by rw [hpl])) (rv_ixL (K := K) (sq_of (e9 _ _ k1)) (atI_nat hu2))
          have st2 : ∀ H9, Ex H8 H9 → SqT K H9 p2 [.int x.2.1, .int x.2.2] := fun H9 e9 => st_of (e9 _ _ hp2)
          refine ⟨decide (s - x.2.2 > x.2.1), et_is (et_and (a := true) (b := decide (s - x.2.2 > x.2.1)) (et_is (et_test (ev_op (ev_var rfl) ev_c rv_I0)) (by rw [hlen]; exact decide_eq_true (by omega))) fun _ => et_test (ev_op (ev_op (ev_var rfl) (ev_op (eix _ _ (Ex.refl _) rfl rfl) ev_c (rv_ixT (st2 _ (Ex.refl _)) rfl)) rv_I0) (ev_op (eix _ _ (Ex.refl _) rfl rfl) ev_c (rv_ixT (st2 _ (Ex.refl _)) rfl)) rv_I0)) (Bool.true_and _), fun hd H9 e9 => ?_, fun hd H9 e9 => ?_⟩
          · have hd := of_decide_eq_true hd
            refine ⟨_, fun σ2 H2 h => h, ?_⟩
            refine q_par2 ?_
            refine (ev_is (ev_op (ev_var rfl) ev_c rv_I0) (by rw [hpl]) : Ev _ _ H9 (.int (A'.length : Int))) H9 (Ex.refl _) _ fun H10 e10 => ?_
            refine (ev_op (ev_var rfl) (ev_op (eix _ _ (e9.trans e10) rfl rfl) ev_c (rv_ixT (st2 _ (e9.trans e10)) rfl)) rv_I0 : Ev _ _ H10 (.int (s - x.2.2))) H10 (Ex.refl _) _ fun H11 e11 => ⟨_, _, rfl, ?_⟩
            refine s_at [some (.ref ra), some (.int 1), some (.ref l), some (.ref o), some (.ref p), some (.int (i : Int)), some (.int (s - x.2.2)), some (.int rs[i].2), some (.int (A'.length : Int))] rfl ?_
            have e8 := (e9.trans e10).trans e11
            have ord : Ev (tOp (rIxL K) (tVar 3) (tVar 8)) [some (.ref ra), some (.int 1), some (.ref l), some (.ref o), some (.ref p), some (.int (i : Int)), some (.int (s - x.2.2)), some (.int rs[i].2), some (.int (A'.length : Int))] H11 (.int (x.1 : Int)) := ev_op (ev_var rfl) (ev_var rfl) (rv_ixL (K := K) (sq_of (e8 _ _ k3)) (atI_nat (by rw [hE, List.append_assoc]; exact idsV_at A' B x)))
            refine s_appPT (K := K) (e8 _ _ k4) ord (ev_var rfl) (ev_var rfl) (by rw [k5.len]; omega) fun T H12 e12 g12 gT => ?_
            have x12 : Ex3 l o p H8 (upd H12 p (.lst (pu ++ [.ref T]))) := (Ex3.of (e8.trans e12)).u3
            have nTp : T ≠ p := fun z => by rw [z, g12] at gT; cases gT
            refine ⟨A'.length, by rw [hlen]; omega, A', x :: B, s - x.2.2, ps ++ [((x.1 : Int), (i : Int))], pu ++ [.ref T], rfl, rfl, by rw [hE, List.append_assoc]; rfl, ?_, beasts_ex3 k2 x12 k1 k3 k4, ?_, upd_same, ?_, ?_, ?_, fun b r z => ?_, k9.trans x12⟩
            · rw [upd_ne nlp]
              exact e12 _ _ (e8 _ _ k1)
            · rw [upd_ne nop]
              exact e12 _ _ (e8 _ _ k3)
            · refine All2.app (beasts_ex3 k5 x12 k1 k3 k4) (.cons ⟨T, rfl, ?_⟩ .nil)
              rw [upd_ne nTp]
              exact gT
            · rw [List.length_append]
              show ps.length + 1 + A'.length ≤ _
              omega
            · have := PRun.step (pre := A') (post := B) (a := x) (b := (i, (s, rs[i].2))) (by rw [List.append_assoc] at k7; exact k7) hd
              exact this
            · cases z
              omega
          · have hd := of_decide_eq_false hd
            exact led_tail (K := K) nlo nlp nop (e9 _ _ k1) (k2'.ex' e9) (e9 _ _ k3') (e9 _ _ k4) (k5.ex' e9) hEl fun us' H10 x10 g1 g2 g3 g4 g5 => out _ _ us' pu _ _ _ _ H10 ((k9.trans (.of e9)).trans x10) g1 g2 g3 g4 g5 (by rw [List.length_append, List.length_cons]; omega) (by omega) k7 (nfin fun y z => by
              rw [List.getLast?_concat] at z
              cases z
              exact hd)
      | false =>
        obtain ⟨rfl, hi⟩ := rgR_at hx
        obtain ⟨k, hk⟩ : ∃ k, rs.length - 1 - i = k := ⟨_, rfl⟩
        rw [hk]
        have hk1 : rs.length - i = k + 1 := by omega
        have hk2 : rs.length - (i + 1) = k := by omega
        have hkl : k < rs.length := by omega
        obtain ⟨u, hu, pp, rfl, hpp⟩ := bs.2 k rs[k] (List.getElem?_eq_getElem hkl)
        have tlb : 0 ≤ rs[k].2 := tl _ (List.getElem_mem hkl)
        have w8' : FSteps (tag (rs.length - i) (rs.drop (rs.length - i))) E := w8.1
        rw [hk1] at w8'
        have run0 : FSteps (tag k (rs.drop k)) ((k, rs[k]) :: E) := by
          rw [tag_drop hkl]
          exact w8'.appL [(k, rs[k])]
        have nfE : FfR E := w8.2
        have tlE : ∀ x ∈ E, 0 ≤ x.2.2 := fs_tl w8' (tag_tl tl)
        have out : ∀ (E' : List Cow) (ps' : HH.Row) (us' pu' : List V) (y5 y6 y7 y8 : Option V) (H2 : Hp), Ex3 l o p H' H2 → H2 l = some (.lst us') → BeastsT H2 us' (rowsOf E') → H2 o = some (.lst (idsV E')) → H2 p = some (.lst pu') → BeastsT H2 pu' ps' → E'.length = i + 1 → ps'.length ≤ 100 * (i + 1) → FSteps (tag k (rs.drop k)) E' → FfR E' → ∃ (E : List Cow) (ps : HH.Row) (us pu : List V) (z5 z6 z7 z8 : Option V), [some (V.ref ra), some (.int (-1)), some (.ref l), some (.ref o), some (.ref p), y5, y6, y7, y8] = [some (.ref ra), some (.int (if false then 1 else -1)), some (.ref l), some (.ref o), some (.ref p), z5, z6, z7, z8] ∧ H2 l = some (.lst us) ∧ BeastsT H2 us (rowsOf E) ∧ H2 o = some (.lst (idsV E)) ∧ H2 p = some (.lst pu) ∧ BeastsT H2 pu ps ∧ E.length = i + 1 ∧ ps.length ≤ 100 * (i + 1) ∧ LedOk false (if false then tag 0 (rs.take (i + 1)) else tag (rs.length - (i + 1)) (rs.drop (rs.length - (i + 1)))) E ps ∧ Ex H H2 ∧ c ≠ l ∧ c ≠ o ∧ c ≠ p ∧ H2 c = some (.lst (if false then rgV 0 (rs.length : Int) else (rgV 0 (rs.length : Int)).reverse)) :=
          fun E' ps' us' pu' y5 y6 y7 y8 H2 x3 k1 k2 k3 k4 k5 k6 k7 k8 k9 => ⟨E', ps', us', pu', _, _, _, _, rfl, k1, k2, k3, k4, k5, k6, k7, by rw [hk2]; exact ⟨k8, k9⟩, ex_ex3 w9 x3 hl0 oH pH, c1, c2, c3, x3 _ _ c1 c2 c3 w10⟩
        refine g_at [some (.ref ra), some (.int (-1)), some (.ref l), some (.ref o), some (.ref p), some (.int (k : Int)), y6, y7, y8] rfl ?_
        dsimp only
        refine q_asgT2 (K := K) (p := pp) (x := .int rs[k].1) (y := .int rs[k].2) (ev_op (ev_var rfl) (ev_var rfl) (rv_ixT (ex_t w9 ha) (atI_nat hu))) (ex_t w9 hpp) fun H2 e2 => ?_
        refine s_at [some (.ref ra), some (.int (-1)), some (.ref l), some (.ref o), some (.ref p), some (.int (k : Int)), some (.int rs[k].1), some (.int rs[k].2), y8] rfl ?_
        refine q_asg (v := .int (0 : Int)) (ev_if (b := false) (et_is (et_test (ev_op (ev_var rfl) ev_c rv_I0)) rfl) (fun z => by cases z) fun _ => ev_c) fun H3 e3 => ?_
        refine s_at [some (.ref ra), some (.int (-1)), some (.ref l), some (.ref o), some (.ref p), some (.int (k : Int)), some (.int rs[k].1), some (.int rs[k].2), some (.int ((([] : List Cow)).length : Int))] rfl ?_
        have e23 := e2.trans e3
        refine q_if (b := false) (et_is (et_test (ev_op (ev_var rfl) ev_c rv_I0)) rfl) (fun z => by cases z) (fun _ H4 e4 => ?_)
        have e24 := e23.trans e4
        refine s_while (fun m σ' H8 => ∃ (A B : List Cow) (s : Int) (ps : HH.Row) (pu : List V), m = B.length ∧ σ' = [some (.ref ra), some (.int (-1)), some (.ref l), some (.ref o), some (.ref p), some (.int (k : Int)), some (.int s), some (.int rs[k].2), some (.int (A.length : Int))] ∧ E = A ++ B ∧ H8 l = some (.lst us) ∧ BeastsT H8 us (rowsOf E) ∧ H8 o = some (.lst (idsV E)) ∧ H8 p = some (.lst pu) ∧ BeastsT H8 pu ps ∧ ps.length ≤ 100 * i + A.length ∧ FSteps (tag k (rs.drop k)) (A ++ (k, (s, rs[k].2)) :: B) ∧ (∀ x, A.getLast? = some x → x.2.1 < s) ∧ Ex3 l o p H' H8) E.length ⟨[], E, rs[k].1, ps, pu, rfl, rfl, rfl, e24 _ _ w1, w2.ex' e24, e24 _ _ w3, e24 _ _ w4, w5.ex' e24, w7, run0, (fun x z => by cases z), .of e24⟩ (fun m σ' H8 hW => ?_)
        obtain ⟨A, B, s, ps, pu, rfl, rfl, hE, k1, k2, k3, k4, k5, k6, k7, k8, k9⟩ := hW
        have nfin : (∀ b r, B = b :: r → ¬ (s > b.2.1)) → FfR (A ++ (k, (s, rs[k].2)) :: B) := fun hB => ffr_in (by rw [← hE]; exact nfE) (fun x z => by
          have := k8 x z
          dsimp only
          omega) hB
        have hEl : (A ++ B).length ≤ 200 := by rw [← hE]; exact hEi.1
        have hEl2 : A.length + B.length = i := by rw [← w6, hE, List.length_append]
        have hlu : us.length = A.length + B.length := by rw [k2.len]; unfold rowsOf; rw [List.length_map, hE, List.length_append]
        have k2' : BeastsT H8 us (rowsOf (A ++ B)) := by rw [← hE]; exact k2
        have k3' : H8 o = some (.lst (idsV (A ++ B))) := by rw [← hE]; exact k3
        cases B with
        | nil =>
          refine ⟨false, et_and (a := false) (b := false) (et_is (et_test (ev_op (ev_var rfl) (ev_len (K := K) (ev_var rfl) (sq_of k1)) rv_I0)) (by rw [hlu]; exact decide_eq_false (by simp))) (fun z => by cases z), (fun z => by cases z), fun _ H9 e9 => ?_⟩
          exact led_tail (K := K) nlo nlp nop (e9 _ _ k1) (k2'.ex' e9) (e9 _ _ k3') (e9 _ _ k4) (k5.ex' e9) hEl fun us' H10 x10 g1 g2 g3 g4 g5 => out _ _ us' pu _ _ _ _ H10 ((k9.trans (.of e9)).trans x10) g1 g2 g3 g4 g5 (by rw [List.length_append, List.length_cons]; omega) (by omega) k7 (nfin fun b r z => by cases z)
        | cons x B =>
          rw [List.length_cons] at hEl2 hlu
          obtain ⟨u2, hu2⟩ : ∃ u2, us[A.length]? = some u2 := ⟨_, List.getElem?_eq_getElem (by omega)⟩
          obtain ⟨bb, hbb, p2, rfl, hp2⟩ := k2.at' hu2
          have ebb : bb = x.2 := by
            unfold rowsOf at hbb
            rw [hE, List.map_append, List.getElem?_append_right (by rw [List.length_map]; exact Nat.le_refl _), List.length_map, Nat.sub_self] at hbb
            exact (Option.some.inj hbb).symm
          subst ebb
          have eix : ∀ (σ : L2.St) (H9 : Hp), Ex H8 H9 → σ[2]? = some (some (.ref l)) → σ[8]? = some (some (.int (A.length : Int))) → Ev (tOp (rIxL K) (tVar 2) (tVar 8)) σ H9 (.ref p2) := fun σ H9 e9 h2 h8 => ev_op (ev_var h2) (ev_var h8) (rv_ixL (K := K) (sq_of (e9 _ _ k1)) (atI_nat hu2))
          have st2 : ∀ H9, Ex H8 H9 → SqT K H9 p2 [.int x.2.1, .int x.2.2] := fun H9 e9 => st_of (e9 _ _ hp2)
          have hxnn : 0 ≤ x.2.2 := tlE x (by rw [hE]; simp)
          refine ⟨decide (s > x.2.1), et_is (et_and (a := true) (b := decide (s > x.2.1)) (et_is (et_test (ev_op (ev_var rfl) (ev_len (K := K) (ev_var rfl) (sq_of k1)) rv_I0)) (by rw [hlu]; exact decide_eq_true (by omega))) fun _ => et_test (ev_op (ev_var rfl) (ev_op (eix _ _ (Ex.refl _) rfl rfl) ev_c (rv_ixT (st2 _ (Ex.refl _)) rfl)) rv_I0)) (Bool.true_and _), fun hd H9 e9 => ?_, fun hd H9 e9 => ?_⟩
          · have hd := of_decide_eq_true hd
            refine ⟨_, fun σ2 H2 h => h, ?_⟩
            refine q_asg (v := .int (s + x.2.2)) (ev_op (ev_var rfl) (ev_op (eix _ _ e9 rfl rfl) ev_c (rv_ixT (st2 _ e9) rfl)) rv_I0) fun H11 e11 => ?_
            refine s_at [some (.ref ra), some (.int (-1)), some (.ref l), some (.ref o), some (.ref p), some (.int (k : Int)), some (.int (s + x.2.2)), some (.int rs[k].2), some (.int (A.length : Int))] rfl ?_
            have e8 := e9.trans e11
            have ord : Ev (tOp (rIxL K) (tVar 3) (tVar 8)) [some (.ref ra), some (.int (-1)), some (.ref l), some (.ref o), some (.ref p), some (.int (k : Int)), some (.int (s + x.2.2)), some (.int rs[k].2), some (.int (A.length : Int))] H11 (.int (x.1 : Int)) := ev_op (ev_var rfl) (ev_var rfl) (rv_ixL (K := K) (sq_of (e8 _ _ k3)) (atI_nat (by rw [hE]; exact idsV_at A B x)))
            refine q_appPT (K := K) (e8 _ _ k4) (ev_var rfl) ord (ev_var rfl) (by rw [k5.len]; omega) fun T H12 e12 g12 gT => ?_
            have x12 : Ex3 l o p H8 (upd H12 p (.lst (pu ++ [.ref T]))) := (Ex3.of (e8.trans e12)).u3
            have nTp : T ≠ p := fun z => by rw [z, g12] at gT; cases gT
            have gT' : (upd H12 p (.lst (pu ++ [.ref T]))) T = some (.tup [.int (k : Int), .int (x.1 : Int)]) := by
              rw [upd_ne nTp]
              exact gT
            have gl' : (upd H12 p (.lst (pu ++ [.ref T]))) l = some (.lst us) := by
              rw [upd_ne nlp]
              exact e12 _ _ (e8 _ _ k1)
            have go' : (upd H12 p (.lst (pu ++ [.ref T]))) o = some (.lst (idsV E)) := by
              rw [upd_ne nop]
              exact e12 _ _ (e8 _ _ k3)
            have gp' : (upd H12 p (.lst (pu ++ [.ref T]))) p = some (.lst (pu ++ [.ref T])) := upd_same
            generalize upd H12 p (.lst (pu ++ [.ref T])) = H13 at x12 gT' gl' go' gp' ⊢
            refine s_asg (v := .int ((A.length : Int) + 1)) (ev_op (ev_var rfl) ev_c rv_I0) fun H14 e14 => ?_
            have x14 := x12.trans (.of e14)
            refine ⟨B.length, Nat.lt_succ_self _, A ++ [x], B, s + x.2.2, ps ++ [((k : Int), (x.1 : Int))], pu ++ [.ref T], rfl, ?_, by rw [hE, List.append_assoc]; rfl, e14 _ _ gl', beasts_ex3 k2 x14 k1 k3 k4, e14 _ _ go', e14 _ _ gp', All2.app (beasts_ex3 k5 x14 k1 k3 k4) (.cons ⟨T, rfl, e14 _ _ gT'⟩ .nil), ?_, ?_, fun y z => ?_, k9.trans x14⟩
            · rw [List.length_append]
              rfl
            · rw [List.length_append, List.length_append]
              show ps.length + 1 ≤ 100 * i + (A.length + 1)
              omega
            · exact k7.trans (.one ⟨A, B, (k, (s, rs[k].2)), x, rfl, hd, by simp⟩)
            · rw [List.getLast?_concat] at z
              cases z
              omega
          · have hd := of_decide_eq_false hd
            exact led_tail (K := K) nlo nlp nop (e9 _ _ k1) (k2'.ex' e9) (e9 _ _ k3') (e9 _ _ k4) (k5.ex' e9) hEl fun us' H10 x10 g1 g2 g3 g4 g5 => out _ _ us' pu _ _ _ _ H10 ((k9.trans (.of e9)).trans x10) g1 g2 g3 g4 g5 (by rw [List.length_append, List.length_cons, List.length_cons]; omega) (by omega) k7 (nfin fun y r z => by
              cases z
              exact hd)
    · obtain ⟨E, ps, us, pu, y5, y6, y7, y8, rfl, w1, w2, w3, w4, w5, w6, w7, w8, w9, c1, c2, c3, w10⟩ := hW
      have hn : (if sg = true then rgV 0 (rs.length : Int) else (rgV 0 (rs.length : Int)).reverse).length = rs.length := by
        cases sg with
        | true =>
          show (rgV 0 (rs.length : Int)).length = _
          rw [rgV_length]
          omega
        | false =>
          show (rgV 0 (rs.length : Int)).reverse.length = _
          rw [List.length_reverse, rgV_length]
          omega
      rw [hn] at w6 w7 w8
      have w8 : LedOk sg (tag 0 rs) E ps := by
        cases sg with
        | true =>
          have w8 : LedOk true (tag 0 (rs.take rs.length)) E ps := w8
          rw [List.take_length] at w8
          exact w8
        | false =>
          have w8 : LedOk false (tag (rs.length - rs.length) (rs.drop (rs.length - rs.length))) E ps := w8
          rw [Nat.sub_self] at w8
          exact w8
      have hus : us.length = rs.length := by rw [w2.len]; unfold rowsOf; rw [List.length_map, w6]
      refine (eu_tupV (K := K) (ev_var rfl) (sq_of w1) : EvU _ _ H' us) H' (Ex.refl _) _ fun tp H2 htp e2 gt => ?_
      refine ⟨.ref o, rfl, .ref p, rfl, by show 3 ≤ sizeLine; decide, fun q2 hq2 => ?_⟩
      have nq := Ex.new (o := .tup [V.ref tp, .ref o, .ref p]) hq2
      have e3 := e2.trans nq
      refine q q2 o p (.ref tp) pu E ps _ (w9.trans e3) upd_same ⟨tp, us, rfl, st_of (nq _ _ gt), (w2.ex' e3).be⟩ ?_ (e3 _ _ w4) (w5.ex' e3) w8
      have : natsV (E.map (·.1)) = idsV E := by
        unfold natsV idsV
        rw [List.map_map]
        rfl
      rw [this]
      exact e3 _ _ w3
end
end K78
set_option maxHeartbeats 4000000
namespace K78
open PySem PySem.Spec PyProof.Rows L2 Evl HH RZ
section
variable {P : Program} {w : World} {K : PySem.W.Frag} {mg : Str → Option Value} {base : Heap}
theorem ok_law_right {f f1 f2 f3 f4 f5 f6 f7 f8 f9 f10 f11 f12 f13 f14 f15 f16 f17 : Addr} {fd fd1 fd2 fd3 fd4 fd5 fd6 fd7 fd8 fd9 fd10 fd11 fd12 fd13 fd14 fd15 fd16 fd17 : FuncData} (F : FnP K "_law_right" s_law_right f fd) (g : mg "_law_right" = some (.ref f)) (b : Binds K fd ["_law_box"] [])
    (h_law_herd : Has P w K mg base 4 "_law_herd" ["_law_box", "_law_size", "_law_most"] (spHerdM K) f1 fd1) (h_law_of : Has P w K mg base 2 "_law_of" ["_law_box", "_law_pool"] (spOf K) f2 fd2) (h_law_take : Has P w K mg base 1 "_law_take" ["_law_box", "_law_many"] spTake f3 fd3)
    (h_law_packed : Has P w K mg base 1 "_law_packed" ["_law_lots"] (spPackA K) f4 fd4) (h_law_spread : Has P w K mg base 1 "_law_spread" ["_law_herd_here"] (spRowOf K) f5 fd5) (h_law_owners : Has P w K mg base 1 "_law_owners" ["_law_herd_here"] (spOwners K) f6 fd6) (h_law_led : Has P w K mg base 1 "_law_led" ["_law_row_here", "_law_sign"] (spLedL K) f7 fd7)
    (h_law_same : Has P w K mg base 4 "_law_same" ["_law_found", "_law_due"] (spSame K 4) f8 fd8) (h_herd_last : Has P w K mg base 4 "herd_last" ["herd"] (spHerd1 K lastLots) f9 fd9) (h_herd_passings : Has P w K mg base 5 "herd_passings" ["herd"] (spHerdPassings K) f10 fd10) (h_herd_places : Has P w K mg base 4 "herd_places" ["herd"] (spHerdPlaces K) f11 fd11)
    (h_herd_passed : Has P w K mg base 4 "herd_passed" ["herd"] (spHerdPassed K) f12 fd12) (h_herd_first : Has P w K mg base 2 "herd_first" ["herd"] (spHerd1 K firstLots) f13 fd13) (h_is_herd : Has P w K mg base 3 "is_herd" ["thing"] (spIsHerd K) f14 fd14) (h_herd_of : Has P w K mg base 2 "herd_of" ["row"] (spHerdOf K) f15 fd15) (h_last : Has P w K mg base 2 "last" ["row"] (spLastF K) f16 fd16) (h_first : Has P w K mg base 2 "first" ["row"] (spFirstF K) f17 fd17)
    (m_range : mg "range" = none) (m_len : mg "len" = none) (m_tuple : mg "tuple" = none) (m_enumerate : mg "enumerate" = none) : Has P w K mg base 6 "_law_right" ["_law_box"] spRight f fd := by
  refine ⟨F.ok sc_law_right (fun vs H Q E h => ?_) (fun cdv A outer s H vs Q E hr h => ?_), g, F.kp, b⟩
  · obtain ⟨p, rfl, _⟩ := h
    rfl
  · obtain ⟨p, rfl, hb, q⟩ := h
    have hu : (A.deeper (envOfC "_law_right" (defScope s_law_right) s.heap.objs.size f cdv)).units + 64 < cLine := by
      have := hr.un
      omega
    refine ⟨_, PSs.nox (pss_cons (ps_for PassesOwn.never rfl (pi_range1 (by rfl) m_range (pa_cons pe_int pa_nil)) (pg_name (i := 1) sc_law_right.nd rfl (Or.inl rfl))
        (pss_cons (ps_set (i := 2) sc_law_right.nd rfl (.inl rfl) (pe_call h_law_herd.G (hr.mono (by decide)) (by rfl) h_law_herd.g h_law_herd.kp h_law_herd.b .nil pass0 (pa_cons (pv 0) (pa_cons pe_int (pa_cons (pe_call h_law_of.G (hr.mono (by decide)) (by rfl) h_law_of.g h_law_of.kp h_law_of.b .nil pass0 (pa_cons (pv 0) (pa_cons (pe_lst (pa_cons pe_int (pa_cons pe_int (pa_cons pe_int pa_nil)))) pa_nil))) pa_nil)))))
      (Evl.pss_cut (ps_if (pt_cmpR op_eq (pe_call h_law_take.G (hr.mono (by decide)) (by rfl) h_law_take.g h_law_take.kp h_law_take.b .nil pass0 (pa_cons (pv 0) (pa_cons pe_int pa_nil))) pe_int (nomark _)) (pss_cons (ps_setLc (i := 3) (own := [("_law_strength", 19), ("_law_toll", 20), ("_law_many", 21)]) (g := gTup K 3 (gCons (gName 19) (gCons (gName 20) (gCons (gName 21) gNil)))) (by rfl) sc_law_right.nd rfl rfl (sw_true rfl rfl rfl (by decide +kernel)) (pi_tup (pe_slice sl_tupA (pv 2) po_none (po_some pe_int))) (blkOk_by (own := [("_law_strength", 19), ("_law_toll", 20), ("_law_many", 21)]) (N := ["_law_box", "_law_turn", "_law_herd_here", "_law_more", "_law_row_here", "_law_owners_here", "_law_there", "_law_order", "_law_pairs", "_law_behind", "_law_often", "_law_spots", "_law_due", "_law_own", "_law_begun", "_law_ends", "_law_pair", "_law_who", "_law_number", "_law_strength", "_law_toll", "_law_many", "_law_at", "_law_some", "_law_beast", "_law_owner"]) (sc := defScope s_law_right) (by decide +kernel)) (fun _ _ _ _ _ => (pg_tup rfl (pgs_cons (pg_name (i := 19) sc_law_right.nd rfl (Or.inl rfl)) (pgs_cons (pg_name (i := 20) sc_law_right.nd rfl (Or.inl rfl)) (pgs_cons (pg_name (i := 21) sc_law_right.nd rfl (Or.inl rfl)) pgs_nil))))) (fun _ _ _ _ _ => pts_nil) (fun _ _ _ _ _ => (pe_tup (pa_cons (pe_op op_add (pv 19) (pe_call h_law_take.G (hr.mono (by decide)) (by rfl) h_law_take.g h_law_take.kp h_law_take.b .nil pass0 (pa_cons (pv 0) (pa_cons pe_int pa_nil)))) (pa_cons (pv 20) (pa_cons (pv 21) pa_nil))))))
      (pss_one (ps_set (i := 2) sc_law_right.nd rfl (.inl rfl) (pe_call h_law_packed.G (hr.mono (by decide)) (by rfl) h_law_packed.g h_law_packed.kp h_law_packed.b .nil pass0 (pa_cons (pe_op op_catA (pv 2) (pe_tupleOf (by rfl) m_tuple (pv 3))) pa_nil))))) pss_nil)
      (pss_cons (ps_asg (pe_tup (pa_cons (pe_call h_law_spread.G (hr.mono (by decide)) (by rfl) h_law_spread.g h_law_spread.kp h_law_spread.b .nil pass0 (pa_cons (pv 2) pa_nil)) (pa_cons (pe_call h_law_owners.G (hr.mono (by decide)) (by rfl) h_law_owners.g h_law_owners.kp h_law_owners.b .nil pass0 (pa_cons (pv 2) pa_nil)) pa_nil))) (pg_tup rfl (pgs_cons (pg_name (i := 4) sc_law_right.nd rfl (Or.inl rfl)) (pgs_cons (pg_name (i := 5) sc_law_right.nd rfl (Or.inr rfl)) pgs_nil))))
      (pss_cons (ps_asg (pe_call h_law_led.G (hr.mono (by decide)) (by rfl) h_law_led.g h_law_led.kp h_law_led.b .nil pass0 (pa_cons (pv 4) (pa_cons pe_int pa_nil))) (pg_tup rfl (pgs_cons (pg_name (i := 6) sc_law_right.nd rfl (Or.inl rfl)) (pgs_cons (pg_name (i := 7) sc_law_right.nd rfl (Or.inr rfl)) (pgs_cons (pg_name (i := 8) sc_law_right.nd rfl (Or.inl rfl)) pgs_nil)))))
      (pss_cons (ps_set (i := 9) sc_law_right.nd rfl (.inr rfl) (pe_lc (own := [("_law_pair", 16)]) (g := gName 16) (by rfl) sc_law_right.nd (pi_list (pv 8)) (blkOk_by (own := [("_law_pair", 16)]) (N := ["_law_box", "_law_turn", "_law_herd_here", "_law_more", "_law_row_here", "_law_owners_here", "_law_there", "_law_order", "_law_pairs", "_law_behind", "_law_often", "_law_spots", "_law_due", "_law_own", "_law_begun", "_law_ends", "_law_pair", "_law_who", "_law_number", "_law_strength", "_law_toll", "_law_many", "_law_at", "_law_some", "_law_beast", "_law_owner"]) (sc := defScope s_law_right) (by decide +kernel)) (fun _ _ _ _ _ => (pg_name (i := 16) sc_law_right.nd rfl (Or.inl rfl))) (fun _ _ _ _ _ => pts_nil) (fun _ _ _ _ _ => (pe_ix (ix_tupK (K := K)) (pv 16) pe_int (fun _ _ => rfl)))))
      (pss_cons (ps_setLc (i := 10) (own := [("_law_who", 17)]) (g := gName 17) (by rfl) sc_law_right.nd rfl rfl (sw_true rfl rfl rfl (by decide +kernel)) (pi_range1 (by rfl) m_range (pa_cons (pe_callB call_len_seq (by rfl) m_len PySem.boot_len (pa_cons (pv 4) pa_nil)) pa_nil)) (blkOk_by (own := [("_law_who", 17)]) (N := ["_law_box", "_law_turn", "_law_herd_here", "_law_more", "_law_row_here", "_law_owners_here", "_law_there", "_law_order", "_law_pairs", "_law_behind", "_law_often", "_law_spots", "_law_due", "_law_own", "_law_begun", "_law_ends", "_law_pair", "_law_who", "_law_number", "_law_strength", "_law_toll", "_law_many", "_law_at", "_law_some", "_law_beast", "_law_owner"]) (sc := defScope s_law_right) (by decide +kernel)) (fun _ _ _ _ _ => (pg_name (i := 17) sc_law_right.nd rfl (Or.inl rfl))) (fun _ _ _ _ _ => pts_nil) (fun _ _ _ _ _ => (pe_bmK (K := K) (pe_bm PySem.F.plainAttrs_list PySem.F.slot_list_count PySem.F.type_list_count (mt_lcountK (K := K)) (pv 9) (pa_cons (pv 17) pa_nil)))))
      (pss_cons (ps_setLc (i := 11) (own := [("_law_number", 18)]) (g := gName 18) (by rfl) sc_law_right.nd rfl rfl (sw_true rfl rfl rfl (by decide +kernel)) (pi_range1 (by rfl) m_range (pa_cons (pe_callB call_len_seq (by rfl) m_len PySem.boot_len (pa_cons (pv 2) pa_nil)) pa_nil)) (blkOk_by (own := [("_law_number", 18)]) (N := ["_law_box", "_law_turn", "_law_herd_here", "_law_more", "_law_row_here", "_law_owners_here", "_law_there", "_law_order", "_law_pairs", "_law_behind", "_law_often", "_law_spots", "_law_due", "_law_own", "_law_begun", "_law_ends", "_law_pair", "_law_who", "_law_number", "_law_strength", "_law_toll", "_law_many", "_law_at", "_law_some", "_law_beast", "_law_owner"]) (sc := defScope s_law_right) (by decide +kernel)) (fun _ _ _ _ _ => (pg_name (i := 18) sc_law_right.nd rfl (Or.inr rfl))) (fun _ _ _ _ _ => pts_nil) (fun _ _ _ _ _ => (pe_lc (own := [("_law_at", 22), ("_law_who", 17)]) (g := gTup K 2 (gCons (gName 22) (gCons (gName 17) gNil))) (by rfl) sc_law_right.nd (pi_enumK (K := K) (by rfl) m_enumerate (pa_cons (pv 7) pa_nil)) (blkOk_by (own := [("_law_at", 22), ("_law_who", 17)]) (N := ["_law_box", "_law_turn", "_law_herd_here", "_law_more", "_law_row_here", "_law_owners_here", "_law_there", "_law_order", "_law_pairs", "_law_behind", "_law_often", "_law_spots", "_law_due", "_law_own", "_law_begun", "_law_ends", "_law_pair", "_law_who", "_law_number", "_law_strength", "_law_toll", "_law_many", "_law_at", "_law_some", "_law_beast", "_law_owner"]) (by kernel_rfl)) (fun _ _ _ _ _ => (pg_tup rfl (pgs_cons (pg_name (i := 22) sc_law_right.nd rfl (Or.inl rfl)) (pgs_cons (pg_name (i := 17) sc_law_right.nd rfl (Or.inl rfl)) pgs_nil)))) (fun _ _ _ _ _ => (pts_one (pt_cmpR op_eq (pe_ix (ix_listK (K := K)) (pv 5) (pv 17) (fun _ _ => rfl)) (pv 18) (nomark _)))) (fun _ _ _ _ _ => (pv 22)))))
      (pss_cons (ps_set (i := 12) sc_law_right.nd rfl (.inl rfl) (pe_lst (pa_cons (pe_call h_law_packed.G (hr.mono (by decide)) (by rfl) h_law_packed.g h_law_packed.kp h_law_packed.b .nil pass0 (pa_cons (pe_lc (own := [("_law_beast", 24)]) (g := gName 24) (by rfl) sc_law_right.nd (pi_tup (pv 6)) (blkOk_by (own := [("_law_beast", 24)]) (N := ["_law_box", "_law_turn", "_law_herd_here", "_law_more", "_law_row_here", "_law_owners_here", "_law_there", "_law_order", "_law_pairs", "_law_behind", "_law_often", "_law_spots", "_law_due", "_law_own", "_law_begun", "_law_ends", "_law_pair", "_law_who", "_law_number", "_law_strength", "_law_toll", "_law_many", "_law_at", "_law_some", "_law_beast", "_law_owner"]) (sc := defScope s_law_right) (by decide +kernel)) (fun _ _ _ _ _ => (pg_name (i := 24) sc_law_right.nd rfl (Or.inl rfl))) (fun _ _ _ _ _ => pts_nil) (fun _ _ _ _ _ => (pe_op (op_catAK (K := K)) (pv 24) (pe_tup (pa_cons pe_int pa_nil))))) pa_nil)) (pa_cons (pe_callB call_len_seq (by rfl) m_len PySem.boot_len (pa_cons (pv 8) pa_nil)) (pa_cons (pe_lc (own := [("_law_some", 23)]) (g := gName 23) (by rfl) sc_law_right.nd (pi_list (pv 11)) (blkOk_by (own := [("_law_some", 23)]) (N := ["_law_box", "_law_turn", "_law_herd_here", "_law_more", "_law_row_here", "_law_owners_here", "_law_there", "_law_order", "_law_pairs", "_law_behind", "_law_often", "_law_spots", "_law_due", "_law_own", "_law_begun", "_law_ends", "_law_pair", "_law_who", "_law_number", "_law_strength", "_law_toll", "_law_many", "_law_at", "_law_some", "_law_beast", "_law_owner"]) (sc := defScope s_law_right) (by decide +kernel)) (fun _ _ _ _ _ => (pg_name (i := 23) sc_law_right.nd rfl (Or.inl rfl))) (fun _ _ _ _ _ => pts_nil) (fun _ _ _ _ _ => (pe_tup (pa_cons (pe_ix (ix_listK (K := K)) (pv 23) pe_int (fun _ _ => rfl)) (pa_cons (pe_ix (ix_listK (K := K)) (pv 23) (pe_un un_neg pe_int) (fun _ _ => rfl)) pa_nil))))) pa_nil)))))
      (pss_cons (ps_if (pt_not (pt_val (pe_call h_law_same.G (hr.mono (by decide)) (by rfl) h_law_same.g h_law_same.kp h_law_same.b .nil pass0 (pa_cons (pe_lst (pa_cons (pe_call h_herd_last.G (hr.mono (by decide)) (by rfl) h_herd_last.g h_herd_last.kp h_herd_last.b .nil pass0 (pa_cons (pv 2) pa_nil)) (pa_cons (pe_call h_herd_passings.G (hr.mono (by decide)) (by rfl) h_herd_passings.g h_herd_passings.kp h_herd_passings.b .nil pass0 (pa_cons (pv 2) pa_nil)) (pa_cons (pe_call h_herd_places.G (hr.mono (by decide)) (by rfl) h_herd_places.g h_herd_places.kp h_herd_places.b .nil pass0 (pa_cons (pv 2) pa_nil)) pa_nil)))) (pa_cons (pv 12) pa_nil))))) (pss_one (ps_ret pe_bl)) pss_nil)
      (pss_cons (ps_set (i := 13) sc_law_right.nd rfl (.inr rfl) (pe_call h_herd_passed.G (hr.mono (by decide)) (by rfl) h_herd_passed.g h_herd_passed.kp h_herd_passed.b .nil pass0 (pa_cons (pv 2) pa_nil)))
      (pss_cons (ps_if (PW.pt (pw_or (pt_not (pt_val (pe_call h_law_same.G (hr.mono (by decide)) (by rfl) h_law_same.g h_law_same.kp h_law_same.b .nil pass0 (pa_cons (pe_lc (own := [("_law_owner", 25)]) (g := gName 25) (by rfl) sc_law_right.nd (pi_list (pv 5)) (blkOk_by (own := [("_law_owner", 25)]) (N := ["_law_box", "_law_turn", "_law_herd_here", "_law_more", "_law_row_here", "_law_owners_here", "_law_there", "_law_order", "_law_pairs", "_law_behind", "_law_often", "_law_spots", "_law_due", "_law_own", "_law_begun", "_law_ends", "_law_pair", "_law_who", "_law_number", "_law_strength", "_law_toll", "_law_many", "_law_at", "_law_some", "_law_beast", "_law_owner"]) (sc := defScope s_law_right) (by decide +kernel)) (fun _ _ _ _ _ => (pg_name (i := 25) sc_law_right.nd rfl (Or.inl rfl))) (fun _ _ _ _ _ => pts_nil) (fun _ _ _ _ _ => (pe_ix (ix_listK (K := K)) (pv 13) (pv 25) (fun _ _ => rfl)))) (pa_cons (pv 10) pa_nil))))) (pw_or1 (pt_cmpR op_ne (pe_callB call_len_seq (by rfl) m_len PySem.boot_len (pa_cons (pv 13) pa_nil)) (pe_callB call_len_seq (by rfl) m_len PySem.boot_len (pa_cons (pv 2) pa_nil)) (nomark _))))) (pss_one (ps_ret pe_bl)) pss_nil)
      (pss_cons (ps_set (i := 14) sc_law_right.nd rfl (.inl rfl) (pe_ix ix_tup (pe_call h_law_led.G (hr.mono (by decide)) (by rfl) h_law_led.g h_law_led.kp h_law_led.b .nil pass0 (pa_cons (pv 4) (pa_cons (pe_un un_neg pe_int) pa_nil))) pe_int (fun _ _ => rfl)))
      (pss_cons (ps_if (pt_not (pt_val (pe_call h_law_same.G (hr.mono (by decide)) (by rfl) h_law_same.g h_law_same.kp h_law_same.b .nil pass0 (pa_cons (pe_call h_herd_first.G (hr.mono (by decide)) (by rfl) h_herd_first.g h_herd_first.kp h_herd_first.b .nil pass0 (pa_cons (pv 2) pa_nil)) (pa_cons (pe_call h_law_packed.G (hr.mono (by decide)) (by rfl) h_law_packed.g h_law_packed.kp h_law_packed.b .nil pass0 (pa_cons (pe_lc (own := [("_law_beast", 24)]) (g := gName 24) (by rfl) sc_law_right.nd (pi_tup (pv 14)) (blkOk_by (own := [("_law_beast", 24)]) (N := ["_law_box", "_law_turn", "_law_herd_here", "_law_more", "_law_row_here", "_law_owners_here", "_law_there", "_law_order", "_law_pairs", "_law_behind", "_law_often", "_law_spots", "_law_due", "_law_own", "_law_begun", "_law_ends", "_law_pair", "_law_who", "_law_number", "_law_strength", "_law_toll", "_law_many", "_law_at", "_law_some", "_law_beast", "_law_owner"]) (sc := defScope s_law_right) (by decide +kernel)) (fun _ _ _ _ _ => (pg_name (i := 24) sc_law_right.nd rfl (Or.inl rfl))) (fun _ _ _ _ _ => pts_nil) (fun _ _ _ _ _ => (pe_op (op_catAK (K := K)) (pv 24) (pe_tup (pa_cons pe_int pa_nil))))) pa_nil)) pa_nil))))) (pss_one (ps_ret pe_bl)) pss_nil)
      (pss_cons (ps_if (pt_cmpR op_isnot_bl (pe_call h_is_herd.G (hr.mono (by decide)) (by rfl) h_is_herd.g h_is_herd.kp h_is_herd.b .nil pass0 (pa_cons (pe_ix ix_list (pv 12) pe_int (fun _ _ => rfl)) pa_nil)) pe_bl (nomark _)) (pss_one (ps_ret pe_bl)) pss_nil)
      (pss_cons (ps_set (i := 15) sc_law_right.nd rfl (.inl rfl) (pe_ifExp (pt_cmpR op_lt (pe_callB call_len_seq (by rfl) m_len PySem.boot_len (pa_cons (pv 4) pa_nil)) pe_int (nomark _)) (pe_lc (own := [("_law_some", 23)]) (g := gName 23) (by rfl) sc_law_right.nd (pi_tup (pe_tup (pa_cons (pe_ix ix_tup (pe_call h_last.G (hr.mono (by decide)) (by rfl) h_last.g h_last.kp h_last.b .nil pass0 (pa_cons (pv 4) pa_nil)) pe_int (fun _ _ => rfl)) (pa_cons (pe_ix ix_tup (pe_call h_first.G (hr.mono (by decide)) (by rfl) h_first.g h_first.kp h_first.b .nil pass0 (pa_cons (pv 4) pa_nil)) pe_int (fun _ _ => rfl)) pa_nil)))) (blkOk_by (own := [("_law_some", 23)]) (N := ["_law_box", "_law_turn", "_law_herd_here", "_law_more", "_law_row_here", "_law_owners_here", "_law_there", "_law_order", "_law_pairs", "_law_behind", "_law_often", "_law_spots", "_law_due", "_law_own", "_law_begun", "_law_ends", "_law_pair", "_law_who", "_law_number", "_law_strength", "_law_toll", "_law_many", "_law_at", "_law_some", "_law_beast", "_law_owner"]) (sc := defScope s_law_right) (by decide +kernel)) (fun _ _ _ _ _ => (pg_name (i := 23) sc_law_right.nd rfl (Or.inl rfl))) (fun _ _ _ _ _ => pts_nil) (fun _ _ _ _ _ => (pe_call h_herd_of.G (hr.mono (by decide)) (by rfl) h_herd_of.g h_herd_of.kp h_herd_of.b .nil pass0 (pa_cons (pv 23) pa_nil)))) (pe_lst pa_nil)))
      (pss_one (ps_if (pt_not (pt_val (pe_call h_law_same.G (hr.mono (by decide)) (by rfl) h_law_same.g h_law_same.kp h_law_same.b .nil pass0 (pa_cons (pv 15) (pa_cons (pe_slice sl_list (pe_lst (pa_cons (pe_ix ix_list (pv 12) pe_int (fun _ _ => rfl)) (pa_cons (pe_call h_herd_first.G (hr.mono (by decide)) (by rfl) h_herd_first.g h_herd_first.kp h_herd_first.b .nil pass0 (pa_cons (pv 2) pa_nil)) pa_nil))) po_none (po_some (pe_callB call_len_seq (by rfl) m_len PySem.boot_len (pa_cons (pv 15) pa_nil)))) pa_nil))))) (pss_one (ps_ret pe_bl)) pss_nil))))))))))))))))))
      (pss_one (ps_ret pe_bl))), ?_⟩
    have lim : ∀ {n : Nat}, n ≤ 100000 → n + 300 < Lim := fun {n} h => Nat.lt_of_lt_of_le (show n + 300 < 2 ^ 20 by omega) (Nat.pow_le_pow_right (by decide) (by decide))
    refine q_forR1 (n := 3) (ea_cons ev_c ea_nil) ⟨by decide, by decide⟩ (fun i σ' H' => ∃ y1 y2 y3 y4 y5 y6 y7 y8 y9 y10 y11 y12 y13 y14 y15 : Option V, σ' = [some (.ref p), y1, y2, y3, y4, y5, y6, y7, y8, y9, y10, y11, y12, y13, y14, y15, none, none, none, none, none, none, none, none, none, none] ∧ ExB p H H' ∧ Bx H' p (1000 * i)) (fun H1 e1 => ⟨_, _, _, _, _, _, _, _, _, _, _, _, _, _, _, rfl, .of e1, hb.ex e1⟩) (fun i σ' H0 hi hW => ?_) (fun σ' H0 hW => ?_)
    · obtain ⟨y1, y2, y3, y4, y5, y6, y7, y8, y9, y10, y11, y12, y13, y14, y15, rfl, x0, b0⟩ := hW
      have hi : i < 3 := by omega
      refine s_at [some (.ref p), some (.int (i : Int)), y2, y3, y4, y5, y6, y7, y8, y9, y10, y11, y12, y13, y14, y15, none, none, none, none, none, none, none, none, none, none] rfl ?_
      refine ⟨.ref p, rfl, .ref p, rfl, by show 3 ≤ sizeLine; decide, fun lq hlq => ?_⟩
      have nl := Ex.new (o := .lst [V.int 1, .int 3, .int 8]) hlq
      refine ⟨p, lq, [.int 1, .int 3, .int 8], 1000 * i, rfl, sq_of upd_same, by decide, by decide, (b0.ne hlq).symm, b0.ex nl, by have := lim (n := 1000 * i) (by omega); omega, fun r x H1 hx x1 b1 => ?_⟩
      obtain ⟨M, rfl, hM0, hM8⟩ : ∃ M : Int, x = .int M ∧ 0 < M ∧ M ≤ 8 := by
        match r, hx with
        | 0, hx => exact ⟨1, (Option.some.inj hx).symm, by decide, by decide⟩
        | 1, hx => exact ⟨3, (Option.some.inj hx).symm, by decide, by decide⟩
        | 2, hx => exact ⟨8, (Option.some.inj hx).symm, by decide, by decide⟩
        | k + 3, hx => simp at hx
      refine ⟨p, 6, M, 1000 * i + 1, rfl, by decide, by decide, hM0, by omega, b1, by have := lim (n := 1000 * i) (by omega); omega, fun z H2 ls0 x2 b2 hz l0 l6 fi sp => ?_⟩
      have x02 : ExB p H H2 := x0.trans ((ExB.of nl).trans (x1.trans x2))
      refine g_at [some (.ref p), some (.int (i : Int)), some z, y3, y4, y5, y6, y7, y8, y9, y10, y11, y12, y13, y14, y15, none, none, none, none, none, none, none, none, none, none] rfl ?_
      try dsimp only
      have pos0 : PosL ls0 := fun l hl => (fi l hl).2.2.2.2.1
      have tl0 : ∀ b ∈ sprR ls0, 0 ≤ b.2 ∧ b.2 < 1000000000000 := fun b hb => by
        obtain ⟨l, hl, h2⟩ := List.mem_flatMap.mp hb
        rw [(List.mem_replicate.mp h2).2]
        obtain ⟨_, _, f3, f4, _⟩ := fi l hl
        exact ⟨f3, f4⟩
      have sp48 : (sprR ls0).length ≤ 48 := by
        have : M.toNat ≤ 8 := by omega
        have := Nat.mul_le_mul_left 6 this
        omega
      refine q_cut (M := fun σ' H' => ∃ (y3 : Option V) (v : V) (ls : List Lot), σ' = [some (.ref p), some (.int (i : Int)), some v, y3, y4, y5, y6, y7, y8, y9, y10, y11, y12, y13, y14, y15, none, none, none, none, none, none, none, none, none, none] ∧ HerdAt K H' v ls ∧ 0 < ls.length ∧ ls.length ≤ 8 ∧ PosL ls ∧ (∀ b ∈ sprR ls, 0 ≤ b.2 ∧ b.2 < 1000000000000) ∧ (sprR ls).length ≤ 96 ∧ ExB p H H' ∧ Bx H' p (1000 * i + 300)) ?_ (fun σ' H3 hM => ?_)
      · refine ⟨.ref p, rfl, p, 2, 1000 * i + 201, rfl, by decide, by decide, b2, by have := lim (n := 1000 * i) (by omega); omega, fun r H3 r0 r1 x3 b3 => ⟨rfl, _, rfl, ite2 (fun hc => ?_) (fun hc => ?_)⟩⟩
        · have hz3 : HerdAt K H3 z ls0 := by
            obtain ⟨bl2, hbl2⟩ := b2.lst
            exact hz.exL x3 hbl2
          obtain ⟨ha, hu, rfl, hsq, hla⟩ := hz3
          have hul : hu.length = ls0.length := All2.len hla
          refine (ep_to (K := K) (j := 2) (ep_val (ev_var rfl) hsq) ev_c rfl) H3 (Ex.refl _) _ fun a2 H4 e4 sq4 => ⟨a2, rfl, ⟨_, sq4⟩, fun D hD => ?_⟩
          have b4 := b3.ex e4
          have nDp : D ≠ p := (b4.ne hD).symm
          obtain ⟨bl4, hbl4⟩ := b4.lst
          have l4 : LotsA K H4 (hu.take 2) (ls0.take 2) := all2_take 2 (hla.ex' e4)
          have spm : ∀ (k : Nat) (ms : List Lot), ms.length = k → True := fun _ _ _ => trivial
          refine in_it (walk_tup (xs := hu.take 2)) (fun k H5 => ExB p H4 H5 ∧ Bx H5 p (1000 * i + 202 + k) ∧ ∃ (ws : List V) (ms : List Lot), H5 D = some (.lst ws) ∧ LotsA K H5 ws ms ∧ ms.length = k ∧ PosL ms ∧ (∀ b ∈ sprR ms, 0 ≤ b.2 ∧ b.2 < 1000000000000) ∧ (sprR ms).length = (sprR (ls0.take k)).length) ⟨.of (Ex.new hD), b4.ex (Ex.new hD), [], [], upd_same, .nil, rfl, (fun l hl => nomatch hl), (fun b hb => nomatch hb), rfl⟩ (fun k H5 _ w => w.1.t hbl4 sq4) (fun k x H5 H6 hk w y => ?_) (fun H5 w => ?_)
          · obtain ⟨rfl, hx⟩ := y
            obtain ⟨w1, w2, ws, ms, w3, w4, w5, w6, w7, w8⟩ := w
            obtain ⟨bl5, hbl5⟩ := w2.lst
            have hk2 : k < 2 := by
              rw [List.length_take] at hk
              omega
            obtain ⟨⟨st, tl, mn⟩, hlk, pp, rfl, hpp⟩ := All2.get l4 hx
            have hlk0 : ls0[k]? = some (st, tl, mn) := by
              rw [List.getElem?_take_of_lt hk2] at hlk
              exact hlk
            have hmem := List.mem_of_getElem? hlk0
            refine ⟨pp, _, rfl, w1.t hbl4 hpp, rfl, _, _, rfl, _, _, rfl, _, _, rfl, rfl, rfl, t_yes ?_⟩
            refine ⟨.int st, rfl, .ref p, rfl, p, 3, 1000 * i + 202 + k, rfl, by decide, by decide, w2, by have := lim (n := 1000 * i) (by omega); omega, fun r2 H7 r0 r1 x7 b7 => ⟨st, r2, rfl, rfl, .int tl, rfl, .int mn, rfl, by show 3 ≤ sizeLine; decide, fun T hT => ?_⟩⟩
            have nT := Ex.new (o := .tup [V.int (st + r2), .int tl, .int mn]) hT
            have gD := nT _ _ (x7 _ _ nDp w3)
            refine ⟨ws, gD, sz_lt (by rw [All2.len w4]; omega), (w1.trans (x7.trans (.of nT))).mut hD, (b7.ex nT).mut nDp.symm, ws ++ [.ref T], ms ++ [(st + r2, tl, mn)], upd_same, LotsA.exB' (All2.app (LotsA.ex' (LotsA.exB' w4 x7 hbl5) nT) (.cons ⟨T, rfl, st_of upd_same⟩ .nil)) (ExB.refl _ _).upd gD, by rw [List.length_append, w5]; rfl, fun l hl => ?_, fun b hb => ?_, ?_⟩
            · rcases List.mem_append.mp hl with h | h
              · exact w6 l h
              · rw [List.mem_singleton.mp h]
                exact pos0 (st, tl, mn) hmem
            · rw [spr_app] at hb
              rcases List.mem_append.mp hb with h | h
              · exact w7 b h
              · have h2 : b = (st + r2, tl) := by
                  unfold sprR at h
                  rw [List.flatMap_cons, List.flatMap_nil, List.append_nil] at h
                  exact (List.mem_replicate.mp h).2
                rw [h2]
                obtain ⟨_, _, f3, f4, _⟩ := fi _ hmem
                exact ⟨f3, f4⟩
            · rw [spr_app, spr_take hlk0, List.length_append, List.length_append, w8]
              congr 1
              unfold sprR
              rw [List.flatMap_cons, List.flatMap_nil, List.append_nil, List.length_replicate, List.length_replicate]
          · obtain ⟨w1, w2, ws, ms, w3, w4, w5, w6, w7, w8⟩ := w
            have w8' : (sprR ms).length ≤ 48 := by
              rw [w8]
              have := spr_le ls0 (hu.take 2).length
              omega
            have w5' : ms.length ≤ 2 := by
              rw [w5, List.length_take]
              omega
            refine g_at [some (.ref p), some (.int (i : Int)), some (.ref ha), some (.ref D), y4, y5, y6, y7, y8, y9, y10, y11, y12, y13, y14, y15, none, none, none, none, none, none, none, none, none, none] rfl ?_
            try dsimp only
            have x45 : ExB p H3 H5 := (ExB.of e4).trans w1
            obtain ⟨bl3, hbl3⟩ := b3.lst
            refine (ep_cat (K := K) (xs := hu) (ys := ws) (ep_val (ev_var rfl) (x45.t hbl3 hsq)) (fun H6 e6 Q6 q6 => (eu_tupV (K := K) (ev_var rfl) (sq_of w3)) H6 e6 Q6 fun t H7 ht e7 g7 => q6 t H7 e7 (st_of g7)) (by rw [All2.len w4]; omega)) H5 (Ex.refl _) _ fun t H6 e6 sq6 => ?_
            have la6 : LotsA K H6 (hu ++ ws) (ls0 ++ ms) := All2.app ((LotsA.exB' hla x45 hbl3).ex' e6) (w4.ex' e6)
            have pos6 : PosL (ls0 ++ ms) := fun l hl => (List.mem_append.mp hl).elim (pos0 l) (w6 l)
            refine ⟨t, _, ls0 ++ ms, rfl, .inr sq6, la6, by rw [List.length_append]; omega, fun v H7 e7 hv => ?_⟩
            refine ⟨_, v, packL (ls0 ++ ms), rfl, hv, packL_ne (by rw [List.length_append]; omega), ?_, packL_pos pos6, ?_, ?_, x02.trans (x3.trans (x45.trans (.of (e6.trans e7)))), ((w2.ex e6).ex e7).le (by rw [List.length_take]; omega)⟩
            · have := packL_len (ls0 ++ ms)
              rw [List.length_append] at this
              omega
            · rw [packL_spr pos6, spr_app]
              exact fun b hb => (List.mem_append.mp hb).elim (tl0 b) (w7 b)
            · rw [packL_spr pos6, spr_app, List.length_append]
              omega
        · obtain ⟨bl2, hbl2⟩ := b2.lst
          exact ⟨_, z, ls0, rfl, hz.exL x3 hbl2, l0, by omega, pos0, tl0, by omega, x02.trans x3, b3.le (by omega)⟩
      obtain ⟨y3, v, ls, rfl, hv, lp0, l8, pos, tls, sp96, x3, b3⟩ := hM
      have fit : Fit ls := fit_spr pos (by omega) (fun b hb => by have := tls b hb; omega) (by omega)
      have tl := sprR_tl fit
      refine ⟨v, rfl, v, ls, rfl, hv, pos, by omega, fun rv H4 e4 hrv => ?_⟩
      refine ⟨v, rfl, v, ls, rfl, hv.ex e4, pos, by omega, fun ow H5 how e5 gow => ⟨by show 2 ≤ sizeLine; decide, fun T hT => ⟨T, _, rfl, st_of upd_same, rfl, _, _, rfl, _, _, rfl, rfl, ?_⟩⟩⟩
      have nT := Ex.new (o := .tup [rv, .ref ow]) hT
      have e35 := (e4.trans e5).trans nT
      have hrv := (hrv.ex e5).ex nT
      have gow := nT _ _ gow
      have hv := hv.ex e35
      generalize upd H5 T (.tup [rv, .ref ow]) = H6 at e35 hrv gow hv ⊢
      try dsimp only
      refine s_at [some (.ref p), some (.int (i : Int)), some v, y3, some rv, some (.ref ow), y6, y7, y8, y9, y10, y11, y12, y13, y14, y15, none, none, none, none, none, none, none, none, none, none] rfl ?_
      refine ⟨rv, rfl, rv, sprR ls, true, rfl, hrv, by omega, tl, fun lq2 ot lp tv pu E ps H7 e7 gq htv got glp bps ok => ⟨lq2, _, rfl, st_of gq, rfl, _, _, rfl, _, _, rfl, _, _, rfl, rfl, ?_⟩⟩
      try dsimp only
      refine s_at [some (.ref p), some (.int (i : Int)), some v, y3, some rv, some (.ref ow), some tv, some (.ref ot), some (.ref lp), y9, y10, y11, y12, y13, y14, y15, none, none, none, none, none, none, none, none, none, none] rfl ?_
      obtain ⟨run, nf⟩ : PRun (tag 0 (sprR ls)) E ps ∧ NfR E := ok
      have stp := run.steps
      obtain ⟨idl, El⟩ := ids_low stp
      have few : ps.length ≤ 10000 := by
        have h1 := (run.told tl).2.1.few
        have h2 : (sprR ls).length * (sprR ls).length ≤ 96 * 96 := Nat.mul_le_mul sp96 sp96
        omega
      have e37 := e35.trans e7
      have hv := hv.ex e7
      have hrv := hrv.ex e7
      have gow := e7 _ _ gow
      refine q_asgL (el_sndV (K := K) (ev_var rfl) glp bps (by omega) (fun _ => rfl) (fun _ => rfl)) fun bq H8 hbq e8 gbq => ?_
      refine s_at [some (.ref p), some (.int (i : Int)), some v, y3, some rv, some (.ref ow), some tv, some (.ref ot), some (.ref lp), some (.ref bq), y10, y11, y12, y13, y14, y15, none, none, none, none, none, none, none, none, none, none] rfl ?_
      refine q_asgL (el_rngM (n := (sprR ls).length) (fun who => V.int (((ps.map (·.2)).count (who : Int) : Nat) : Int)) (ea_cons (ev_lenR (K := K) (ev_var rfl) (hrv.ex e8)) ea_nil) (by omega) (fun _ => rfl) fun k H9 e9 hk H10 e10 Q10 q10 => ⟨.ref bq, rfl, .inl ⟨rfl, _, sq_of ((e9.trans e10) _ _ gbq)⟩, .int (k : Int), rfl, bq, ps.map (·.2), (k : Int), rfl, rfl, sq_of ((e9.trans e10) _ _ gbq), q10 _ (Ex.refl _)⟩) fun oq H9 hoq e9 goq => ?_
      refine s_at [some (.ref p), some (.int (i : Int)), some v, y3, some rv, some (.ref ow), some tv, some (.ref ot), some (.ref lp), some (.ref bq), some (.ref oq), y11, y12, y13, y14, y15, none, none, none, none, none, none, none, none, none, none] rfl ?_
      rw [often_all fit pos run nf] at goq
      have e79 := e8.trans e9
      have hown : (ownL ls).length ≤ 96 := by rw [own_len]; exact sp96
      refine q_asgLs (els_rng (n := ls.length) (fun k => (posX k (rlL (ixN (ownL ls)) E) 0).map V.int) (ea_cons (ev_lenH (K := K) (ev_var rfl) (hv.ex e79)) ea_nil) (by omega) (by intro _; rfl) (fun k H10 e10 hk => ?_)) fun sq us H10 hsq e10 gsq asq => ?_
      · have hX : (rlL (ixN (ownL ls)) E).length = (E.map (·.1)).length := by
          unfold rlL
          rw [List.length_map, List.length_map]
        rw [← given_posX k (rlL (ixN (ownL ls)) E) (fun j => decide (ixN (ownL ls) (ixN (E.map (·.1)) j) = k)) (fun j c hj => ?_), hX]
        · refine el_enumF (K := K) (i1 := 22) (i2 := 17) (vs := [22, 17]) (te := tVar 7) (σ := ((wipe [some (.ref p), some (.int (i : Int)), some v, y3, some rv, some (.ref ow), some tv, some (.ref ot), some (.ref lp), some (.ref bq), some (.ref oq), y11, y12, y13, y14, y15, none, none, none, none, none, none, none, none, none, none] [18]).set 18 (some (.int (k : Int))))) (l := E.map (·.1)) (fun j => decide (ixN (ownL ls) (ixN (E.map (·.1)) j) = k)) (ev_var rfl) ((e79.trans e10) _ _ got) (by rw [List.length_map]; omega) (by intro _ _; rfl) (by intro _ _; rfl) (fun j x H11 e11 hx => ?_)
          have hxl := idl x (List.mem_of_getElem? hx)
          obtain ⟨u, hu1, hu2, hu3, _⟩ := own_at hxl
          have hxj : ixN (E.map (·.1)) j = x := by
            unfold HH.ixN
            rw [hx]
            rfl
          refine et_is (et_test (ev_op (ev_op (ev_var rfl) (ev_var rfl) (rv_ixL (K := K) (v := .int (u : Int)) (sq_of (((e79.trans e10).trans e11) _ _ gow)) (atI_nat (natsV_at hu2)))) (ev_var rfl) (rv_eq rfl))) ?_
          rw [hxj, hu3]
          exact decide_eq_decide.mpr ⟨fun h => by injection h with h; omega, fun h => by rw [h]⟩
        · unfold rlL at hj
          rw [List.getElem?_map] at hj
          cases hE : E[j]? with
          | none => rw [hE] at hj; cases hj
          | some y =>
            rw [hE] at hj
            have hj := Option.some.inj hj
            subst hj
            have : ixN (E.map (·.1)) j = y.1 := by
              unfold HH.ixN
              rw [List.getElem?_map, hE]
              rfl
            rw [this]
            rfl
      refine s_at [some (.ref p), some (.int (i : Int)), some v, y3, some rv, some (.ref ow), some tv, some (.ref ot), some (.ref lp), some (.ref bq), some (.ref oq), some (.ref sq), y12, y13, y14, y15, none, none, none, none, none, none, none, none, none, none] rfl ?_
      have e70 := e79.trans e10
      refine q_asg0 (c_lst (c_cons (c_call (c_cons (lt_ones (K := K) (σ := [some (.ref p), some (.int (i : Int)), some v, y3, some rv, some (.ref ow), some tv, some (.ref ot), some (.ref lp), some (.ref bq), some (.ref oq), some (.ref sq), y12, y13, y14, y15, none, none, none, none, none, none, none, none, none, none]) (j := 24) (vs := [24]) (te := tVar 6) (ev_var rfl) (htv.ex e70) (by unfold rowsOf; rw [List.length_map]; omega) (by intro _; rfl) (by intro _; rfl) H10 (Ex.refl _) _ fun l1 ws H11 hl1 e11 g11 a11 => ⟨l1, ws, ones (rowsOf E), rfl, .inl (sq_of g11), a11, by unfold ones rowsOf; rw [List.length_map, List.length_map]; omega, fun z9 H12 e12 hz9 => ?_⟩)))))
      have e712 := (e70.trans e11).trans e12
      refine (ev_len (K := K) (ev_var rfl) (sq_of (e712 _ _ glp))) H12 (Ex.refl _) _ fun H13 e13 => ?_
      have hpu : pu.length = ps.length := bps.len
      have gs13 := ((e11.trans e12).trans e13) _ _ gsq
      have as13 : All2 (ListOf H13) us (((List.range ls.length).map fun k => posX k (rlL (ixN (ownL ls)) E) 0).map fun l => l.map V.int) := by
        rw [List.map_map]
        exact All2.mono (fun _ _ r => r.ex ((e11.trans e12).trans e13)) asq
      have plen : (placesG ls).length = ls.length := by
        unfold placesG
        rw [List.length_map, List.length_range]
      refine c_cons (ept_ends (K := K) (σ := [some (.ref p), some (.int (i : Int)), some v, y3, some rv, some (.ref ow), some tv, some (.ref ot), some (.ref lp), some (.ref bq), some (.ref oq), some (.ref sq), y12, y13, y14, y15, none, none, none, none, none, none, none, none, none, none]) (j := 23) (vs := [23]) (te := tVar 11) (ps := placesG ls) (ev_var rfl) gs13 as13 (by rw [List.length_map, List.length_range]; omega) (by rw [plen, List.length_map, List.length_range]) (fun k b hb => ?_) (by intro _; rfl) (by intro _; rfl) H13 (Ex.refl _) _ fun q14 ws14 H14 hq14 e14 g14 b14 => ⟨by show 3 ≤ sizeLine; decide, fun dq hdq => ?_⟩)
      · have hk : k < ls.length := by
          rw [← plen]
          exact (List.getElem?_eq_some_iff.mp hb).1
        obtain ⟨a1, b1, p1, p2, p3⟩ := places_are fit pos stp (nfr_nf nf) hk
        rw [hb] at p3
        have p3 := Option.some.inj p3
        refine ⟨posX k (rlL (ixN (ownL ls)) E) 0, by rw [List.getElem?_map, List.getElem?_range hk]; rfl, by rw [p1, p3], by rw [p2, p3]⟩
      have nd := Ex.new (o := .lst [z9, .int (pu.length : Int), .ref q14]) hdq
      have gdq : (upd H14 dq (.lst [z9, .int (pu.length : Int), .ref q14])) dq = some (.lst [z9, .int (pu.length : Int), .ref q14]) := upd_same
      have e1215 := (e13.trans e14).trans nd
      have e715 := e712.trans e1215
      have hz9 := hz9.ex e1215
      have g14 := nd _ _ g14
      have b14 := b14.ex' nd
      have e915 := (((e10.trans e11).trans e12).trans e1215)
      have goq := e915 _ _ goq
      have hv := hv.ex e715
      have hrv := hrv.ex e715
      have gow := e715 _ _ gow
      have e315 := e37.trans e715
      generalize upd H14 dq (.lst [z9, .int (pu.length : Int), .ref q14]) = H15 at gdq e315 e915 hz9 g14 b14 goq hv hrv gow ⊢
      rw [hpu, pairs_len fit pos run nf] at gdq
      rw [last_pack fit pos stp (nfr_nf nf)] at hz9
      clear hbq hoq hsq hl1 hq14 asq as13
      have x15 : ExB p H H15 := x3.trans (.of e315)
      have b15 : Bx H15 p (1000 * i + 300) := b3.ex e315
      refine g_at [some (.ref p), some (.int (i : Int)), some v, y3, some rv, some (.ref ow), some tv, some (.ref ot), some (.ref lp), some (.ref bq), some (.ref oq), some (.ref sq), some (.ref dq), y13, y14, y15, none, none, none, none, none, none, none, none, none, none] rfl ?_
      try dsimp only
      have lastL : (lastLots ls).length ≤ 1000 := by
        have h1 := (endG_facts ls ls.length).2.1
        have h2 : (lastLots ls).length = (endG ls ls.length).1.length := List.length_map ..
        omega
      have packLa : (packL (lastLots ls)).length ≤ 40000 := by
        have := packL_len (lastLots ls)
        omega
      refine q_when (b := false) (et_is (et_not (et_B (b := true) (fun H16 e16 Q16 q16 => ⟨v, rfl, v, ls, rfl, hv.ex e16, fit, fun z H17 e17 hz => ⟨v, rfl, v, ls, rfl, (hv.ex e16).ex e17, fit, fun H18 e18 => ⟨v, rfl, v, ls, rfl, ((hv.ex e16).ex e17).ex e18, fit, fun k hk => all_stand fit pos hk, fun q9 u9 H19 hq9 e19 g9 b9 => ⟨by show 3 ≤ sizeLine; decide, fun T hT => ?_⟩⟩⟩⟩))) rfl) (fun z => by cases z) fun _ H16 e16 => ?_
      · have nT := Ex.new (o := .lst [z, .int (passingsG ls), .ref q9]) hT
        have e1 := ((e17.trans e18).trans e19).trans nT
        have e0 := e16.trans e1
        exact ⟨.ref dq, rfl, .ref T, .ref dq, rfl, alike_three (sq_of upd_same) (sq_of (e0 _ _ gdq)) (alike_herd packLa (((hz.ex e18).ex e19).ex nT) (hz9.ex e0)) (.inl ⟨rfl, trivial⟩) (alike_pairs (sq_of (nT _ _ g9)) (sq_of (e0 _ _ g14)) (b9.ex' nT).be (b14.ex' e0).be (by rw [plen]; omega)), fun H20 e20 => q16 H20 (e1.trans e20)⟩
      refine ⟨v, rfl, v, ls, rfl, hv.ex e16, fit, fun nq H17 hnq e17 gnq => ?_⟩
      refine g_at [some (.ref p), some (.int (i : Int)), some v, y3, some rv, some (.ref ow), some tv, some (.ref ot), some (.ref lp), some (.ref bq), some (.ref oq), some (.ref sq), some (.ref dq), some (.ref nq), y14, y15, none, none, none, none, none, none, none, none, none, none] rfl ?_
      try dsimp only
      have e1517 := e16.trans e17
      have tol : (endG ls ls.length).2.2.length = ls.length := (endG_facts ls ls.length).2.2.2
      refine q_when (b := false) (et_or (a := false) (b := false) (et_is (et_not (et_B (b := true) (fun H18 e18 Q18 q18 => c_call (c_cons ((el_natsM (K := K) (σ := [some (.ref p), some (.int (i : Int)), some v, y3, some rv, some (.ref ow), some tv, some (.ref ot), some (.ref lp), some (.ref bq), some (.ref oq), some (.ref sq), some (.ref dq), some (.ref nq), y14, y15, none, none, none, none, none, none, none, none, none, none]) (j := 25) (vs := [25]) (te := tVar 5) (tb := tOp (rIxL K) (tVar 13) (tVar 25)) (l := ownL ls) (fun o => V.int ((endG ls ls.length).2.2.getD o 0)) (ev_var rfl) ((e1517.trans e18) _ _ gow) (by omega) (by intro _; rfl) fun o H19 e19 ho => ev_op (ev_var rfl) (ev_var rfl) (rv_ixL (K := K) (sq_of ((e18.trans e19) _ _ gnq)) (getD_at (by rw [tol]; exact (spr_sorted ls ls.length).2 o ho)))) H18 (Ex.refl _) _ fun l9 H19 hl9 e19 g9 => ⟨.ref oq, rfl, .ref l9, .ref oq, rfl, (alike_flatL (sq_of g9) (sq_of (((e1517.trans e18).trans e19) _ _ goq)) (fun x hx => ?_) (by rw [List.length_map]; omega)).up.up, fun H20 e20 => q18 H20 (e19.trans e20)⟩))))) rfl) fun _ => et_is (et_test (ev_op (ev_len (K := K) (ev_var rfl) (sq_of gnq)) (ev_lenH (K := K) (ev_var rfl) (hv.ex e1517)) (rv_ne rfl))) (by rw [List.length_map, tol]; simp)) (fun z => by cases z) fun _ H18 e18 => ?_
      · obtain ⟨o, _, rfl⟩ := List.mem_map.mp hx
        trivial
      have e1518 := e1517.trans e18
      refine ⟨rv, rfl, 1, rfl, rv, sprR ls, false, rfl, hrv.ex e1518, by omega, tl, fun lq3 ot3 lp3 bv pu3 B ps3 H19 e19 gq3 hbv _ _ _ ok3 => ⟨lq3, _, 0, bv, rfl, rfl, st_of gq3, rfl, ?_⟩⟩
      refine g_at [some (.ref p), some (.int (i : Int)), some v, y3, some rv, some (.ref ow), some tv, some (.ref ot), some (.ref lp), some (.ref bq), some (.ref oq), some (.ref sq), some (.ref dq), some (.ref nq), some bv, y15, none, none, none, none, none, none, none, none, none, none] rfl ?_
      try dsimp only
      obtain ⟨fst, ff⟩ : FSteps (tag 0 (sprR ls)) B ∧ FfR B := ok3
      have e1519 := e1518.trans e19
      have Bl : (rowsOf B).length = (sprR ls).length := by
        have h1 := fst.len
        unfold rowsOf
        rw [List.length_map, h1]
        have h2 := congrArg List.length (tag0_fst (sprR ls))
        rw [List.length_map, List.length_range] at h2
        exact h2
      have fp := first_pack fit pos fst (ffr_ff ff)
      have firstL : (firstLots ls).length ≤ 1000 := by
        have h1 := (begG_facts ls ls.length (Nat.le_refl _)).2.1
        have h2 : (firstLots ls).length = (begG ls ls.length ls.length).1.length := List.length_map ..
        omega
      have packFi : (packL (firstLots ls)).length ≤ 40000 := by
        have := packL_len (firstLots ls)
        omega
      refine q_when (b := false) (et_is (et_not (et_B (b := true) (fun H20 e20 Q20 q20 => ⟨v, rfl, v, ls, rfl, (hv.ex e1519).ex e20, fit, fun z H21 e21 hz => ?_⟩))) rfl) (fun z => by cases z) fun _ H20 e20 => ?_
      · refine c_cons (c_call (c_cons (lt_ones (K := K) (σ := [some (.ref p), some (.int (i : Int)), some v, y3, some rv, some (.ref ow), some tv, some (.ref ot), some (.ref lp), some (.ref bq), some (.ref oq), some (.ref sq), some (.ref dq), some (.ref nq), some bv, y15, none, none, none, none, none, none, none, none, none, none]) (j := 24) (vs := [24]) (te := tVar 14) (ev_var rfl) ((hbv.ex e20).ex e21) (by omega) (by intro _; rfl) (by intro _; rfl) H21 (Ex.refl _) _ fun l2 ws2 H22 hl2 e22 g22 a22 => ⟨l2, ws2, ones (rowsOf B), rfl, .inl (sq_of g22), a22, by unfold ones; rw [List.length_map]; omega, fun z2 H23 e23 hz2 => ⟨z, z2, rfl, ?_, fun H24 e24 => q20 H24 (((e21.trans e22).trans e23).trans e24)⟩⟩)))
        rw [fp] at hz2
        exact (alike_herd packFi ((hz.ex e22).ex e23) hz2).up
      have e1520 := e1519.trans e20
      have lpk := last_pack fit pos stp (nfr_nf nf)
      have sprn : 0 < (sprR ls).length := by
        have h0 : ls[0]? = some ls[0] := List.getElem?_eq_getElem lp0
        have h1 := mem_spr (List.getElem_mem lp0) (pos _ (List.getElem_mem lp0))
        exact List.length_pos_of_mem h1
      have fitE : ∀ l ∈ packL (lastLots ls), 0 ≤ l.2.1 ∧ 1 ≤ l.2.2 := fun l hl => by
        rw [← lpk] at hl
        have pp := packL_pos (ones_pos (rowsOf E)) l hl
        refine ⟨?_, pp⟩
        have h2 := mem_spr hl pp
        rw [packL_spr (ones_pos _), ones_spr] at h2
        obtain ⟨c, hc, h3⟩ := List.mem_map.mp h2
        have h4 := (run.told tl).2.1.tl c hc
        rw [h3] at h4
        exact h4
      have lone : 0 < (packL (lastLots ls)).length := by
        rw [← lpk]
        refine packL_ne ?_
        unfold ones rowsOf
        rw [List.length_map, List.length_map, El]
        exact sprn
      refine q_when (b := false) (et_is (et_test (ev_op (x := .bl true) (y := .bl true) (z := .bl false) (fun H21 e21 Q21 q21 => ⟨.ref dq, rfl, dq, _, ((0 : Nat) : Int), z9, rfl, rfl, sq_of ((e1520.trans e21) _ _ gdq), atI_nat (j := 0) rfl, z9, packL (lastLots ls), rfl, hz9.ex (e1520.trans e21), lone, by have := packL_len (lastLots ls); omega, fitE, packL_adj _, fun H22 e22 => q21 H22 e22⟩) ev_c (fun H21 e21 Q21 q21 => ⟨true, true, rfl, rfl, q21 _ (Ex.refl _)⟩))) rfl) (fun z => by cases z) fun _ H21 e21 => ?_
      have e1521 := e1520.trans e21
      refine q_asgLs (R := fun us H22 => ∃ m, m ≤ 2 ∧ us.length = m ∧ All2 (fun u hs => HerdAt K H22 u hs) us ([packL (lastLots ls), packL (firstLots ls)].take m)) (fun H22 e22 Q22 q22 => ?_) fun eq us22 H22 heq e22 geq hR => ?_
      · refine (et_test (ev_op (ev_lenR (K := K) (ev_var rfl) (hrv.ex (e1521.trans e22))) ev_c rv_I0)) H22 (Ex.refl _) _ fun H23 e23 => ?_
        have e1523 := (e1521.trans e22).trans e23
        refine ite2 (fun hc => ?_) (fun hc => ⟨by show 0 ≤ sizeLine; decide, fun r hr => ?_⟩)
        · refine ⟨rv, rfl, rv, sprR ls, rfl, hrv.ex e1523, by omega, tl, fun q1 H24 L1 e24 la1 s1 n1 => ?_⟩
          obtain ⟨v1, ot1, o1, h11, h12, h13, h14⟩ := la1.ex
          refine ⟨q1, _, ((0 : Nat) : Int), v1, rfl, rfl, st_of h11, atI_nat (j := 0) rfl, ?_⟩
          refine ⟨rv, rfl, rv, sprR ls, rfl, hrv.ex (e1523.trans e24), by omega, tl, fun q2 H25 L2 e25 la2 s2 n2 => ?_⟩
          obtain ⟨v2, ot2, o2, h21, h22, h23, h24⟩ := la2.ex
          refine ⟨q2, _, ((0 : Nat) : Int), v2, rfl, rfl, st_of h21, atI_nat (j := 0) rfl, by show 2 ≤ sizeLine; decide, fun T hT => ⟨T, rfl, ⟨_, st_of upd_same⟩, fun D hD => ?_⟩⟩
          have nT := Ex.new (o := .tup [v1, v2]) hT
          have gT : (upd H25 T (.tup [v1, v2])) T = some (.tup [v1, v2]) := upd_same
          have r1 : RowAt K (upd H25 T (.tup [v1, v2])) v1 (rowsOf L1) := (h12.ex e25).ex nT
          have r2 : RowAt K (upd H25 T (.tup [v1, v2])) v2 (rowsOf L2) := h22.ex nT
          have l1 : (rowsOf L1).length ≤ 1000 := by
            have := (ids_low s1).2
            unfold rowsOf
            rw [List.length_map]
            omega
          have l2 : (rowsOf L2).length ≤ 1000 := by
            have h1 := s2.len
            have h2 := congrArg List.length (tag0_fst (sprR ls))
            rw [List.length_map, List.length_range] at h2
            unfold rowsOf
            rw [List.length_map]
            omega
          have e2325 := (e24.trans e25).trans nT
          have pk1 := last_pack fit pos s1 (nfr_nf n1)
          have pk2 := first_pack fit pos s2 (ffr_ff n2)
          generalize upd H25 T (.tup [v1, v2]) = H26 at gT r1 r2 e2325 hD ⊢
          refine in_it (walk_tup (xs := [v1, v2])) (fun k H27 => Ex H26 H27 ∧ ∃ us, H27 D = some (.lst us) ∧ us.length = k ∧ All2 (fun u hs => HerdAt K H27 u hs) us ([packL (lastLots ls), packL (firstLots ls)].take k)) ⟨Ex.new hD, [], upd_same, rfl, .nil⟩ (fun k H27 _ w => st_of (w.1 _ _ gT)) (fun k x H27 H28 hk w y => ?_) (fun H27 w => ?_)
          · obtain ⟨rfl, hx⟩ := y
            obtain ⟨w1, us, w2, w3, w4⟩ := w
            have put : ∀ z hs H29, Ex H28 H29 → HerdAt K H29 z hs → ([packL (lastLots ls), packL (firstLots ls)].take (k + 1)) = ([packL (lastLots ls), packL (firstLots ls)].take k) ++ [hs] → ∃ acc, H29 D = some (.lst acc) ∧ acc.length < sizeLine ∧ (Ex H26 (upd H29 D (.lst (acc ++ [z]))) ∧ ∃ us, (upd H29 D (.lst (acc ++ [z]))) D = some (.lst us) ∧ us.length = k + 1 ∧ All2 (fun u hs => HerdAt K (upd H29 D (.lst (acc ++ [z]))) u hs) us ([packL (lastLots ls), packL (firstLots ls)].take (k + 1))) := fun z hs H29 e29 hz et => by
              have g29 := e29 _ _ w2
              refine ⟨us, g29, sz_lt (by rw [w3]; exact Nat.lt_of_lt_of_le hk (by show 2 ≤ 100000; decide)), Ex.mut (w1.trans e29) hD, us ++ [z], upd_same, by rw [List.length_append, w3]; rfl, ?_⟩
              rw [et]
              exact All2.app (All2.mono (fun _ _ h => HerdAt.exL (h.ex e29) (ExB.refl _ _).upd g29) w4) (.cons (HerdAt.exL hz (ExB.refl _ _).upd g29) .nil)
            match k, hx with
            | 0, hx =>
              cases hx
              refine ⟨rfl, t_yes ⟨v1, rfl, v1, rowsOf L1, rfl, r1.ex w1, l1, fun z H29 e29 hz => ?_⟩⟩
              rw [pk1] at hz
              exact put z _ H29 e29 hz rfl
            | 1, hx =>
              cases hx
              refine ⟨rfl, t_yes ⟨v2, rfl, v2, rowsOf L2, rfl, r2.ex w1, l2, fun z H29 e29 hz => ?_⟩⟩
              rw [pk2] at hz
              exact put z _ H29 e29 hz rfl
            | n + 2, hx => cases hx
          · obtain ⟨w1, us, w2, w3, w4⟩ := w
            have e2227 := (e23.trans e2325).trans w1
            exact q22 D us H27 (fresh_back (e23.trans e2325) hD) e2227 w2 ⟨2, Nat.le_refl _, w3, w4⟩
        · exact q22 r [] _ (fresh_back e23 hr) (e23.trans (Ex.new hr)) upd_same ⟨0, by decide, rfl, .nil⟩
      obtain ⟨m, hm2, hml, hal⟩ := hR
      refine s_at [some (.ref p), some (.int (i : Int)), some v, y3, some rv, some (.ref ow), some tv, some (.ref ot), some (.ref lp), some (.ref bq), some (.ref oq), some (.ref sq), some (.ref dq), some (.ref nq), some bv, some (.ref eq), none, none, none, none, none, none, none, none, none, none] rfl ?_
      have e1522 := e1521.trans e22
      refine s_when (b := false) (et_is (et_not (et_B (b := true) (fun H23 e23 Q23 q23 => ?_))) rfl) (fun z => by cases z) fun _ H23 e23 => ?_
      · refine ⟨.ref eq, rfl, .ref dq, rfl, dq, _, ((0 : Nat) : Int), z9, rfl, rfl, sq_of ((e1522.trans e23) _ _ gdq), atI_nat (j := 0) rfl, ?_⟩
        refine ⟨v, rfl, v, ls, rfl, hv.ex (e1522.trans e23), fit, fun zf H24 e24 hzf => ⟨by show 2 ≤ sizeLine; decide, fun T hT => ?_⟩⟩
        have nT := Ex.new (o := .lst [z9, zf]) hT
        have gT : (upd H24 T (.lst [z9, zf])) T = some (.lst [z9, zf]) := upd_same
        have hzf := hzf.ex nT
        have e2325 := e24.trans nT
        generalize upd H24 T (.lst [z9, zf]) = H25 at gT hzf e2325 ⊢
        refine ⟨.ref eq, rfl, eq, us22, rfl, .inl (sq_of ((e23.trans e2325) _ _ geq)), _, rfl, T, _, rfl, sq_of gT, fun T2 hT2 => ?_⟩
        have nT2 := Ex.new (o := .lst (cutV [z9, zf] none (some (us22.length : Int)))) hT2
        have gT2 : (upd H25 T2 (.lst (cutV [z9, zf] none (some (us22.length : Int))))) T2 = some (.lst ([z9, zf].take m)) := by
          rw [upd_same, cut_to, hml]
        have e2327 := e2325.trans nT2
        have hzf := hzf.ex nT2
        generalize upd H25 T2 (.lst (cutV [z9, zf] none (some (us22.length : Int)))) = H27 at gT2 e2327 hzf ⊢
        have e2227 := e23.trans e2327
        have hz97 := hz9.ex (e1522.trans e2227)
        have dueL : All2 (fun u hs => HerdAt K H27 u hs) [z9, zf] [packL (lastLots ls), packL (firstLots ls)] := .cons hz97 (.cons hzf .nil)
        have dueM := all2_take m dueL
        have endM : All2 (fun u hs => HerdAt K H27 u hs) us22 ([packL (lastLots ls), packL (firstLots ls)].take m) := All2.mono (fun _ _ h => h.ex e2227) hal
        refine ⟨.ref eq, .ref T2, rfl, .inr ⟨eq, T2, us22, [z9, zf].take m, rfl, rfl, .inl ⟨sq_of (e2227 _ _ geq), sq_of gT2⟩, by rw [All2.len endM, All2.len dueM], by omega, fun k u u2 hu hu2 => ?_⟩, fun H28 e28 => q23 H28 (e2327.trans e28)⟩
        obtain ⟨hs, hhs, hat⟩ := All2.get endM hu
        obtain ⟨hs2, hhs2, hat2⟩ := All2.get dueM hu2
        rw [hhs] at hhs2
        have hhs2 := Option.some.inj hhs2
        subst hhs2
        refine alike_herd ?_ hat hat2
        have hmem := List.mem_of_mem_take (List.mem_of_getElem? hhs)
        rcases List.mem_cons.mp hmem with rfl | hmem
        · exact packLa
        · rw [List.mem_singleton.mp hmem]
          exact packFi
      · exact ⟨_, _, _, _, _, _, _, _, _, _, _, _, _, _, _, rfl, x15.trans (.of (e1522.trans e23)), (b15.ex (e1522.trans e23)).le (by omega)⟩
    · obtain ⟨y1, y2, y3, y4, y5, y6, y7, y8, y9, y10, y11, y12, y13, y14, y15, rfl, x0, b0⟩ := hW
      exact q H0 x0
end
end K78
set_option maxHeartbeats 4000000
namespace K78
open PySem PySem.Spec PyProof.Rows L2 Evl HH RZ
section
variable {P : Program} {w : World} {K : PySem.W.Frag} {mg : Str → Option Value} {base : Heap}
theorem ok_law {f f1 f2 f3 : Addr} {fd fd1 fd2 fd3 : FuncData} (F : FnP K "law" s_law f fd) (h_law_folded : Has P w K mg base 1 "_law_folded" ["_law_script", "_law_many"] (spFolded K) f1 fd1) (h_law_dip : Has P w K mg base 1 "_law_dip" ["_law_script", "_law_k"] (spDip K) f2 fd2) (h_law_right : Has P w K mg base 6 "_law_right" ["_law_box"] spRight f3 fd3)
    (m_range : mg "range" = none) (m_len : mg "len" = none) (m_all : mg "all" = none) (m_max : mg "max" = none) : FnOk P w K mg base CX0 7 f fd ["_law_script"] (spLaw K) := by
  refine F.ok sc_law (fun vs H Q E h => ?_) (fun cdv A outer s H vs Q E hr h => ?_)
  · obtain ⟨a, ns, rfl, _⟩ := h
    rfl
  · obtain ⟨a, ns, rfl, hS, hlen, q⟩ := h
    refine ⟨_, PSs.nox (pss_cons (ps_set (i := 1) sc_law.nd rfl (.inr rfl) (pe_call h_law_folded.G (hr.mono (by decide)) (by rfl) h_law_folded.g h_law_folded.kp h_law_folded.b .nil pass0 (pa_cons (pv 0) (pa_cons pe_int pa_nil))))
      (pss_one (ps_ret (pe_callB (cr_all rfl) (by rfl) m_all (by decide +kernel) (pa_cons (pe_lc (own := [("_law_k", 2)]) (g := gName 2) (by rfl) sc_law.nd (pi_range1 (by rfl) m_range (pa_cons (pe_callB (call_max2 rfl) (by rfl) m_max (by decide +kernel) (pa_cons pe_int (pa_cons (pe_callB call_len_seq (by rfl) m_len PySem.boot_len (pa_cons (pv 1) pa_nil)) pa_nil))) pa_nil)) (blkOk_by (own := [("_law_k", 2)]) (N := ["_law_script", "_law_cells", "_law_k"]) (sc := defScope s_law) (by decide +kernel)) (fun _ _ _ _ _ => (pg_name (i := 2) sc_law.nd rfl (Or.inl rfl))) (fun _ _ _ _ _ => pts_nil) (fun _ _ _ _ _ => (pe_call h_law_right.G (hr.mono (by decide)) (by rfl) h_law_right.g h_law_right.kp h_law_right.b .nil pass0 (pa_cons (pe_call h_law_dip.G (hr.mono (by decide)) (by rfl) h_law_dip.g h_law_dip.kp h_law_dip.b .nil pass0 (pa_cons (pv 1) (pa_cons (pv 2) pa_nil))) pa_nil)))) pa_nil))))), ?_⟩
    refine q_call ⟨.ref a, rfl, a, 2, ns, rfl, by decide, by decide, hS, hlen, fun l H1 ms hl e1 hm h1 => ?_⟩
    have hn : 0 ≤ (if ((ms.map V.int).length : Int) > 1 then ((ms.map V.int).length : Int) else 1) ∧ (if ((ms.map V.int).length : Int) > 1 then ((ms.map V.int).length : Int) else 1) ≤ 10 := by
      rw [List.length_map]
      split <;> omega
    refine s_ret (D := { nx := fun _ H' => Q .non H', rt := Q }) (ev_allT (n := (if ((ms.map V.int).length : Int) > 1 then ((ms.map V.int).length : Int) else 1).toNat) ?_) fun H2 e2 => q H2
    have key := el_lcR1 (σ := [some (.ref a), some (.ref l), none]) (H := H1) (ta := tCons (tCB rMax2 (tCons (tC (.int 1)) (tCons (tCB (rLenS K) (tCons (tVar 1) tNil)) tNil))) tNil) (j := 2) (vs := [2]) (t := tYes) (te := tCall spRight [] E0 (tCons (tCall (spDip K) [] E0 (tCons (tVar 1) (tCons (tVar 2) tNil))) tNil)) (fun _ => true) (fun _ => .bl true) (ea_cons (ev_max2 ev_c (ev_len (ev_var rfl) (sq_of h1))) ea_nil) ⟨hn.1, by omega⟩ (fun x => rfl) (fun i H1 e1 hi => et_yes) (fun i H3 e3 hi _ => ?_)
    · have e0 : given (if ((ms.map V.int).length : Int) > 1 then ((ms.map V.int).length : Int) else 1).toNat (fun _ => true) (fun _ => V.bl true) = (List.replicate (if ((ms.map V.int).length : Int) > 1 then ((ms.map V.int).length : Int) else 1).toNat true).map V.bl := by
        rw [given_all _ (fun _ => true)]
        congr 1
        rw [List.eq_replicate_iff]
        refine ⟨by rw [List.length_map, List.length_range], fun b hb => ?_⟩
        obtain ⟨_, _, rfl⟩ := List.mem_map.mp hb
        rfl
      rw [e0] at key
      exact key
    · intro H4 e4 Q4 q4
      refine ⟨.ref l, rfl, .int (i : Int), rfl, l, i, ms, rfl, sq_of ((e3.trans e4) _ _ h1), by omega, fun b H5 hb e5 hx => ?_⟩
      refine ⟨b, rfl, hx, fun H6 x6 => q4 H6 fun c o hc => x6 c o (ne_of_none hc hb) (e5 c o hc)⟩
end
end K78
set_option maxHeartbeats 0
namespace K78
open PySem PySem.Spec PyProof.Rows L2 Evl HH RZ
def d_is_number : He.DefD := ⟨("is_number", none), "is_number", "is_number", defArgs s_is_number, defBody s_is_number, defScope s_is_number, [], []⟩
def d_is_lot : He.DefD := ⟨("is_lot", none), "is_lot", "is_lot", defArgs s_is_lot, defBody s_is_lot, defScope s_is_lot, [], []⟩
def d_is_herd : He.DefD := ⟨("is_herd", none), "is_herd", "is_herd", defArgs s_is_herd, defBody s_is_herd, defScope s_is_herd, [], []⟩
def d_together : He.DefD := ⟨("together", none), "together", "together", defArgs s_together, defBody s_together, defScope s_together, [], []⟩
def d_herd_of : He.DefD := ⟨("herd_of", none), "herd_of", "herd_of", defArgs s_herd_of, defBody s_herd_of, defScope s_herd_of, [], []⟩
def d_many_passed : He.DefD := ⟨("many_passed", none), "many_passed", "many_passed", defArgs s_many_passed, defBody s_many_passed, defScope s_many_passed, [], []⟩
def d_pass_lots : He.DefD := ⟨("pass_lots", none), "pass_lots", "pass_lots", defArgs s_pass_lots, defBody s_pass_lots, defScope s_pass_lots, [], []⟩
def d_herd_end : He.DefD := ⟨("herd_end", none), "herd_end", "herd_end", defArgs s_herd_end, defBody s_herd_end, defScope s_herd_end, [], []⟩
def d_herd_last : He.DefD := ⟨("herd_last", none), "herd_last", "herd_last", defArgs s_herd_last, defBody s_herd_last, defScope s_herd_last, [], []⟩
def d_fall_lots : He.DefD := ⟨("fall_lots", none), "fall_lots", "fall_lots", defArgs s_fall_lots, defBody s_fall_lots, defScope s_fall_lots, [], []⟩
def d_herd_first : He.DefD := ⟨("herd_first", none), "herd_first", "herd_first", defArgs s_herd_first, defBody s_herd_first, defScope s_herd_first, [], []⟩
def d_herd_passed : He.DefD := ⟨("herd_passed", none), "herd_passed", "herd_passed", defArgs s_herd_passed, defBody s_herd_passed, defScope s_herd_passed, [], []⟩
def d_herd_passings : He.DefD := ⟨("herd_passings", none), "herd_passings", "herd_passings", defArgs s_herd_passings, defBody s_herd_passings, defScope s_herd_passings, [], []⟩
def d_herd_places : He.DefD := ⟨("herd_places", none), "herd_places", "herd_places", defArgs s_herd_places, defBody s_herd_places, defScope s_herd_places, [], []⟩
def d_pass_all : He.DefD := ⟨("pass_all", none), "pass_all", "pass_all", defArgs s_pass_all, defBody s_pass_all, defScope s_pass_all, [], []⟩
def d_fall_all : He.DefD := ⟨("fall_all", none), "fall_all", "fall_all", defArgs s_fall_all, defBody s_fall_all, defScope s_fall_all, [], []⟩
def d_row_and_order : He.DefD := ⟨("row_and_order", none), "row_and_order", "row_and_order", defArgs s_row_and_order, defBody s_row_and_order, defScope s_row_and_order, [], []⟩
def d_last : He.DefD := ⟨("last", none), "last", "last", defArgs s_last, defBody s_last, defScope s_last, [], []⟩
def d_first : He.DefD := ⟨("first", none), "first", "first", defArgs s_first, defBody s_first, defScope s_first, [], []⟩
def d_law_dip : He.DefD := ⟨("_law_dip", none), "_law_dip", "_law_dip", defArgs s_law_dip, defBody s_law_dip, defScope s_law_dip, [], []⟩
def d_law_take : He.DefD := ⟨("_law_take", none), "_law_take", "_law_take", defArgs s_law_take, defBody s_law_take, defScope s_law_take, [], []⟩
def d_law_folded : He.DefD := ⟨("_law_folded", none), "_law_folded", "_law_folded", defArgs s_law_folded, defBody s_law_folded, defScope s_law_folded, [], []⟩
def d_law_same : He.DefD := ⟨("_law_same", none), "_law_same", "_law_same", defArgs s_law_same, defBody s_law_same, defScope s_law_same, [], []⟩
def d_law_of : He.DefD := ⟨("_law_of", none), "_law_of", "_law_of", defArgs s_law_of, defBody s_law_of, defScope s_law_of, [], []⟩
def d_law_row : He.DefD := ⟨("_law_row", none), "_law_row", "_law_row", defArgs s_law_row, defBody s_law_row, defScope s_law_row, [], []⟩
def d_law_packed : He.DefD := ⟨("_law_packed", none), "_law_packed", "_law_packed", defArgs s_law_packed, defBody s_law_packed, defScope s_law_packed, [], []⟩
def d_law_herd : He.DefD := ⟨("_law_herd", none), "_law_herd", "_law_herd", defArgs s_law_herd, defBody s_law_herd, defScope s_law_herd, [], []⟩
def d_law_spread : He.DefD := ⟨("_law_spread", none), "_law_spread", "_law_spread", defArgs s_law_spread, defBody s_law_spread, defScope s_law_spread, [], []⟩
def d_law_owners : He.DefD := ⟨("_law_owners", none), "_law_owners", "_law_owners", defArgs s_law_owners, defBody s_law_owners, defScope s_law_owners, [], []⟩
def d_law_led : He.DefD := ⟨("_law_led", none), "_law_led", "_law_led", defArgs s_law_led, defBody s_law_led, defScope s_law_led, [], []⟩
def d_law_right : He.DefD := ⟨("_law_right", none), "_law_right", "_law_right", defArgs s_law_right, defBody s_law_right, defScope s_law_right, [], []⟩
def d_law : He.DefD := ⟨("law", none), "law", "law", defArgs s_law, defBody s_law, defScope s_law, [], []⟩
def fnsL : List He.DefD := [d_is_number, d_is_lot, d_is_herd, d_together, d_herd_of, d_many_passed, d_pass_lots, d_herd_end, d_herd_last, d_fall_lots, d_herd_first, d_herd_passed, d_herd_passings, d_herd_places, d_pass_all, d_fall_all, d_row_and_order, d_last, d_first, d_law_dip, d_law_take, d_law_folded, d_law_same, d_law_of, d_law_row, d_law_packed, d_law_herd, d_law_spread, d_law_owners, d_law_led, d_law_right, d_law]
def faL : List He.Fa := [.glo "is_number", .glo "is_lot", .glo "is_herd", .glo "together", .glo "herd_of", .glo "many_passed", .glo "pass_lots", .glo "herd_end", .glo "herd_last", .glo "fall_lots", .glo "herd_first", .glo "herd_passed", .glo "herd_passings", .glo "herd_places", .glo "pass_all", .glo "fall_all", .glo "row_and_order", .glo "last", .glo "first", .glo "_law_dip", .glo "_law_take", .glo "_law_folded", .glo "_law_same", .glo "_law_of", .glo "_law_row", .glo "_law_packed", .glo "_law_herd", .glo "_law_spread", .glo "_law_owners", .glo "_law_led", .glo "_law_right", .glo "law", .free "abs", .free "all", .free "bool", .free "enumerate", .free "int", .free "isinstance", .free "len", .free "list", .free "max", .free "min", .free "range", .free "reversed", .free "str", .free "sum", .free "tuple", .free "zip"]
abbrev R : PySem.W.OpenRow := PySem.W.OpenLaw.row PySem.Challenge.rw_hayherd_k78_whole_lots_beside_each_one
abbrev hk : PySem.W.Hook := He.hookD 4 faL fnsL
def ob (s : PySem.W.SharedT) : He.AlD := He.obsDG 4 faL fnsL (HandSHeadRun.getT s)
theorem ob_eq (s : PySem.W.SharedT) : ob s = hk.obs s.abs := He.obsDG_eq (HandSHeadRun.getT_eq s)
def loose0 : List PySem.Str := ["is_number", "is_lot", "is_herd", "together", "herd_of", "many_passed", "pass_lots", "herd_end", "herd_last", "fall_lots", "herd_first", "herd_passed", "herd_passings", "herd_places", "pass_all", "fall_all", "row_and_order", "last", "first", "_law_dip", "_law_take", "_law_folded"]
def loose1 : List PySem.Str := ["_law_same", "_law_of", "_law_row", "_law_packed", "_law_herd", "_law_spread", "_law_owners", "_law_led", "_law_right"]
def loose : List PySem.Str := loose0 ++ loose1
theorem run (w : World) : HandSHeadRun.RunEq R (PySem.W.view R.prog [35]) hk ob 3000 loose w := by
  intro os
  kernel_rfl
end K78
set_option maxHeartbeats 0
namespace K78
open PySem PySem.Spec PyProof.Rows L2 Evl HH RZ
theorem facts {P : Program} {w : World} {K : PySem.W.Frag} {h : Heap} {mg : Str → Option Value} {f : Addr} (X : K.In h) (G : h.Ns mainGlobals mg) (hfa : mg ("law" : Str) = some (.ref f)) (c : He.SaysD faL fnsL K) :
    ∃ fd : FuncData, (∀ (s : Shared) (v : Value), BindsTo s fd ⟨[v], []⟩ [("_law_script", v)]) ∧ ∀ base : Heap, K.In base → base.Ns mainGlobals mg → FnOk P w K mg base CX0 7 f fd ["_law_script"] (spLaw K) := by
  obtain ⟨fd_is_number, F_is_number⟩ := c.def_ 0 (d := d_is_number) rfl
  have g_is_number := He.glo_ok X G (c.fact 0 (f := .glo "is_number") rfl)
  have b_is_number : Binds K fd_is_number ["thing"] [] := F_is_number.bindsN fun _ _ _ _ _ _ us hl => match us, hl with | [_], _ => rfl
  obtain ⟨fd_is_lot, F_is_lot⟩ := c.def_ 1 (d := d_is_lot) rfl
  have g_is_lot := He.glo_ok X G (c.fact 1 (f := .glo "is_lot") rfl)
  have b_is_lot : Binds K fd_is_lot ["thing"] [] := F_is_lot.bindsN fun _ _ _ _ _ _ us hl => match us, hl with | [_], _ => rfl
  obtain ⟨fd_is_herd, F_is_herd⟩ := c.def_ 2 (d := d_is_herd) rfl
  have g_is_herd := He.glo_ok X G (c.fact 2 (f := .glo "is_herd") rfl)
  have b_is_herd : Binds K fd_is_herd ["thing"] [] := F_is_herd.bindsN fun _ _ _ _ _ _ us hl => match us, hl with | [_], _ => rfl
  obtain ⟨fd_together, F_together⟩ := c.def_ 3 (d := d_together) rfl
  have g_together := He.glo_ok X G (c.fact 3 (f := .glo "together") rfl)
  have b_together : Binds K fd_together ["lots"] [] := F_together.bindsN fun _ _ _ _ _ _ us hl => match us, hl with | [_], _ => rfl
  obtain ⟨fd_herd_of, F_herd_of⟩ := c.def_ 4 (d := d_herd_of) rfl
  have g_herd_of := He.glo_ok X G (c.fact 4 (f := .glo "herd_of") rfl)
  have b_herd_of : Binds K fd_herd_of ["row"] [] := F_herd_of.bindsN fun _ _ _ _ _ _ us hl => match us, hl with | [_], _ => rfl
  obtain ⟨fd_many_passed, F_many_passed⟩ := c.def_ 5 (d := d_many_passed) rfl
  have g_many_passed := He.glo_ok X G (c.fact 5 (f := .glo "many_passed") rfl)
  have b_many_passed : Binds K fd_many_passed ["spare", "toll", "many"] [] := F_many_passed.bindsN fun _ _ _ _ _ _ us hl => match us, hl with | [_, _, _], _ => rfl
  obtain ⟨fd_pass_lots, F_pass_lots⟩ := c.def_ 6 (d := d_pass_lots) rfl
  have g_pass_lots := He.glo_ok X G (c.fact 6 (f := .glo "pass_lots") rfl)
  have b_pass_lots : Binds K fd_pass_lots ["line", "strengths", "herd", "who"] [] := F_pass_lots.bindsN fun _ _ _ _ _ _ us hl => match us, hl with | [_, _, _, _], _ => rfl
  obtain ⟨fd_herd_end, F_herd_end⟩ := c.def_ 7 (d := d_herd_end) rfl
  have g_herd_end := He.glo_ok X G (c.fact 7 (f := .glo "herd_end") rfl)
  have b_herd_end : Binds K fd_herd_end ["herd"] [] := F_herd_end.bindsN fun _ _ _ _ _ _ us hl => match us, hl with | [_], _ => rfl
  obtain ⟨fd_herd_last, F_herd_last⟩ := c.def_ 8 (d := d_herd_last) rfl
  have g_herd_last := He.glo_ok X G (c.fact 8 (f := .glo "herd_last") rfl)
  have b_herd_last : Binds K fd_herd_last ["herd"] [] := F_herd_last.bindsN fun _ _ _ _ _ _ us hl => match us, hl with | [_], _ => rfl
  obtain ⟨fd_fall_lots, F_fall_lots⟩ := c.def_ 9 (d := d_fall_lots) rfl
  have g_fall_lots := He.glo_ok X G (c.fact 9 (f := .glo "fall_lots") rfl)
  have b_fall_lots : Binds K fd_fall_lots ["line", "strengths", "herd", "who"] [] := F_fall_lots.bindsN fun _ _ _ _ _ _ us hl => match us, hl with | [_, _, _, _], _ => rfl
  obtain ⟨fd_herd_first, F_herd_first⟩ := c.def_ 10 (d := d_herd_first) rfl
  have g_herd_first := He.glo_ok X G (c.fact 10 (f := .glo "herd_first") rfl)
  have b_herd_first : Binds K fd_herd_first ["herd"] [] := F_herd_first.bindsN fun _ _ _ _ _ _ us hl => match us, hl with | [_], _ => rfl
  obtain ⟨fd_herd_passed, F_herd_passed⟩ := c.def_ 11 (d := d_herd_passed) rfl
  have g_herd_passed := He.glo_ok X G (c.fact 11 (f := .glo "herd_passed") rfl)
  have b_herd_passed : Binds K fd_herd_passed ["herd"] [] := F_herd_passed.bindsN fun _ _ _ _ _ _ us hl => match us, hl with | [_], _ => rfl
  obtain ⟨fd_herd_passings, F_herd_passings⟩ := c.def_ 12 (d := d_herd_passings) rfl
  have g_herd_passings := He.glo_ok X G (c.fact 12 (f := .glo "herd_passings") rfl)
  have b_herd_passings : Binds K fd_herd_passings ["herd"] [] := F_herd_passings.bindsN fun _ _ _ _ _ _ us hl => match us, hl with | [_], _ => rfl
  obtain ⟨fd_herd_places, F_herd_places⟩ := c.def_ 13 (d := d_herd_places) rfl
  have g_herd_places := He.glo_ok X G (c.fact 13 (f := .glo "herd_places") rfl)
  have b_herd_places : Binds K fd_herd_places ["herd"] [] := F_herd_places.bindsN fun _ _ _ _ _ _ us hl => match us, hl with | [_], _ => rfl
  obtain ⟨fd_pass_all, F_pass_all⟩ := c.def_ 14 (d := d_pass_all) rfl
  have g_pass_all := He.glo_ok X G (c.fact 14 (f := .glo "pass_all") rfl)
  have b_pass_all : Binds K fd_pass_all ["line", "strengths", "tolls", "who"] [] := F_pass_all.bindsN fun _ _ _ _ _ _ us hl => match us, hl with | [_, _, _, _], _ => rfl
  obtain ⟨fd_fall_all, F_fall_all⟩ := c.def_ 15 (d := d_fall_all) rfl
  have g_fall_all := He.glo_ok X G (c.fact 15 (f := .glo "fall_all") rfl)
  have b_fall_all : Binds K fd_fall_all ["line", "strengths", "tolls", "who"] [] := F_fall_all.bindsN fun _ _ _ _ _ _ us hl => match us, hl with | [_, _, _, _], _ => rfl
  obtain ⟨fd_row_and_order, F_row_and_order⟩ := c.def_ 16 (d := d_row_and_order) rfl
  have g_row_and_order := He.glo_ok X G (c.fact 16 (f := .glo "row_and_order") rfl)
  have b_row_and_order : Binds K fd_row_and_order ["line", "strengths", "tolls"] [] := F_row_and_order.bindsN fun _ _ _ _ _ _ us hl => match us, hl with | [_, _, _], _ => rfl
  obtain ⟨fd_last, F_last⟩ := c.def_ 17 (d := d_last) rfl
  have g_last := He.glo_ok X G (c.fact 17 (f := .glo "last") rfl)
  have b_last : Binds K fd_last ["row"] [] := F_last.bindsN fun _ _ _ _ _ _ us hl => match us, hl with | [_], _ => rfl
  obtain ⟨fd_first, F_first⟩ := c.def_ 18 (d := d_first) rfl
  have g_first := He.glo_ok X G (c.fact 18 (f := .glo "first") rfl)
  have b_first : Binds K fd_first ["row"] [] := F_first.bindsN fun _ _ _ _ _ _ us hl => match us, hl with | [_], _ => rfl
  obtain ⟨fd_law_dip, F_law_dip⟩ := c.def_ 19 (d := d_law_dip) rfl
  have g_law_dip := He.glo_ok X G (c.fact 19 (f := .glo "_law_dip") rfl)
  have b_law_dip : Binds K fd_law_dip ["_law_script", "_law_k"] [] := F_law_dip.bindsN fun _ _ _ _ _ _ us hl => match us, hl with | [_, _], _ => rfl
  obtain ⟨fd_law_take, F_law_take⟩ := c.def_ 20 (d := d_law_take) rfl
  have g_law_take := He.glo_ok X G (c.fact 20 (f := .glo "_law_take") rfl)
  have b_law_take : Binds K fd_law_take ["_law_box", "_law_many"] [] := F_law_take.bindsN fun _ _ _ _ _ _ us hl => match us, hl with | [_, _], _ => rfl
  obtain ⟨fd_law_folded, F_law_folded⟩ := c.def_ 21 (d := d_law_folded) rfl
  have g_law_folded := He.glo_ok X G (c.fact 21 (f := .glo "_law_folded") rfl)
  have b_law_folded : Binds K fd_law_folded ["_law_script", "_law_many"] [] := F_law_folded.bindsN fun _ _ _ _ _ _ us hl => match us, hl with | [_, _], _ => rfl
  obtain ⟨fd_law_same, F_law_same⟩ := c.def_ 22 (d := d_law_same) rfl
  have g_law_same := He.glo_ok X G (c.fact 22 (f := .glo "_law_same") rfl)
  have b_law_same : Binds K fd_law_same ["_law_found", "_law_due"] [] := F_law_same.bindsN fun _ _ _ _ _ _ us hl => match us, hl with | [_, _], _ => rfl
  obtain ⟨fd_law_of, F_law_of⟩ := c.def_ 23 (d := d_law_of) rfl
  have g_law_of := He.glo_ok X G (c.fact 23 (f := .glo "_law_of") rfl)
  have b_law_of : Binds K fd_law_of ["_law_box", "_law_pool"] [] := F_law_of.bindsN fun _ _ _ _ _ _ us hl => match us, hl with | [_, _], _ => rfl
  obtain ⟨fd_law_row, F_law_row⟩ := c.def_ 24 (d := d_law_row) rfl
  have g_law_row := He.glo_ok X G (c.fact 24 (f := .glo "_law_row") rfl)
  have b_law_row : Binds K fd_law_row ["_law_box", "_law_most"] [] := F_law_row.bindsN fun _ _ _ _ _ _ us hl => match us, hl with | [_, _], _ => rfl
  obtain ⟨fd_law_packed, F_law_packed⟩ := c.def_ 25 (d := d_law_packed) rfl
  have g_law_packed := He.glo_ok X G (c.fact 25 (f := .glo "_law_packed") rfl)
  have b_law_packed : Binds K fd_law_packed ["_law_lots"] [] := F_law_packed.bindsN fun _ _ _ _ _ _ us hl => match us, hl with | [_], _ => rfl
  obtain ⟨fd_law_herd, F_law_herd⟩ := c.def_ 26 (d := d_law_herd) rfl
  have g_law_herd := He.glo_ok X G (c.fact 26 (f := .glo "_law_herd") rfl)
  have b_law_herd : Binds K fd_law_herd ["_law_box", "_law_size", "_law_most"] [] := F_law_herd.bindsN fun _ _ _ _ _ _ us hl => match us, hl with | [_, _, _], _ => rfl
  obtain ⟨fd_law_spread, F_law_spread⟩ := c.def_ 27 (d := d_law_spread) rfl
  have g_law_spread := He.glo_ok X G (c.fact 27 (f := .glo "_law_spread") rfl)
  have b_law_spread : Binds K fd_law_spread ["_law_herd_here"] [] := F_law_spread.bindsN fun _ _ _ _ _ _ us hl => match us, hl with | [_], _ => rfl
  obtain ⟨fd_law_owners, F_law_owners⟩ := c.def_ 28 (d := d_law_owners) rfl
  have g_law_owners := He.glo_ok X G (c.fact 28 (f := .glo "_law_owners") rfl)
  have b_law_owners : Binds K fd_law_owners ["_law_herd_here"] [] := F_law_owners.bindsN fun _ _ _ _ _ _ us hl => match us, hl with | [_], _ => rfl
  obtain ⟨fd_law_led, F_law_led⟩ := c.def_ 29 (d := d_law_led) rfl
  have g_law_led := He.glo_ok X G (c.fact 29 (f := .glo "_law_led") rfl)
  have b_law_led : Binds K fd_law_led ["_law_row_here", "_law_sign"] [] := F_law_led.bindsN fun _ _ _ _ _ _ us hl => match us, hl with | [_, _], _ => rfl
  obtain ⟨fd_law_right, F_law_right⟩ := c.def_ 30 (d := d_law_right) rfl
  have g_law_right := He.glo_ok X G (c.fact 30 (f := .glo "_law_right") rfl)
  have b_law_right : Binds K fd_law_right ["_law_box"] [] := F_law_right.bindsN fun _ _ _ _ _ _ us hl => match us, hl with | [_], _ => rfl
  obtain ⟨fd_law, F_law⟩ := c.def_ 31 (d := d_law) rfl
  have m_abs := He.free_ok X G (c.fact 32 (f := .free "abs") rfl)
  have m_all := He.free_ok X G (c.fact 33 (f := .free "all") rfl)
  have m_bool := He.free_ok X G (c.fact 34 (f := .free "bool") rfl)
  have m_enumerate := He.free_ok X G (c.fact 35 (f := .free "enumerate") rfl)
  have m_int := He.free_ok X G (c.fact 36 (f := .free "int") rfl)
  have m_isinstance := He.free_ok X G (c.fact 37 (f := .free "isinstance") rfl)
  have m_len := He.free_ok X G (c.fact 38 (f := .free "len") rfl)
  have m_list := He.free_ok X G (c.fact 39 (f := .free "list") rfl)
  have m_max := He.free_ok X G (c.fact 40 (f := .free "max") rfl)
  have m_min := He.free_ok X G (c.fact 41 (f := .free "min") rfl)
  have m_range := He.free_ok X G (c.fact 42 (f := .free "range") rfl)
  have m_reversed := He.free_ok X G (c.fact 43 (f := .free "reversed") rfl)
  have m_str := He.free_ok X G (c.fact 44 (f := .free "str") rfl)
  have m_sum := He.free_ok X G (c.fact 45 (f := .free "sum") rfl)
  have m_tuple := He.free_ok X G (c.fact 46 (f := .free "tuple") rfl)
  have m_zip := He.free_ok X G (c.fact 47 (f := .free "zip") rfl)
  have e := hfa.symm.trans (He.glo_ok X G (c.fact 31 (f := .glo "law") rfl))
  cases e
  have bl := FunD.bindsA (ps := ["_law_script"]) F_law fun _ _ _ _ _ _ us hl => match us, hl with | [_], _ => rfl
  refine ⟨fd_law, fun s v => bl s [v] rfl, fun base _ _ => ?_⟩
  have h_is_number := ok_is_number (P := P) (w := w) (mg := mg) (base := base) F_is_number g_is_number b_is_number m_isinstance m_int m_bool
  have h_is_lot := ok_is_lot (P := P) (w := w) (mg := mg) (base := base) F_is_lot g_is_lot b_is_lot h_is_number m_isinstance m_tuple m_len m_all
  have h_is_herd := ok_is_herd (P := P) (w := w) (mg := mg) (base := base) F_is_herd g_is_herd b_is_herd h_is_lot m_isinstance m_tuple m_len m_all m_range
  have h_together := ok_together (P := P) (w := w) (mg := mg) (base := base) F_together g_together b_together m_len m_tuple
  have h_herd_of := ok_herd_of (P := P) (w := w) (mg := mg) (base := base) F_herd_of g_herd_of b_herd_of h_together
  have h_many_passed := ok_many_passed (P := P) (w := w) (mg := mg) (base := base) F_many_passed g_many_passed b_many_passed m_min
  have h_pass_lots := ok_pass_lots (P := P) (w := w) (mg := mg) (base := base) F_pass_lots g_pass_lots b_pass_lots h_many_passed m_len
  have h_herd_end := ok_herd_end (P := P) (w := w) (mg := mg) (base := base) F_herd_end g_herd_end b_herd_end h_pass_lots m_len m_range
  have h_herd_last := ok_herd_last (P := P) (w := w) (mg := mg) (base := base) F_herd_last g_herd_last b_herd_last h_herd_end h_together
  have h_fall_lots := ok_fall_lots (P := P) (w := w) (mg := mg) (base := base) F_fall_lots g_fall_lots b_fall_lots m_len
  have h_herd_first := ok_herd_first (P := P) (w := w) (mg := mg) (base := base) F_herd_first g_herd_first b_herd_first h_fall_lots h_together m_len m_range m_reversed
  have h_herd_passed := ok_herd_passed (P := P) (w := w) (mg := mg) (base := base) F_herd_passed g_herd_passed b_herd_passed h_herd_end
  have h_herd_passings := ok_herd_passings (P := P) (w := w) (mg := mg) (base := base) F_herd_passings g_herd_passings b_herd_passings h_herd_passed m_zip m_sum
  have h_herd_places := ok_herd_places (P := P) (w := w) (mg := mg) (base := base) F_herd_places g_herd_places b_herd_places h_herd_end m_len m_range
  have h_pass_all := ok_pass_all (P := P) (w := w) (mg := mg) (base := base) F_pass_all g_pass_all b_pass_all m_len
  have h_fall_all := ok_fall_all (P := P) (w := w) (mg := mg) (base := base) F_fall_all g_fall_all b_fall_all m_len
  have h_row_and_order := ok_row_and_order (P := P) (w := w) (mg := mg) (base := base) F_row_and_order g_row_and_order b_row_and_order m_tuple
  have h_last := ok_last (P := P) (w := w) (mg := mg) (base := base) F_last g_last b_last h_pass_all h_row_and_order m_range m_len
  have h_first := ok_first (P := P) (w := w) (mg := mg) (base := base) F_first g_first b_first h_fall_all h_row_and_order m_range m_len m_reversed
  have h_law_dip := ok_law_dip (P := P) (w := w) (mg := mg) (base := base) F_law_dip g_law_dip b_law_dip m_len m_abs m_int
  have h_law_take := ok_law_take (P := P) (w := w) (mg := mg) (base := base) F_law_take g_law_take b_law_take
  have h_law_folded := ok_law_folded (P := P) (w := w) (mg := mg) (base := base) F_law_folded g_law_folded b_law_folded m_list m_enumerate
  have h_law_same := ok_law_same (P := P) (w := w) (mg := mg) (base := base) F_law_same g_law_same b_law_same m_isinstance m_list m_tuple m_bool m_str m_int m_len m_all m_zip 4
  have h_law_of := ok_law_of (P := P) (w := w) (mg := mg) (base := base) F_law_of g_law_of b_law_of h_law_take m_len
  have h_law_row := ok_law_row (P := P) (w := w) (mg := mg) (base := base) F_law_row g_law_row b_law_row h_law_take h_law_of m_range m_tuple
  have h_law_packed := ok_law_packed (P := P) (w := w) (mg := mg) (base := base) F_law_packed g_law_packed b_law_packed m_tuple
  have h_law_herd := ok_law_herd (P := P) (w := w) (mg := mg) (base := base) F_law_herd g_law_herd b_law_herd h_law_row h_law_take h_law_packed
  have h_law_spread := ok_law_spread (P := P) (w := w) (mg := mg) (base := base) F_law_spread g_law_spread b_law_spread
  have h_law_owners := ok_law_owners (P := P) (w := w) (mg := mg) (base := base) F_law_owners g_law_owners b_law_owners m_enumerate
  have h_law_led := ok_law_led (P := P) (w := w) (mg := mg) (base := base) F_law_led g_law_led b_law_led m_list m_range m_len m_tuple
  have h_law_right := ok_law_right (P := P) (w := w) (mg := mg) (base := base) F_law_right g_law_right b_law_right h_law_herd h_law_of h_law_take h_law_packed h_law_spread h_law_owners h_law_led h_law_same h_herd_last h_herd_passings h_herd_places h_herd_passed h_herd_first h_is_herd h_herd_of h_last h_first m_range m_len m_tuple m_enumerate
  exact ok_law F_law h_law_folded h_law_dip h_law_right m_range m_len m_all m_max
end K78
open PySem PySem.W PySem.Calls PyProof.Rows
theorem PySem.Challenge.cw_hayherd_k78_whole_lots_beside_each_one_holds : PySem.Challenge.rw_hayherd_k78_whole_lots_beside_each_one.Holds := by
  w_on; o_law
  refine HandSHeadRun.head_any (r := OpenLaw.row PySem.Challenge.rw_hayherd_k78_whole_lots_beside_each_one) (q := view (OpenLaw.row PySem.Challenge.rw_hayherd_k78_whole_lots_beside_each_one).prog [35]) (H := K78.hk) (ob := K78.ob) (M := 3000) (loose := K78.loose) (d := HandSHeadRun.topDef (OpenLaw.row PySem.Challenge.rw_hayherd_k78_whole_lots_beside_each_one).prog 35) (kwd := []) K78.ob_eq
    (by kernel_rfl) (fun s => by kernel_rfl) K78.run (by kernel_rfl) (by kernel_rfl) (by kernel_rfl) (by rfl) (by first | assumption | decide +kernel) (by decide +kernel) ⟨rfl, rfl, rfl, rfl, rfl, by decide +kernel⟩ ?hw ?hc
  case hw => w_witness2
  case hc =>
    refine L2.walk_ofE (l := PySem.Challenge.rw_hayherd_k78_whole_lots_beside_each_one) (n := 63) (k := 7) (x := "_law_script") (CX := L2.CX0) rfl (by decide) (by kernel_rfl) ⟨rfl, by decide, by decide⟩ ?F (fun _ _ _ _ z => z)
    intro w mg fa h Y G hmg0
    obtain ⟨K, KX, c⟩ := Y
    have hmg : mg ("law" : PySem.Str) = some (.ref fa) := by
      have e : (HandSHeadRun.topDef (OpenLaw.row PySem.Challenge.rw_hayherd_k78_whole_lots_beside_each_one).prog 35).name = ("law" : PySem.Str) := by kernel_rfl
      rw [← e]
      exact hmg0
    obtain ⟨fd, hb, hF⟩ := K78.facts (P := (PySem.Challenge.rw_hayherd_k78_whole_lots_beside_each_one).prog) (w := w) KX G hmg c
    exact ⟨K, fd, HH.spLaw K, KX, hb, fun H a ns hl _ hS => ⟨a, ns, rfl, hS, hl, fun _ => rfl⟩, hF⟩
