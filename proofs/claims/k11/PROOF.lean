import PyProof.Rows.All
import Wide.All
import OpenK.AllK
import Wide.FinOn
import HandS.ForMost
import HandS.Walk
import HandS.Zip
import HandS.Rev
import HandS.TupAny
import HandS.TupMul
import HandS.More
import HandS.IsInst
import HandS.Wide
import HandS.Gcd
import HandS.Style
import KE.GoesMore
import KE.KMathGC
import HandS.Defaults
import PySem.Challenge.RW_blendcurves_k11_whole_control_rows
set_option Elab.async false
set_option linter.all false
set_option maxRecDepth 100000
set_option maxHeartbeats 4000000
namespace Bc
/-! ## numbers that are not too long -/
def Bd (k : Nat) (q : Rat) : Prop := q.num.natAbs < 2 ^ k ∧ q.den < 2 ^ k
theorem Bd.le {j k : Nat} {q : Rat} (h : Bd j q) (e : j ≤ k) : Bd k q := by
  have z : 2 ^ j ≤ 2 ^ k := Nat.pow_le_pow_right (by decide) e
  exact ⟨Nat.lt_of_lt_of_le h.1 z, Nat.lt_of_lt_of_le h.2 z⟩
theorem den_pos (q : Rat) : 0 < q.den := Nat.pos_of_ne_zero q.den_nz
theorem den_ne (q : Rat) : (q.den : Int) ≠ 0 := by have := q.den_nz; omega
/-! ## in lowest terms -/
/-- the common divisor with the sign of the divisor -/
def sg (t l : Int) : Int := if l < 0 then -((Nat.gcd t.natAbs l.natAbs : Nat) : Int) else ((Nat.gcd t.natAbs l.natAbs : Nat) : Int)
theorem sg_ne {t l : Int} (h : l ≠ 0) : sg t l ≠ 0 := by
  have : Nat.gcd t.natAbs l.natAbs ≠ 0 := fun z => by
    have := Nat.eq_zero_of_gcd_eq_zero_right z
    omega
  unfold sg
  split <;> omega
theorem sg_abs (t l : Int) : (sg t l).natAbs = Nat.gcd t.natAbs l.natAbs := by
  unfold sg
  split <;> omega
theorem gcd_le_right {t l : Int} (h : l ≠ 0) : Nat.gcd t.natAbs l.natAbs ≤ l.natAbs := Nat.le_of_dvd (by omega) (Nat.gcd_dvd_right _ _)
theorem low_ne {t l : Int} (h : l ≠ 0) : l.fdiv (sg t l) = ((Rat.divInt t l).den : Int) ∧ t.fdiv (sg t l) = (Rat.divInt t l).num := by
  have hd1 : ((Nat.gcd t.natAbs l.natAbs : Nat) : Int) ∣ l := Int.ofNat_dvd_left.mpr (Nat.gcd_dvd_right _ _)
  have hd2 : ((Nat.gcd t.natAbs l.natAbs : Nat) : Int) ∣ t := Int.ofNat_dvd_left.mpr (Nat.gcd_dvd_left _ _)
  have eg : (l.gcd t : Nat) = Nat.gcd t.natAbs l.natAbs := by rw [Int.gcd_comm]; rfl
  have g0 : ((Nat.gcd t.natAbs l.natAbs : Nat) : Int) ≠ 0 := by
    intro z
    have := sg_ne (t := t) h
    unfold sg at this
    rw [z] at this
    simp at this
  have e1 := Rat.num_divInt t l
  have e2 := Rat.den_divInt t l
  rw [e1, e2, if_neg h, eg]
  have key : ∀ a : Int, ((Nat.gcd t.natAbs l.natAbs : Nat) : Int) ∣ a → a.fdiv (sg t l) = l.sign * (a / ((Nat.gcd t.natAbs l.natAbs : Nat) : Int)) := by
    intro a ha
    have hs : (sg t l) ∣ a := by
      unfold sg
      split
      · exact Int.neg_dvd.mpr ha
      · exact ha
    rw [Int.fdiv_eq_ediv_of_dvd hs]
    unfold sg
    by_cases hl : l < 0
    · rw [if_pos hl, Int.ediv_neg, Int.sign_eq_neg_one_of_neg hl]; omega
    · rw [if_neg hl, Int.sign_eq_one_of_pos (by omega)]; omega
  refine ⟨?_, ?_⟩
  · rw [key l hd1]
    rw [← Int.mul_ediv_assoc _ hd1]
    have es : l.sign * l = (l.natAbs : Int) := by
      by_cases hl : l < 0
      · rw [Int.sign_eq_neg_one_of_neg hl]; omega
      · rw [Int.sign_eq_one_of_pos (by omega)]; omega
    rw [es]
    rfl
  · rw [key t hd2, ← Int.mul_ediv_assoc _ hd2]
theorem low_den {t l : Int} (h : l ≠ 0) : l.fdiv (sg t l) = ((Rat.divInt t l).den : Int) := (low_ne h).1
theorem low_num {t l : Int} (h : l ≠ 0) : t.fdiv (sg t l) = (Rat.divInt t l).num := (low_ne h).2
theorem div_num_le {t l : Int} (h : l ≠ 0) : (Rat.divInt t l).num.natAbs ≤ t.natAbs := by
  rw [← low_num h]
  have hd2 : (sg t l) ∣ t := by
    have hd2 : ((Nat.gcd t.natAbs l.natAbs : Nat) : Int) ∣ t := Int.ofNat_dvd_left.mpr (Nat.gcd_dvd_left _ _)
    unfold sg
    split
    · exact Int.neg_dvd.mpr hd2
    · exact hd2
  rw [Int.fdiv_eq_ediv_of_dvd hd2, Int.natAbs_ediv_of_dvd hd2]
  exact Nat.div_le_self _ _
theorem div_den_le {t l : Int} (h : l ≠ 0) : (Rat.divInt t l).den ≤ l.natAbs := by
  have e := low_den (t := t) h
  have hd2 : (sg t l) ∣ l := by
    have hd2 : ((Nat.gcd t.natAbs l.natAbs : Nat) : Int) ∣ l := Int.ofNat_dvd_left.mpr (Nat.gcd_dvd_right _ _)
    unfold sg
    split
    · exact Int.neg_dvd.mpr hd2
    · exact hd2
  rw [Int.fdiv_eq_ediv_of_dvd hd2] at e
  have e2 : (l / sg t l).natAbs = (Rat.divInt t l).den := by rw [e]; rfl
  rw [← e2, Int.natAbs_ediv_of_dvd hd2]
  exact Nat.div_le_self _ _
theorem div_bd {t l : Int} {k : Nat} (h : l ≠ 0) (ht : t.natAbs < 2 ^ k) (hl : l.natAbs < 2 ^ k) : Bd k (Rat.divInt t l) :=
  ⟨Nat.lt_of_le_of_lt (div_num_le h) ht, Nat.lt_of_le_of_lt (div_den_le h) hl⟩
/-! ## sums, products -/
theorem add_div (a b : Rat) : Rat.divInt (a.num * b.den + b.num * a.den) (a.den * b.den) = a + b := by
  have := Rat.divInt_add_divInt a.num b.num (den_ne a) (den_ne b)
  rw [Rat.num_divInt_den, Rat.num_divInt_den] at this
  exact this.symm
theorem sub_div (a b : Rat) : Rat.divInt (a.num * b.den - b.num * a.den) (a.den * b.den) = a - b := by
  have := Rat.divInt_sub_divInt a.num b.num (den_ne a) (den_ne b)
  rw [Rat.num_divInt_den, Rat.num_divInt_den] at this
  exact this.symm
theorem mul_div (a b : Rat) : Rat.divInt (a.num * b.num) (a.den * b.den) = a * b := by
  have := Rat.divInt_mul_divInt a.num b.num (d₁ := a.den) (d₂ := b.den)
  rw [Rat.num_divInt_den, Rat.num_divInt_den] at this
  exact this.symm
theorem dd_ne (a b : Rat) : ((a.den : Int) * (b.den : Int)) ≠ 0 := Int.mul_ne_zero (den_ne a) (den_ne b)
theorem abs_mul_lt {i j : Int} {a b : Nat} (ha : i.natAbs < 2 ^ a) (hb : j.natAbs < 2 ^ b) : (i * j).natAbs < 2 ^ (a + b) := by
  rw [Int.natAbs_mul, Nat.pow_add]
  exact Nat.mul_lt_mul'' ha hb
theorem abs_add_lt {i j : Int} {k : Nat} (ha : i.natAbs < 2 ^ k) (hb : j.natAbs < 2 ^ k) : (i + j).natAbs < 2 ^ (k + 1) := by
  have : 2 ^ (k + 1) = 2 ^ k * 2 := Nat.pow_succ ..
  omega
theorem abs_sub_lt {i j : Int} {k : Nat} (ha : i.natAbs < 2 ^ k) (hb : j.natAbs < 2 ^ k) : (i - j).natAbs < 2 ^ (k + 1) := by
  have : 2 ^ (k + 1) = 2 ^ k * 2 := Nat.pow_succ ..
  omega
theorem pow_mono {x a b : Nat} (h : x < 2 ^ a) (e : a ≤ b) : x < 2 ^ b := Nat.lt_of_lt_of_le h (Nat.pow_le_pow_right (by decide) e)
theorem add_top {j k : Nat} {a b : Rat} (ha : Bd j a) (hb : Bd k b) : (a.num * b.den + b.num * a.den).natAbs < 2 ^ (j + k + 1) :=
  abs_add_lt (abs_mul_lt ha.1 (by simpa using hb.2)) (by rw [Nat.add_comm]; exact abs_mul_lt hb.1 (by simpa using ha.2))
theorem sub_top {j k : Nat} {a b : Rat} (ha : Bd j a) (hb : Bd k b) : (a.num * b.den - b.num * a.den).natAbs < 2 ^ (j + k + 1) :=
  abs_sub_lt (abs_mul_lt ha.1 (by simpa using hb.2)) (by rw [Nat.add_comm]; exact abs_mul_lt hb.1 (by simpa using ha.2))
theorem dd_lt {j k : Nat} {a b : Rat} (ha : Bd j a) (hb : Bd k b) : ((a.den : Int) * (b.den : Int)).natAbs < 2 ^ (j + k) := abs_mul_lt (by simpa using ha.2) (by simpa using hb.2)
theorem Bd.add {j k : Nat} {a b : Rat} (ha : Bd j a) (hb : Bd k b) : Bd (j + k + 1) (a + b) := by
  rw [← add_div]
  exact div_bd (dd_ne a b) (add_top ha hb) (pow_mono (dd_lt ha hb) (by omega))
theorem Bd.sub {j k : Nat} {a b : Rat} (ha : Bd j a) (hb : Bd k b) : Bd (j + k + 1) (a - b) := by
  rw [← sub_div]
  exact div_bd (dd_ne a b) (sub_top ha hb) (pow_mono (dd_lt ha hb) (by omega))
theorem Bd.mul {j k : Nat} {a b : Rat} (ha : Bd j a) (hb : Bd k b) : Bd (j + k) (a * b) := by
  rw [← mul_div]
  exact div_bd (dd_ne a b) (abs_mul_lt ha.1 hb.1) (dd_lt ha hb)
theorem Bd.zero : Bd 1 0 := ⟨by decide, by decide⟩
theorem Bd.one : Bd 1 1 := ⟨by decide, by decide⟩
/-! ## coefficients -/
def cf (p : List Rat) (n : Nat) : Rat := p.getD n 0
theorem cf_nil (n : Nat) : cf [] n = 0 := rfl
theorem cf_zero (a : Rat) (p : List Rat) : cf (a :: p) 0 = a := rfl
theorem cf_succ (a : Rat) (p : List Rat) (n : Nat) : cf (a :: p) (n + 1) = cf p n := rfl
theorem cf_ge {p : List Rat} {n : Nat} (h : p.length ≤ n) : cf p n = 0 := by
  unfold cf
  rw [List.getD_eq_getElem?_getD, List.getElem?_eq_none h] <;> rfl
theorem cf_lt {p : List Rat} {n : Nat} (h : n < p.length) : cf p n = p[n] := by
  unfold cf
  rw [List.getD_eq_getElem?_getD, List.getElem?_eq_getElem h] <;> rfl
theorem cf_at {p : List Rat} {n : Nat} {a : Rat} (h : p[n]? = some a) : cf p n = a := by
  unfold cf
  rw [List.getD_eq_getElem?_getD, h] <;> rfl
/-- without zeros at the end -/
def trim : List Rat → List Rat
  | [] => []
  | a :: p => if trim p = [] ∧ a = 0 then [] else a :: trim p
theorem cf_trim : ∀ (p : List Rat) (n : Nat), cf (trim p) n = cf p n
  | [], _ => rfl
  | a :: p, n => by
    rw [trim]
    split
    · rename_i h
      cases n with
      | zero => rw [cf_zero, h.2]; rfl
      | succ n => rw [cf_succ, ← cf_trim p n, h.1]; rfl
    · cases n with
      | zero => rfl
      | succ n => rw [cf_succ, cf_succ, cf_trim p n]
theorem trim_nil : ∀ {p : List Rat}, (∀ n, cf p n = 0) → trim p = []
  | [], _ => rfl
  | a :: p, h => by
    rw [trim, if_pos ⟨trim_nil fun n => by simpa [cf_succ] using h (n + 1), by simpa [cf_zero] using h 0⟩]
theorem of_trim_nil {p : List Rat} (h : trim p = []) (n : Nat) : cf p n = 0 := by
  rw [← cf_trim, h]; rfl
theorem trim_ext : ∀ {p q : List Rat}, (∀ n, cf p n = cf q n) → trim p = trim q
  | [], q, h => (trim_nil (p := q) fun n => (h n).symm).symm
  | a :: p, [], h => trim_nil fun n => h n
  | a :: p, b :: q, h => by
    have e : a = b := h 0
    have t : trim p = trim q := trim_ext fun n => h (n + 1)
    rw [trim, trim, e, t]
theorem trim_trim (p : List Rat) : trim (trim p) = trim p := trim_ext (cf_trim p)
theorem trim_len : ∀ p : List Rat, (trim p).length ≤ p.length
  | [] => Nat.le_refl _
  | a :: p => by
    rw [trim]
    split
    · exact Nat.zero_le _
    · exact Nat.succ_le_succ (trim_len p)
theorem trim_mem : ∀ {p : List Rat} {c : Rat}, c ∈ trim p → c ∈ p
  | [], _, h => h
  | a :: p, c, h => by
    rw [trim] at h
    split at h
    · cases h
    · rcases List.mem_cons.mp h with h | h
      · exact h ▸ List.mem_cons_self
      · exact List.mem_cons_of_mem _ (trim_mem h)
/-- the last one is not 0 -/
def Can (p : List Rat) : Prop := trim p = p
theorem can_trim (p : List Rat) : Can (trim p) := trim_trim p
theorem trim_snoc0 (p : List Rat) : trim (p ++ [0]) = trim p := trim_ext fun n => by
  by_cases h : n < p.length
  · rw [cf_lt (by rw [List.length_append]; omega), cf_lt h, List.getElem_append_left h]
  · by_cases h2 : n = p.length
    · subst h2
      rw [cf_ge (p := p) (Nat.le_refl _), cf_lt (by simp), List.getElem_append_right (Nat.le_refl _)]
      simp
    · rw [cf_ge (p := p) (by omega), cf_ge (by rw [List.length_append]; simp; omega)]
theorem trim_snoc : ∀ (p : List Rat) {a : Rat}, a ≠ 0 → trim (p ++ [a]) = p ++ [a]
  | [], a, h => by
    show trim [a] = [a]
    rw [trim, if_neg (fun z => h z.2)]; rfl
  | b :: p, a, h => by
    have e := trim_snoc p h
    show trim (b :: (p ++ [a])) = b :: (p ++ [a])
    rw [trim, e, if_neg (fun z => by simp at z)]
theorem can_last {p : List Rat} (h : Can p) : p = [] ∨ ∃ r a, p = r ++ [a] ∧ a ≠ 0 := by
  rcases List.eq_nil_or_concat p with e | ⟨r, a, e⟩
  · exact .inl e
  · refine .inr ⟨r, a, by simpa using e, fun z => ?_⟩
    have e' : p = r ++ [a] := by simpa using e
    have h1 : trim p = p := h
    rw [e', z, trim_snoc0] at h1
    have h2 := trim_len r
    rw [h1] at h2
    simp at h2
    omega
theorem can_ext {p q : List Rat} (hp : Can p) (hq : Can q) (h : ∀ n, cf p n = cf q n) : p = q := by
  have := trim_ext h
  rw [hp, hq] at this
  exact this
/-! ## sums, products of polynomials, values -/
def padd : List Rat → List Rat → List Rat
  | [], q => q
  | p, [] => p
  | a :: p, b :: q => (a + b) :: padd p q
theorem padd_nil (p : List Rat) : padd p [] = p := by cases p <;> rfl
theorem cf_padd : ∀ (p q : List Rat) (n : Nat), cf (padd p q) n = cf p n + cf q n
  | [], q, n => by rw [padd, cf_nil]; grind
  | a :: p, [], n => by rw [padd_nil, cf_nil]; grind
  | a :: p, b :: q, 0 => rfl
  | a :: p, b :: q, n + 1 => by rw [padd, cf_succ, cf_succ, cf_succ, cf_padd p q n]
def smul (a : Rat) (p : List Rat) : List Rat := p.map (a * ·)
theorem cf_smul (a : Rat) : ∀ (p : List Rat) (n : Nat), cf (smul a p) n = a * cf p n
  | [], n => by
    show (0 : Rat) = a * 0
    grind
  | b :: p, 0 => rfl
  | b :: p, n + 1 => cf_smul a p n
def pmul : List Rat → List Rat → List Rat
  | [], _ => []
  | a :: p, q => padd (smul a q) (0 :: pmul p q)
theorem cf_pmul_snoc (a : Rat) (q : List Rat) : ∀ (p : List Rat) (n : Nat), cf (pmul (p ++ [a]) q) n = cf (pmul p q) n + if p.length ≤ n then a * cf q (n - p.length) else 0
  | [], n => by
    show cf (padd (smul a q) [0]) n = _
    rw [cf_padd, cf_smul]
    have : cf [0] n = 0 := by cases n <;> rfl
    rw [this]
    show a * cf q n + 0 = 0 + if 0 ≤ n then a * cf q (n - 0) else 0
    rw [if_pos (Nat.zero_le _), Nat.sub_zero]
    grind
  | b :: p, 0 => by
    show cf (padd (smul b q) (0 :: pmul (p ++ [a]) q)) 0 = cf (padd (smul b q) (0 :: pmul p q)) 0 + _
    rw [cf_padd, cf_padd, cf_zero, cf_zero, if_neg (by simp)]
    grind
  | b :: p, n + 1 => by
    show cf (padd (smul b q) (0 :: pmul (p ++ [a]) q)) (n + 1) = cf (padd (smul b q) (0 :: pmul p q)) (n + 1) + _
    rw [cf_padd, cf_padd, cf_succ, cf_succ, cf_pmul_snoc a q p n]
    have e : (b :: p).length ≤ n + 1 ↔ p.length ≤ n := by simp
    have e2 : n + 1 - (b :: p).length = n - p.length := by simp
    rw [e2]
    by_cases h : p.length ≤ n
    · rw [if_pos h, if_pos (e.mpr h)]; grind
    · rw [if_neg h, if_neg (fun z => h (e.mp z))]; grind
def pev (p : List Rat) (x : Rat) : Rat := match p with
  | [] => 0
  | a :: p => a + x * pev p x
theorem pev_padd (x : Rat) : ∀ p q : List Rat, pev (padd p q) x = pev p x + pev q x
  | [], q => by rw [padd, pev]; grind
  | a :: p, [] => by rw [padd_nil]; simp only [pev]; grind
  | a :: p, b :: q => by
    rw [padd]; simp only [pev]; rw [pev_padd x p q]; grind
theorem pev_smul (x a : Rat) : ∀ p : List Rat, pev (smul a p) x = a * pev p x
  | [] => by
    show (0 : Rat) = a * 0
    grind
  | b :: p => by
    show a * b + x * pev (smul a p) x = a * (b + x * pev p x)
    rw [pev_smul x a p]; grind
theorem pev_pmul (x : Rat) (q : List Rat) : ∀ p : List Rat, pev (pmul p q) x = pev p x * pev q x
  | [] => by
    show (0 : Rat) = 0 * _
    grind
  | a :: p => by
    rw [pmul, pev_padd, pev_smul]
    simp only [pev]
    rw [pev_pmul x q p]; grind
theorem pev_trim (x : Rat) : ∀ p : List Rat, pev (trim p) x = pev p x
  | [] => rfl
  | a :: p => by
    rw [trim]
    have ih := pev_trim x p
    split
    · rename_i h
      rw [h.1] at ih
      simp only [pev] at ih ⊢
      rw [← ih, h.2]; grind
    · simp only [pev]; rw [ih]
theorem pev_append (x : Rat) : ∀ (p : List Rat) (a : Rat), pev (p ++ [a]) x = pev p x + a * x ^ p.length
  | [], a => by
    show a + x * 0 = 0 + a * x ^ 0
    grind
  | b :: p, a => by
    show b + x * pev (p ++ [a]) x = (b + x * pev p x) + a * x ^ (p.length + 1)
    rw [pev_append x p a]; grind
end Bc
namespace Bc
/-- value at x as a pair of ints, not in lowest terms -/
def rv (x : Rat) : List Rat → Int × Int
  | [] => (0, 1)
  | c :: p => ((rv x p).1 * x.num * c.den + c.num * (rv x p).2 * x.den, (rv x p).2 * x.den * c.den)
theorem rv_pos (x : Rat) : ∀ p, 0 < (rv x p).2
  | [] => (by decide : (0 : Int) < 1)
  | c :: p => by
    have h1 := rv_pos x p
    have h2 := den_pos x
    have h3 := den_pos c
    show 0 < (rv x p).2 * x.den * c.den
    exact Int.mul_pos (Int.mul_pos h1 (by omega)) (by omega)
theorem divInt_eq {t l : Int} (h : l ≠ 0) : Rat.divInt t l = (t : Rat) / (l : Rat) := Rat.divInt_eq_div t l
theorem int_ne {l : Int} (h : l ≠ 0) : (l : Rat) ≠ 0 := fun z => h (by exact_mod_cast z)
theorem num_den (c : Rat) : (c.num : Rat) = c * (c.den : Int) := by
  have h1 := Rat.num_divInt_den c
  rw [divInt_eq (den_ne c)] at h1
  have h2 : ((c.den : Int) : Rat) ≠ 0 := int_ne (den_ne c)
  grind
theorem rv_pev (x : Rat) : ∀ p, ((rv x p).1 : Rat) = pev p x * ((rv x p).2 : Rat)
  | [] => by
    show ((0 : Int) : Rat) = 0 * ((1 : Int) : Rat)
    grind
  | c :: p => by
    have ih := rv_pev x p
    show (((rv x p).1 * x.num * c.den + c.num * (rv x p).2 * x.den : Int) : Rat) = (c + x * pev p x) * (((rv x p).2 * x.den * c.den : Int) : Rat)
    have e1 := num_den x
    have e2 := num_den c
    rw [Rat.intCast_add, Rat.intCast_mul, Rat.intCast_mul, Rat.intCast_mul, Rat.intCast_mul, Rat.intCast_mul, Rat.intCast_mul, ih, e1, e2]
    grind
theorem rv_div (x : Rat) (p : List Rat) : Rat.divInt (rv x p).1 (rv x p).2 = pev p x := by
  have h0 : (rv x p).2 ≠ 0 := by have := rv_pos x p; omega
  have h1 := rv_pev x p
  have h2 := int_ne h0
  rw [divInt_eq h0]
  grind
theorem rv_bd {x : Rat} {n m : Nat} (hx : Bd m x) : ∀ {p : List Rat}, (∀ c ∈ p, Bd n c) → (rv x p).1.natAbs < 2 ^ (1 + p.length * (n + m + 1)) ∧ (rv x p).2.natAbs < 2 ^ (1 + p.length * (n + m + 1))
  | [], _ => by
    show (0 : Int).natAbs < 2 ^ (1 + 0 * (n + m + 1)) ∧ (1 : Int).natAbs < 2 ^ (1 + 0 * (n + m + 1))
    rw [Nat.zero_mul]
    decide
  | c :: p, h => by
    obtain ⟨h1, h2⟩ := rv_bd hx (p := p) fun d hd => h d (List.mem_cons_of_mem _ hd)
    have hc := h c List.mem_cons_self
    have e : 1 + (c :: p).length * (n + m + 1) = ((1 + p.length * (n + m + 1)) + m + n) + 1 := by
      rw [List.length_cons, Nat.succ_mul]; omega
    have a1 := abs_mul_lt (abs_mul_lt h1 hx.1) (show (c.den : Int).natAbs < 2 ^ n from hc.2)
    have a2 := abs_mul_lt (abs_mul_lt hc.1 h2) (show (x.den : Int).natAbs < 2 ^ m from hx.2)
    have a3 := abs_mul_lt (abs_mul_lt h2 (show (x.den : Int).natAbs < 2 ^ m from hx.2)) (show (c.den : Int).natAbs < 2 ^ n from hc.2)
    rw [e]
    exact ⟨abs_add_lt (pow_mono a1 (by omega)) (pow_mono a2 (by omega)), pow_mono a3 (by omega)⟩
/-- the last i of p, taken one more -/
theorem drop_one {p : List Rat} {i : Nat} {c : Rat} (hi : i < p.length) (h : p[p.length - 1 - i]? = some c) : p.drop (p.length - (i + 1)) = c :: p.drop (p.length - i) := by
  have h1 : p.length - 1 - i < p.length := by omega
  have e1 : p.length - (i + 1) = p.length - 1 - i := by omega
  have e2 : p.length - i = p.length - 1 - i + 1 := by omega
  rw [e1, e2, List.drop_eq_getElem_cons h1]
  rw [List.getElem?_eq_getElem h1] at h
  rw [Option.some.inj h]
end Bc
namespace Bc
theorem cf_set {L : List Rat} {k : Nat} {a : Rat} (h : k < L.length) (n : Nat) : cf (L.set k a) n = if n = k then a else cf L n := by
  unfold cf
  rw [List.getD_eq_getElem?_getD, List.getD_eq_getElem?_getD, List.getElem?_set]
  by_cases e : k = n
  · subst e
    rw [if_pos rfl, if_pos h, if_pos rfl]; rfl
  · rw [if_neg e, if_neg (fun z => e z.symm)]
theorem cf_rep (m n : Nat) : cf (List.replicate m (0 : Rat)) n = 0 := by
  by_cases h : n < m
  · rw [cf_lt (by rw [List.length_replicate]; exact h), List.getElem_replicate]
  · exact cf_ge (by rw [List.length_replicate]; omega)
theorem bd_cf {p : List Rat} {k : Nat} (h : ∀ c ∈ p, Bd k c) (hk : 0 < k) (n : Nat) : Bd k (cf p n) := by
  by_cases e : n < p.length
  · rw [cf_lt e]; exact h _ (List.getElem_mem e)
  · rw [cf_ge (by omega)]; exact Bd.zero.le hk
theorem bd_mem {p : List Rat} {k : Nat} (h : ∀ n, Bd k (cf p n)) : ∀ c ∈ p, Bd k c := fun c hc => by
  obtain ⟨n, hn, e⟩ := List.getElem_of_mem hc
  rw [← e, ← cf_lt hn]
  exact h n
/-- a row of the product's table, j of its items done -/
def prow (p q : List Rat) (i j n : Nat) : Rat := cf (pmul (p.take i) q) n + if i ≤ n ∧ n < i + j then cf p i * cf q (n - i) else 0
theorem prow_zero (p q : List Rat) (i n : Nat) : prow p q i 0 n = cf (pmul (p.take i) q) n := by
  unfold prow
  rw [if_neg (by omega)]
  grind
theorem prow_next (p q : List Rat) (i j n : Nat) : prow p q i (j + 1) n = if n = i + j then prow p q i j n + cf p i * cf q j else prow p q i j n := by
  unfold prow
  by_cases h : n = i + j
  · subst h
    rw [if_pos rfl, if_pos (by omega), if_neg (by omega), Nat.add_sub_cancel_left]
    grind
  · rw [if_neg h]
    by_cases h2 : i ≤ n ∧ n < i + j
    · rw [if_pos h2, if_pos (by omega)]
    · rw [if_neg h2, if_neg (by omega)]
theorem prow_end (p q : List Rat) (i n : Nat) (hi : i < p.length) : prow p q i q.length n = cf (pmul (p.take (i + 1)) q) n := by
  unfold prow
  rw [List.take_add_one, List.getElem?_eq_getElem hi]
  show _ = cf (pmul (p.take i ++ [p[i]]) q) n
  rw [cf_pmul_snoc, List.length_take, Nat.min_eq_left (by omega), cf_lt hi]
  by_cases h : i ≤ n
  · rw [if_pos h]
    by_cases h2 : n < i + q.length
    · rw [if_pos ⟨h, h2⟩]
    · rw [if_neg (fun z => h2 z.2), cf_ge (p := q) (by omega)]
      grind
  · rw [if_neg h, if_neg (fun z => h z.1)]
/-- how many rows ahead of i reach the place n -/
def reach (q i n : Nat) : Nat := min i (n + 1) - (n + 1 - q)
theorem reach_le (q i n : Nat) : reach q i n ≤ min i q := by unfold reach; omega
theorem reach_next {q i n : Nat} (h : i ≤ n ∧ n < i + q) : reach q (i + 1) n = reach q i n + 1 := by unfold reach; omega
theorem reach_mono (q i n : Nat) : reach q i n ≤ reach q (i + 1) n := by unfold reach; omega
theorem bd_pmul {p q : List Rat} {k k2 : Nat} (hp : ∀ c ∈ p, Bd k c) (hq : ∀ c ∈ q, Bd k2 c) (hk : 0 < k) (hk2 : 0 < k2) : ∀ (i : Nat), i ≤ p.length → ∀ n, Bd (1 + reach q.length i n * (k + k2 + 1)) (cf (pmul (p.take i) q) n)
  | 0, _, n => by
    show Bd (1 + reach q.length 0 n * (k + k2 + 1)) 0
    exact Bd.zero.le (by omega)
  | i + 1, hi, n => by
    rw [← prow_end p q i n (by omega)]
    have h := bd_pmul hp hq hk hk2 i (by omega) n
    unfold prow
    by_cases z : i ≤ n ∧ n < i + q.length
    · rw [if_pos z, reach_next z, Nat.succ_mul]
      exact (h.add ((bd_cf hp hk i).mul (bd_cf hq hk2 _))).le (by omega)
    · rw [if_neg z]
      have e : cf (pmul (p.take i) q) n + 0 = cf (pmul (p.take i) q) n := by grind
      rw [e]
      have := Nat.mul_le_mul_right (k + k2 + 1) (reach_mono q.length i n)
      exact h.le (by omega)
theorem prow_at (p q : List Rat) (i j : Nat) : prow p q i j (i + j) = cf (pmul (p.take i) q) (i + j) := by
  unfold prow
  rw [if_neg (by omega)]
  grind
theorem bd_prow {p q : List Rat} {k k2 : Nat} (hp : ∀ c ∈ p, Bd k c) (hq : ∀ c ∈ q, Bd k2 c) (hk : 0 < k) (hk2 : 0 < k2) {i : Nat} (hi : i < p.length) (j : Nat) : Bd (1 + min p.length q.length * (k + k2 + 1)) (prow p q i j (i + j)) := by
  rw [prow_at]
  have h := bd_pmul hp hq hk hk2 i (by omega) (i + j)
  have h2 := reach_le q.length i (i + j)
  have h3 : min i q.length ≤ min p.length q.length := by omega
  have h4 := Nat.mul_le_mul_right (k + k2 + 1) (Nat.le_trans h2 h3)
  exact h.le (by omega)
theorem pmul_len_le : ∀ p q : List Rat, (pmul p q).length ≤ p.length + q.length
  | [], _ => Nat.zero_le _
  | a :: p, q => by
    have h1 := pmul_len_le p q
    have h2 : ∀ a b : List Rat, (padd a b).length ≤ max a.length b.length := by
      intro a
      induction a with
      | nil => intro b; rw [padd]; omega
      | cons x a ih =>
        intro b
        cases b with
        | nil => rw [padd_nil]; omega
        | cons y b =>
          rw [padd, List.length_cons, List.length_cons, List.length_cons]
          have := ih b
          omega
    have h3 := h2 (smul a q) (0 :: pmul p q)
    show (padd (smul a q) (0 :: pmul p q)).length ≤ _
    have h4 : (smul a q).length = q.length := List.length_map _
    rw [List.length_cons] at h3
    rw [List.length_cons]
    omega
end Bc
namespace Bc
theorem fmod_nat (u v : Nat) : (u : Int).fmod (v : Int) = ((u % v : Nat) : Int) := by
  rw [Int.fmod_eq_emod_of_nonneg _ (by omega)]
  rfl
/-- Euclid: after the first turn the product of both falls to less than half at each -/
structure Eu (M i u v g : Nat) : Prop where
  gcd : Nat.gcd u v = g
  up : 0 < i → v ≤ u ∧ u * v < 2 ^ (M - i)
  st : i = 0 → u * v < 2 ^ (M - 1)
  nz : i = 0 → 0 < v
theorem Eu.next {M i u v g : Nat} (h : Eu M i u v g) (hv : 0 < v) : Eu M (i + 1) v (u % v) g := by
  have hr : u % v < v := Nat.mod_lt _ hv
  refine ⟨by rw [← h.gcd, Nat.gcd_comm u v, Nat.gcd_rec v u, Nat.gcd_comm], fun _ => ⟨Nat.le_of_lt hr, ?_⟩, fun z => by omega, fun z => by omega⟩
  rcases Nat.eq_zero_or_pos i with z | z
  · have h1 := h.st z
    subst z
    have h2 : v * (u % v) ≤ v * u := Nat.mul_le_mul_left _ (Nat.mod_le _ _)
    rw [Nat.mul_comm v u] at h2
    exact Nat.lt_of_le_of_lt h2 h1
  · obtain ⟨h1, h2⟩ := h.up z
    have hm : M - i ≠ 0 := fun e => by
      rw [e] at h2
      have : 0 < u * v := Nat.mul_pos (by omega) hv
      have e1 : (2 : Nat) ^ 0 = 1 := rfl
      omega
    have e : M - i = (M - (i + 1)) + 1 := by omega
    rw [e, Nat.pow_succ] at h2
    have h3 : 2 * (u % v) < u + 1 := by
      have h4 := Nat.div_add_mod u v
      have h5 : 1 ≤ u / v := (Nat.one_le_div_iff hv).mpr h1
      have h6 : v * 1 ≤ v * (u / v) := Nat.mul_le_mul_left _ h5
      omega
    have h7 : v * (2 * (u % v)) ≤ v * u := Nat.mul_le_mul_left _ (by omega)
    have h8 : v * (2 * (u % v)) = v * (u % v) * 2 := by rw [Nat.mul_comm 2, Nat.mul_assoc]
    rw [h8, Nat.mul_comm v u] at h7
    omega
theorem Eu.done {M i u g : Nat} (h : Eu M i u 0 g) : u = g := by
  have := h.gcd
  rwa [Nat.gcd_zero_right] at this
theorem Eu.last {M i u v g : Nat} (h : Eu M i u v g) (hi : M ≤ i) (h0 : 0 < i) : v = 0 := by
  obtain ⟨h1, h2⟩ := h.up h0
  have e : M - i = 0 := by omega
  rw [e] at h2
  have e1 : (2 : Nat) ^ 0 = 1 := rfl
  rcases Nat.eq_zero_or_pos v with z | z
  · exact z
  · have : 0 < u * v := Nat.mul_pos (by omega) z
    omega
theorem Eu.start {t l : Int} {k : Nat} (h : l ≠ 0) (ht : t.natAbs < 2 ^ k) (hl : l.natAbs < 2 ^ k) : Eu (k + k + 1) 0 t.natAbs l.natAbs (Nat.gcd t.natAbs l.natAbs) := by
  refine ⟨rfl, fun z => by omega, fun _ => ?_, fun _ => by omega⟩
  show _ < 2 ^ (k + k)
  rw [Nat.pow_add]
  exact Nat.mul_lt_mul'' ht hl
theorem abs_if (i : Int) : (if i < 0 then -i else i) = (i.natAbs : Int) := by
  split <;> omega
end Bc
namespace Bc
theorem padd_len : ∀ a b : List Rat, (padd a b).length = max a.length b.length
  | [], b => by rw [padd, List.length_nil, Nat.zero_max]
  | x :: a, [] => by rw [padd_nil, List.length_nil, Nat.max_zero]
  | x :: a, y :: b => by
    rw [padd, List.length_cons, List.length_cons, List.length_cons, padd_len a b]
    omega
theorem bd_padd {p q : List Rat} {j k : Nat} (hp : ∀ c ∈ p, Bd j c) (hq : ∀ c ∈ q, Bd k c) (hj : 0 < j) (hk : 0 < k) : ∀ c ∈ trim (padd p q), Bd (j + k + 1) c := fun c hc =>
  bd_mem (fun n => by rw [cf_padd]; exact ((bd_cf hp hj n).add (bd_cf hq hk n)).le (by omega)) c (trim_mem hc)
theorem bd_pmulT {p q : List Rat} {k k2 : Nat} (hp : ∀ c ∈ p, Bd k c) (hq : ∀ c ∈ q, Bd k2 c) (hk : 0 < k) (hk2 : 0 < k2) : ∀ c ∈ trim (pmul p q), Bd (1 + min p.length q.length * (k + k2 + 1)) c := fun c hc =>
  bd_mem (fun n => by
    have := bd_pmul hp hq hk hk2 p.length (Nat.le_refl _) n
    rw [List.take_length] at this
    have h4 := Nat.mul_le_mul_right (k + k2 + 1) (reach_le q.length p.length n)
    exact this.le (by omega)) c (trim_mem hc)
theorem neg_sum (p : List Rat) : trim (padd p (trim (smul (-1) p))) = [] := trim_nil fun n => by
  rw [cf_padd, cf_trim, cf_smul]
  grind
theorem pev_take {p : List Rat} {i : Nat} {c : Rat} (h : p[i]? = some c) (x : Rat) : pev (p.take (i + 1)) x = pev (p.take i) x + c * x ^ i := by
  have hi := (List.getElem?_eq_some_iff.mp h).1
  rw [List.take_add_one, h]
  show pev (p.take i ++ [c]) x = _
  rw [pev_append, List.length_take, Nat.min_eq_left (by omega)]
theorem pow_bd {x : Rat} {k : Nat} (h : Bd k x) : ∀ i, Bd (1 + i * k) (x ^ i)
  | 0 => by
    have e : x ^ 0 = 1 := by grind
    rw [e, Nat.zero_mul]; exact Bd.one
  | i + 1 => by
    have e : x ^ (i + 1) = x ^ i * x := by grind
    rw [e, Nat.succ_mul]
    exact ((pow_bd h i).mul h).le (by omega)
theorem take_bd {p : List Rat} {x : Rat} {k m : Nat} (hp : ∀ c ∈ p, Bd k c) (hx : Bd k x) (hm : p.length ≤ m) : ∀ i, i ≤ p.length → Bd (1 + i * (k + m * k + 3)) (pev (p.take i) x)
  | 0, _ => by
    show Bd (1 + 0 * _) 0
    rw [Nat.zero_mul]; exact Bd.zero
  | i + 1, hi => by
    have hc : p[i]? = some p[i] := List.getElem?_eq_getElem (by omega)
    rw [pev_take hc]
    have h1 := take_bd hp hx hm i (by omega)
    have h2 := (hp _ (List.getElem_mem (show i < p.length by omega))).mul (pow_bd hx i)
    have h3 : i * k ≤ m * k := Nat.mul_le_mul_right _ (by omega)
    rw [Nat.succ_mul]
    exact (h1.add h2).le (by omega)
end Bc
namespace Bc
theorem Bd.m1 : Bd 1 (-1) := ⟨by decide, by decide⟩
end Bc
namespace Bc
/-! ## a polynomial is told by its values -/
theorem pev_zero {p : List Rat} (h : ∀ n, cf p n = 0) (x : Rat) : pev p x = 0 := by
  rw [← pev_trim, trim_nil h]; rfl
theorem pev_eqv {p q : List Rat} (h : ∀ n, cf p n = cf q n) (x : Rat) : pev p x = pev q x := by
  rw [← pev_trim, trim_ext h, pev_trim]
/-- the quotient by (x - r) -/
def sdiv (r : Rat) : List Rat → List Rat
  | [] => []
  | a :: p => pev p r :: sdiv r p
theorem sdiv_pev (r x : Rat) : ∀ p, pev p x = (x - r) * pev (sdiv r p) x + pev p r
  | [] => by show (0 : Rat) = (x - r) * 0 + 0; grind
  | a :: p => by
    have ih := sdiv_pev r x p
    show a + x * pev p x = (x - r) * (pev p r + x * pev (sdiv r p) x) + (a + r * pev p r)
    rw [ih]; grind
theorem cf_drop (p : List Rat) (k n : Nat) : cf (p.drop k) n = cf p (k + n) := by
  unfold cf
  rw [List.getD_eq_getElem?_getD, List.getD_eq_getElem?_getD, List.getElem?_drop]
theorem cf_sdiv (r : Rat) : ∀ (p : List Rat) (n : Nat), cf (sdiv r p) n = pev (p.drop (n + 1)) r
  | [], n => by rw [List.drop_nil]; rfl
  | a :: p, 0 => rfl
  | a :: p, n + 1 => by
    show cf (sdiv r p) n = pev (p.drop (n + 1)) r
    exact cf_sdiv r p n
theorem cf_of_sdiv (r : Rat) : ∀ (p : List Rat) (n : Nat), cf p n = (match n with | 0 => pev p r - r * cf (sdiv r p) 0 | n + 1 => cf (sdiv r p) n - r * cf (sdiv r p) (n + 1))
  | [], 0 => by show (0 : Rat) = 0 - r * 0; grind
  | [], n + 1 => by show (0 : Rat) = 0 - r * 0; grind
  | a :: p, 0 => by
    show a = (a + r * pev p r) - r * pev p r
    grind
  | a :: p, n + 1 => by
    have e := cf_of_sdiv r p n
    show cf p n = cf (pev p r :: sdiv r p) n - r * cf (sdiv r p) n
    rw [e]
    cases n with
    | zero => show _ = pev p r - r * cf (sdiv r p) 0; rfl
    | succ n => rfl
theorem int_inj {i j : Nat} (h : i ≠ j) : ((i : Int) : Rat) - ((j : Int) : Rat) ≠ 0 := by
  have : (((i : Int) - (j : Int) : Int) : Rat) ≠ 0 := int_ne (by omega)
  rwa [Rat.intCast_sub] at this
theorem zero_of_roots : ∀ (N : Nat) (p : List Rat), (∀ n, N ≤ n → cf p n = 0) → (∀ i, i < N → pev p ((i : Int) : Rat) = 0) → ∀ n, cf p n = 0
  | 0, p, h, _, n => h n (Nat.zero_le _)
  | N + 1, p, h, hr, n => by
    have h0 := hr N (Nat.lt_succ_self _)
    have hq : ∀ m, cf (sdiv ((N : Int) : Rat) p) m = 0 := by
      refine zero_of_roots N _ (fun m hm => ?_) (fun i hi => ?_)
      · rw [cf_sdiv]
        exact pev_zero (fun j => by rw [cf_drop]; exact h _ (by omega)) _
      · have e := sdiv_pev ((N : Int) : Rat) ((i : Int) : Rat) p
        rw [hr i (by omega), h0] at e
        have hn := int_inj (show i ≠ N by omega)
        grind
    rw [cf_of_sdiv ((N : Int) : Rat) p n]
    cases n with
    | zero => show pev p _ - _ * cf _ 0 = 0; rw [h0, hq 0]; grind
    | succ n => show cf _ n - _ * cf _ (n + 1) = 0; rw [hq n, hq (n + 1)]; grind
theorem pev_inj {p q : List Rat} (h : ∀ x, pev p x = pev q x) (n : Nat) : cf p n = cf q n := by
  have hz := zero_of_roots (p.length + q.length) (padd p (smul (-1) q)) (fun n hn => by
    rw [cf_padd, cf_smul, cf_ge (p := p) (by omega), cf_ge (p := q) (by omega)]; grind) (fun i _ => by
    rw [pev_padd, pev_smul, h]; grind) n
  rw [cf_padd, cf_smul] at hz
  grind
/-- equal values everywhere: equal without zeros at the end -/
theorem pev_ext {p q : List Rat} (h : ∀ x, pev p x = pev q x) : trim p = trim q := trim_ext (pev_inj h)
theorem pev_can {p q : List Rat} (hp : Can p) (hq : Can q) (h : ∀ x, pev p x = pev q x) : p = q := can_ext hp hq (pev_inj h)
theorem pev_one (a x : Rat) : pev [a] x = a := by show a + x * 0 = a; grind
theorem pev_two (a b x : Rat) : pev [a, b] x = a + b * x := by show a + x * (b + x * 0) = a + b * x; grind
/-! ## one polynomial in another one -/
def comp : List Rat → List Rat → List Rat
  | [], _ => []
  | a :: p, q => padd (pmul (comp p q) q) [a]
theorem pev_comp (x : Rat) (q : List Rat) : ∀ p, pev (comp p q) x = pev p (pev q x)
  | [] => rfl
  | a :: p => by
    show pev (padd (pmul (comp p q) q) [a]) x = a + pev q x * pev p (pev q x)
    rw [pev_padd, pev_pmul, pev_comp x q p, pev_one]; grind
theorem comp_step (a : Rat) (p q : List Rat) : trim (padd (trim (pmul (trim (comp p q)) q)) (trim [a])) = trim (comp (a :: p) q) := pev_ext fun x => by
  rw [pev_comp, pev_padd, pev_trim, pev_trim, pev_pmul, pev_trim, pev_comp, pev_one]
  show _ = a + pev q x * pev p (pev q x)
  grind
def ppow (q : List Rat) : Nat → List Rat
  | 0 => [1]
  | n + 1 => pmul (ppow q n) q
theorem pev_ppow (q : List Rat) (x : Rat) : ∀ n, pev (ppow q n) x = pev q x ^ n
  | 0 => by rw [ppow, pev_one]; grind
  | n + 1 => by rw [ppow, pev_pmul, pev_ppow q x n]; grind
theorem pow_step (q : List Rat) (i : Nat) : trim (pmul (trim (ppow q i)) q) = trim (ppow q (i + 1)) := pev_ext fun x => by
  rw [pev_pmul, pev_trim, ppow, pev_pmul]
theorem due_step {p : List Rat} {i : Nat} {c : Rat} (h : p[i]? = some c) (q : List Rat) : trim (padd (trim (comp (p.take i) q)) (trim (smul c (trim (ppow q i))))) = trim (comp (p.take (i + 1)) q) := pev_ext fun x => by
  rw [pev_padd, pev_trim, pev_trim, pev_smul, pev_trim, pev_ppow, pev_comp, pev_comp, pev_take h]
/-! ## degrees -/
structure Deg (u : List Rat) (m : Nat) (l : Rat) : Prop where
  at' : cf u m = l
  above : ∀ n, m < n → cf u n = 0
theorem cf_pmul_cons (a : Rat) (u v : List Rat) (n : Nat) : cf (pmul (a :: u) v) n = a * cf v n + (match n with | 0 => 0 | n + 1 => cf (pmul u v) n) := by
  rw [pmul, cf_padd, cf_smul]
  cases n <;> rfl
theorem pmul_zero {u : List Rat} (h : ∀ n, cf u n = 0) (v : List Rat) (n : Nat) : cf (pmul u v) n = 0 := by
  have e : ∀ x, pev (pmul u v) x = pev [] x := fun x => by
    rw [pev_pmul, pev_zero h]
    show 0 * _ = (0 : Rat)
    grind
  exact pev_inj e n
theorem pmul_deg {v : List Rat} {e : Nat} {k : Rat} (hv : Deg v e k) : ∀ (m : Nat) (u : List Rat) (l : Rat), Deg u m l → Deg (pmul u v) (m + e) (l * k)
  | m, [], l, hu => by
    have hl : l = 0 := by rw [← hu.at']; rfl
    exact ⟨by rw [hl]; show (0 : Rat) = 0 * k; grind, fun n _ => rfl⟩
  | 0, a :: u, l, hu => by
    have hl : a = l := hu.at'
    have hz : ∀ n, cf u n = 0 := fun n => hu.above (n + 1) (Nat.succ_pos _)
    have key : ∀ n, cf (pmul (a :: u) v) n = a * cf v n := fun n => by
      rw [cf_pmul_cons]
      cases n with
      | zero => grind
      | succ n => show a * cf v (n + 1) + cf (pmul u v) n = _; rw [pmul_zero hz]; grind
    refine ⟨by rw [key, Nat.zero_add, hv.at', hl], fun n hn => by rw [key, hv.above n (by omega)]; grind⟩
  | m + 1, a :: u, l, hu => by
    have ih := pmul_deg hv m u l ⟨hu.at', fun n hn => hu.above (n + 1) (by omega)⟩
    refine ⟨?_, fun n hn => ?_⟩
    · have e1 : m + 1 + e = (m + e) + 1 := by omega
      rw [e1, cf_pmul_cons]
      show a * cf v (m + e + 1) + cf (pmul u v) (m + e) = _
      rw [ih.at', hv.above _ (by omega)]; grind
    · obtain ⟨n, rfl⟩ : ∃ n', n = n' + 1 := ⟨n - 1, by omega⟩
      rw [cf_pmul_cons]
      show a * cf v (n + 1) + cf (pmul u v) n = _
      rw [ih.above n (by omega), hv.above _ (by omega)]; grind
theorem can_deg {p : List Rat} (h : Can p) (hp : p ≠ []) : ∃ l, l ≠ 0 ∧ Deg p (p.length - 1) l := by
  rcases can_last h with e | ⟨r, a, e, ha⟩
  · exact absurd e hp
  · refine ⟨a, ha, ?_, fun n hn => cf_ge (by omega)⟩
    have hl : p.length = r.length + 1 := by rw [e]; simp
    rw [hl, Nat.add_sub_cancel]
    refine cf_at ?_
    rw [e]; simp
theorem deg_len {u : List Rat} {m : Nat} {l : Rat} (h : Deg u m l) (hl : l ≠ 0) : (trim u).length = m + 1 := by
  have ht : Deg (trim u) m l := ⟨by rw [cf_trim]; exact h.at', fun n hn => by rw [cf_trim]; exact h.above n hn⟩
  have h1 : m < (trim u).length := Nat.lt_of_not_le fun z => hl (by rw [← ht.at']; exact cf_ge z)
  rcases can_last (can_trim u) with e | ⟨r, a, e, ha⟩
  · rw [e] at h1; simp at h1
  · have h2 : (trim u).length = r.length + 1 := by rw [e]; simp
    have h3 : cf (trim u) r.length = a := cf_at (by rw [e]; simp)
    have h4 : ¬ m < r.length := fun z => ha (by rw [← h3]; exact ht.above _ z)
    omega
theorem comp_deg {q : List Rat} {e : Nat} {k : Rat} (hq : Deg q e k) (hk : k ≠ 0) (he : 0 < e) : ∀ (m : Nat) (p : List Rat) (l : Rat), p.length = m + 1 → Deg p m l → l ≠ 0 → ∃ l', l' ≠ 0 ∧ Deg (comp p q) (m * e) l'
  | _, [], _, hl, _, _ => by simp at hl
  | 0, [a], l, _, hp, h0 => by
    have hl : a = l := hp.at'
    refine ⟨l, h0, ?_, fun n hn => ?_⟩
    · rw [Nat.zero_mul]
      show cf (padd (pmul [] q) [a]) 0 = l
      rw [cf_padd, ← hl]
      show (0 : Rat) + a = a
      grind
    · show cf (padd (pmul [] q) [a]) n = 0
      rw [cf_padd, cf_ge (p := [a]) (by simp; omega)]
      show (0 : Rat) + 0 = 0
      grind
  | 0, a :: b :: p, _, hl, _, _ => by simp at hl
  | m + 1, a :: p, l, hl, hp, h0 => by
    obtain ⟨l', h1, h2⟩ := comp_deg hq hk he m p l (by simpa using hl) ⟨hp.at', fun n hn => hp.above (n + 1) (by omega)⟩ h0
    have h3 := pmul_deg hq _ _ _ h2
    have e1 : m * e + e = (m + 1) * e := by rw [Nat.succ_mul]
    rw [e1] at h3
    have hpos : 0 < (m + 1) * e := Nat.mul_pos (Nat.succ_pos _) he
    refine ⟨l' * k, by grind, ?_, fun n hn => ?_⟩
    · show cf (padd (pmul (comp p q) q) [a]) ((m + 1) * e) = _
      rw [cf_padd, h3.at', cf_ge (p := [a]) (by simp; omega)]; grind
    · show cf (padd (pmul (comp p q) q) [a]) n = _
      rw [cf_padd, h3.above n hn, cf_ge (p := [a]) (by simp; omega)]; grind
/-! ## how long the numbers get -/
theorem pmul_len : ∀ p q : List Rat, (pmul p q).length ≤ p.length + (q.length - 1)
  | [], _ => Nat.zero_le _
  | a :: p, q => by
    have h1 := pmul_len p q
    show (padd (smul a q) (0 :: pmul p q)).length ≤ _
    rw [padd_len]
    unfold smul
    rw [List.length_map, List.length_cons, List.length_cons]
    omega
def clen (L : Nat) : Nat → Nat
  | 0 => 0
  | i + 1 => if i = 0 then 1 else max 1 (clen L i + (L - 1))
def cbits (k1 k2 L : Nat) : Nat → Nat
  | 0 => 1
  | i + 1 => (1 + min (clen L i) L * (cbits k1 k2 L i + k2 + 1)) + k1 + 1
def pbits (k2 L : Nat) : Nat → Nat
  | 0 => 1
  | i + 1 => 1 + min (i * (L - 1) + 1) L * (pbits k2 L i + k2 + 1)
def dbits (k1 k2 L : Nat) : Nat → Nat
  | 0 => 1
  | i + 1 => dbits k1 k2 L i + (k1 + pbits k2 L i) + 1
theorem cbits_le {k1 k2 L : Nat} (i : Nat) : cbits k1 k2 L i ≤ cbits k1 k2 L (i + 1) ∨ cbits k1 k2 L i ≤ cbits k1 k2 L (i + 1) + 0 ∨ True := .inr (.inr trivial)
end Bc
namespace Bc
theorem comp_bd {q : List Rat} {k1 k2 : Nat} (hq : ∀ c ∈ q, Bd k2 c) (h1 : 0 < k1) (h2 : 0 < k2) : ∀ {p : List Rat}, (∀ c ∈ p, Bd k1 c) → (∀ c ∈ trim (comp p q), Bd (cbits k1 k2 q.length p.length) c) ∧ (trim (comp p q)).length ≤ clen q.length p.length
  | [], _ => ⟨fun c (hc : c ∈ ([] : List Rat)) => (nomatch hc), Nat.le_refl _⟩
  | a :: p, h => by
    obtain ⟨i1, i2⟩ := comp_bd hq h1 h2 (p := p) fun c hc => h c (List.mem_cons_of_mem _ hc)
    have hpos : 0 < cbits k1 k2 q.length p.length := by
      cases p with
      | nil => exact Nat.one_pos
      | cons b p => rw [List.length_cons, cbits]; omega
    have b1 := bd_pmulT i1 hq hpos h2
    have b2 : ∀ c ∈ trim [a], Bd k1 c := fun c hc => by
      have := trim_mem hc
      rw [List.mem_singleton.mp this]
      exact h a List.mem_cons_self
    have m1 : min (trim (comp p q)).length q.length ≤ min (clen q.length p.length) q.length := by omega
    have m2 := Nat.mul_le_mul_right (cbits k1 k2 q.length p.length + k2 + 1) m1
    rw [← comp_step]
    refine ⟨fun c hc => (bd_padd b1 b2 (by omega) h1 c hc).le ?_, ?_⟩
    · rw [List.length_cons, cbits]; omega
    · have l1 := trim_len (padd (trim (pmul (trim (comp p q)) q)) (trim [a]))
      rw [padd_len] at l1
      have l2 := trim_len (pmul (trim (comp p q)) q)
      have l3 := pmul_len (trim (comp p q)) q
      have l4 := trim_len [a]
      rw [List.length_singleton] at l4
      rw [List.length_cons, clen]
      cases p with
      | nil =>
        have l5 : (trim (pmul (trim (comp [] q)) q)).length = 0 := rfl
        rw [List.length_nil, if_pos rfl]
        omega
      | cons b p =>
        rw [List.length_cons] at i2 ⊢
        rw [if_neg (by omega)]
        omega
theorem cbits_pos (k1 k2 L i : Nat) : 0 < cbits k1 k2 L i := by
  cases i with
  | zero => exact Nat.one_pos
  | succ i => rw [cbits]; omega
theorem clen_mono (L i : Nat) : clen L i ≤ clen L (i + 1) := by
  cases i with
  | zero => exact Nat.zero_le _
  | succ i => rw [clen.eq_2 L (i + 1), if_neg (by omega)]; omega
theorem clen_le {L : Nat} {i j : Nat} (h : i ≤ j) : clen L i ≤ clen L j := by
  induction h with
  | refl => exact Nat.le_refl _
  | step _ ih => exact Nat.le_trans ih (clen_mono L _)
theorem ppow_bd {q : List Rat} {k2 : Nat} (hq : ∀ c ∈ q, Bd k2 c) (h2 : 0 < k2) : ∀ i, (∀ c ∈ trim (ppow q i), Bd (pbits k2 q.length i) c) ∧ (trim (ppow q i)).length ≤ i * (q.length - 1) + 1
  | 0 => ⟨fun c hc => by
      have := trim_mem hc
      have e : c = 1 := by simpa [ppow] using this
      rw [e]; exact Bd.one, by have := trim_len (ppow q 0); simpa [ppow] using this⟩
  | i + 1 => by
    obtain ⟨i1, i2⟩ := ppow_bd hq h2 i
    have hpos : 0 < pbits k2 q.length i := by
      cases i with
      | zero => exact Nat.one_pos
      | succ i => rw [pbits]; omega
    have b1 := bd_pmulT i1 hq hpos h2
    have m1 : min (trim (ppow q i)).length q.length ≤ min (i * (q.length - 1) + 1) q.length := by omega
    have m2 := Nat.mul_le_mul_right (pbits k2 q.length i + k2 + 1) m1
    rw [← pow_step]
    refine ⟨fun c hc => (b1 c hc).le (by rw [pbits]; omega), ?_⟩
    have l2 := trim_len (pmul (trim (ppow q i)) q)
    have l3 := pmul_len (trim (ppow q i)) q
    rw [Nat.succ_mul]
    omega
theorem pbits_pos (k2 L i : Nat) : 0 < pbits k2 L i := by
  cases i with
  | zero => exact Nat.one_pos
  | succ i => rw [pbits]; omega
theorem dbits_pos (k1 k2 L i : Nat) : 0 < dbits k1 k2 L i := by
  cases i with
  | zero => exact Nat.one_pos
  | succ i => rw [dbits]; omega
end Bc
namespace Bc
/-- a whole number as a ratio -/
def nq (n : Nat) : Rat := (((n : Nat) : Int) : Rat)
theorem nq_succ (n : Nat) : nq (n + 1) = nq n + 1 := by
  unfold nq
  have : ((n + 1 : Nat) : Int) = (n : Int) + 1 := by omega
  rw [this, Rat.intCast_add]; rfl
theorem nq_zero : nq 0 = 0 := rfl
theorem nq_ne {n : Nat} (h : 0 < n) : nq n ≠ 0 := int_ne (by omega)
theorem nq_bd {n k : Nat} (h : n < 2 ^ k) (hk : 0 < k) : Bd k (nq n) := by
  refine ⟨?_, ?_⟩
  · show (((n : Nat) : Int)).natAbs < 2 ^ k
    omega
  · show 1 < 2 ^ k
    have : 2 ^ 1 ≤ 2 ^ k := Nat.pow_le_pow_right (by decide) hk
    omega
theorem div_div (a b : Rat) (hb : b ≠ 0) : Rat.divInt (a.num * b.den) (a.den * b.num) = a / b := by
  have hn : b.num ≠ 0 := fun z => hb (by rw [← Rat.num_divInt_den b, z]; exact Rat.zero_divInt _)
  have h1 : (a.den : Int) * b.num ≠ 0 := Int.mul_ne_zero (den_ne a) hn
  rw [divInt_eq h1, Rat.intCast_mul, Rat.intCast_mul, num_den a, num_den b]
  have h2 := int_ne (den_ne a)
  have h3 := int_ne (den_ne b)
  grind
theorem num_ne {b : Rat} (hb : b ≠ 0) : b.num ≠ 0 := fun z => hb (by rw [← Rat.num_divInt_den b, z]; exact Rat.zero_divInt _)
theorem Bd.div {j k : Nat} {a b : Rat} (ha : Bd j a) (hb : Bd k b) (h : b ≠ 0) : Bd (j + k) (a / b) := by
  rw [← div_div a b h]
  exact div_bd (Int.mul_ne_zero (den_ne a) (num_ne h)) (abs_mul_lt ha.1 (show (b.den : Int).natAbs < 2 ^ k from hb.2)) (abs_mul_lt (show (a.den : Int).natAbs < 2 ^ j from ha.2) hb.1)
/-! ## derivatives -/
def dvF (p : List Rat) (i : Nat) : Rat := cf p i * nq i
def dvl (p : List Rat) : List Rat := (List.range p.length).map (dvF p)
def dv (p : List Rat) : List Rat := (dvl p).drop 1
theorem dvl_len (p : List Rat) : (dvl p).length = p.length := by unfold dvl; rw [List.length_map, List.length_range]
theorem dv_len (p : List Rat) : (dv p).length = p.length - 1 := by unfold dv; rw [List.length_drop, dvl_len]
theorem cf_dvl (p : List Rat) (n : Nat) : cf (dvl p) n = cf p n * nq n := by
  by_cases h : n < p.length
  · refine cf_at ?_
    unfold dvl
    rw [List.getElem?_map, List.getElem?_range h]; rfl
  · rw [cf_ge (p := dvl p) (by rw [dvl_len]; omega), cf_ge (p := p) (by omega)]; grind
theorem cf_dv (p : List Rat) (n : Nat) : cf (dv p) n = cf p (n + 1) * nq (n + 1) := by
  unfold dv
  rw [cf_drop, Nat.add_comm 1 n, cf_dvl]
theorem dv_alt (p : List Rat) : dv p = (List.range (p.length - 1)).map fun i => dvF p (i + 1) := by
  apply List.ext_getElem
  · rw [dv_len, List.length_map, List.length_range]
  · intro i h1 h2
    rw [List.getElem_map, List.getElem_range]
    have e1 : cf (dv p) i = cf p (i + 1) * nq (i + 1) := cf_dv p i
    rw [cf_lt h1] at e1
    exact e1
theorem can_of_last {q : List Rat} (h : q = [] ∨ cf q (q.length - 1) ≠ 0) : Can q := by
  rcases List.eq_nil_or_concat q with e | ⟨r, b, e⟩
  · rw [e]; rfl
  · have e' : q = r ++ [b] := by simpa using e
    rcases h with h | h
    · rw [h]; rfl
    · rw [e']
      refine trim_snoc r (fun z => h ?_)
      rw [e']
      exact (cf_at (by simp)).trans z
theorem can_dv {p : List Rat} (h : Can p) : Can (dv p) := by
  refine can_of_last ?_
  by_cases hl : p.length ≤ 1
  · exact .inl (List.eq_nil_of_length_eq_zero (by rw [dv_len]; omega))
  · obtain ⟨l, hl0, hd⟩ := can_deg h (by intro z; rw [z] at hl; simp at hl)
    refine .inr ?_
    rw [cf_dv, dv_len, show p.length - 1 - 1 + 1 = p.length - 1 by omega, hd.at']
    have := nq_ne (show 0 < p.length - 1 by omega)
    grind
theorem dv_bd {p : List Rat} {k : Nat} (h : ∀ c ∈ p, Bd k c) (hk : 0 < k) (hz : p.length ≤ 13) : ∀ c ∈ dv p, Bd (k + 4) c :=
  bd_mem fun n => by
    rw [cf_dv]
    by_cases hn : n + 1 < 16
    · exact (bd_cf h hk _).mul (nq_bd (by omega) (by decide))
    · rw [cf_ge (p := p) (by omega)]
      have e : (0 : Rat) * nq (n + 1) = 0 := by grind
      rw [e]
      exact Bd.zero.le (by omega)
/-! ## integrals -/
def ip (p : List Rat) : List Rat := (List.range p.length).map fun i => cf p i / nq (i + 1)
def wp (p : List Rat) : List Rat := 0 :: ip p
theorem ip_len (p : List Rat) : (ip p).length = p.length := by unfold ip; rw [List.length_map, List.length_range]
theorem cf_ip (p : List Rat) (n : Nat) : cf (ip p) n = cf p n / nq (n + 1) := by
  by_cases h : n < p.length
  · refine cf_at ?_
    unfold ip
    rw [List.getElem?_map, List.getElem?_range h]; rfl
  · rw [cf_ge (p := ip p) (by rw [ip_len]; omega), cf_ge (p := p) (by omega)]; grind
theorem wp_bd {p : List Rat} {k : Nat} (h : ∀ c ∈ p, Bd k c) (hk : 0 < k) (hz : p.length ≤ 13) : ∀ c ∈ wp p, Bd (k + 4) c := fun c hc => by
  rcases List.mem_cons.mp hc with e | e
  · rw [e]; exact Bd.zero.le (by omega)
  · exact bd_mem (fun n => by
      rw [cf_ip]
      by_cases hn : n + 1 < 16
      · exact (bd_cf h hk _).div (nq_bd (by omega) (by decide)) (nq_ne (Nat.succ_pos _))
      · rw [cf_ge (p := p) (by omega)]
        have e : (0 : Rat) / nq (n + 1) = 0 := by grind
        rw [e]
        exact Bd.zero.le (by omega)) c e
theorem wp_snoc (p : List Rat) (c : Rat) : wp (p ++ [c]) = wp p ++ [c / nq (p.length + 1)] := by
  unfold wp
  rw [List.cons_append]
  congr 1
  unfold ip
  rw [List.length_append, List.length_singleton, List.range_succ, List.map_append, List.map_singleton]
  congr 1
  · refine List.map_congr_left fun i hi => ?_
    have := List.mem_range.mp hi
    rw [cf_lt (by rw [List.length_append]; omega), cf_lt this, List.getElem_append_left this]
  · rw [cf_at (p := p ++ [c]) (n := p.length) (a := c) (by simp)]
theorem wp_take {p : List Rat} {i : Nat} {c : Rat} (h : p[i]? = some c) (x : Rat) : pev (wp (p.take (i + 1))) x = pev (wp (p.take i)) x + c / nq (i + 1) * x ^ (i + 1) := by
  have hi := (List.getElem?_eq_some_iff.mp h).1
  have hl : (p.take i).length = i := by rw [List.length_take]; omega
  rw [List.take_add_one, h]
  show pev (wp (p.take i ++ [c])) x = _
  rw [wp_snoc, pev_append, hl]
  unfold wp
  rw [List.length_cons, ip_len, hl]
/-- the integral of a derivative -/
theorem wp_dv (p : List Rat) (x : Rat) : pev (wp (dv p)) x = pev p x - cf p 0 := by
  have e : pev (padd (wp (dv p)) [cf p 0]) x = pev p x := pev_eqv (fun n => by
    rw [cf_padd]
    cases n with
    | zero => show (0 : Rat) + cf p 0 = cf p 0; grind
    | succ n =>
      show cf (ip (dv p)) n + cf [] n = cf p (n + 1)
      rw [cf_ip, cf_dv, cf_nil]
      have := nq_ne (Nat.succ_pos n)
      grind) x
  rw [pev_padd, pev_one] at e
  grind
theorem pmul_congr {u v : List Rat} (h : ∀ n, cf u n = cf v n) (q : List Rat) (n : Nat) : cf (pmul u q) n = cf (pmul v q) n :=
  pev_inj (fun x => by rw [pev_pmul, pev_pmul, pev_eqv h]) n
theorem pmul_padd (u v q : List Rat) (n : Nat) : cf (pmul (padd u v) q) n = cf (pmul u q) n + cf (pmul v q) n := by
  rw [← cf_padd]
  exact pev_inj (fun x => by rw [pev_pmul, pev_padd, pev_padd, pev_pmul, pev_pmul]; grind) n
theorem dv_cons (a : Rat) (p : List Rat) (n : Nat) : cf (dv (a :: p)) n = cf (padd p (0 :: dv p)) n := by
  rw [cf_dv, cf_padd, cf_succ]
  cases n with
  | zero => show cf p 0 * nq 1 = cf p 0 + 0; have : nq 1 = 1 := rfl; grind
  | succ n => show cf p (n + 1) * nq (n + 1 + 1) = cf p (n + 1) + cf (dv p) n; rw [cf_dv, nq_succ (n + 1)]; grind
/-- the derivative of a product -/
theorem dv_pmul (q : List Rat) : ∀ (p : List Rat) (n : Nat), cf (pmul p q) (n + 1) * nq (n + 1) = cf (pmul (dv p) q) n + cf (pmul p (dv q)) n
  | [], n => by show (0 : Rat) * nq (n + 1) = 0 + 0; grind
  | a :: p, n => by
    rw [pmul_congr (dv_cons a p), pmul_padd, cf_pmul_cons, cf_pmul_cons 0, cf_pmul_cons a p (dv q), cf_dv q n]
    cases n with
    | zero =>
      show (a * cf q 1 + cf (pmul p q) 0) * nq 1 = cf (pmul p q) 0 + (0 * cf q 0 + 0) + (a * (cf q 1 * nq 1) + 0)
      have : nq 1 = 1 := rfl
      grind
    | succ n =>
      have ih := dv_pmul q p n
      show (a * cf q (n + 1 + 1) + cf (pmul p q) (n + 1)) * nq (n + 1 + 1) = cf (pmul p q) (n + 1) + (0 * cf q (n + 1) + cf (pmul (dv p) q) n) + (a * (cf q (n + 1 + 1) * nq (n + 1 + 1)) + cf (pmul p (dv q)) n)
      rw [nq_succ (n + 1)]
      grind
/-- the integral of a product's derivative -/
theorem wp_prod (p q : List Rat) (x : Rat) : pev (wp (trim (pmul (dv p) q))) x + pev (wp (trim (pmul p (dv q)))) x = pev p x * pev q x - cf (pmul p q) 0 := by
  rw [← pev_padd]
  have e : pev (padd (padd (wp (trim (pmul (dv p) q))) (wp (trim (pmul p (dv q))))) [cf (pmul p q) 0]) x = pev (pmul p q) x := pev_eqv (fun n => by
    rw [cf_padd, cf_padd]
    cases n with
    | zero => show (0 : Rat) + 0 + cf (pmul p q) 0 = _; grind
    | succ n =>
      show cf (ip _) n + cf (ip _) n + cf [] n = _
      rw [cf_ip, cf_ip, cf_nil, cf_trim, cf_trim]
      have h1 := dv_pmul q p n
      have h2 := nq_ne (Nat.succ_pos n)
      grind) x
  rw [pev_padd (q := [cf (pmul p q) 0]), pev_one, pev_pmul] at e
  grind
end Bc
namespace Bc
/-! ## numbers with a known divisor -/
def Dn (m M : Nat) (q : Rat) : Prop := ∃ z : Int, q * nq m = ((z : Int) : Rat) ∧ z.natAbs ≤ M
theorem nq_mul (a b : Nat) : nq (a * b) = nq a * nq b := by
  unfold nq
  rw [Int.natCast_mul, Rat.intCast_mul]
theorem nq_add (a b : Nat) : nq (a + b) = nq a + nq b := by
  unfold nq
  rw [Int.natCast_add, Rat.intCast_add]
theorem Dn.bd {m M k : Nat} {q : Rat} (h : Dn m M q) (h0 : 0 < m) (hm : m < 2 ^ k) (hM : M < 2 ^ k) : Bd k q := by
  obtain ⟨z, e, hz⟩ := h
  have e2 : q = Rat.divInt z (m : Int) := by
    rw [divInt_eq (by omega)]
    have := nq_ne h0
    have e3 : (((m : Nat) : Int) : Rat) = nq m := rfl
    rw [e3, ← e]
    grind
  rw [e2]
  exact div_bd (by omega) (by omega) (by omega)
theorem Dn.le {m A B : Nat} {q : Rat} (h : Dn m A q) (e : A ≤ B) : Dn m B q := let ⟨z, h1, h2⟩ := h; ⟨z, h1, Nat.le_trans h2 e⟩
theorem Dn.add {m A B : Nat} {a b : Rat} (ha : Dn m A a) (hb : Dn m B b) : Dn m (A + B) (a + b) := by
  obtain ⟨x, e1, h1⟩ := ha
  obtain ⟨y, e2, h2⟩ := hb
  exact ⟨x + y, by rw [Rat.intCast_add, ← e1, ← e2]; grind, by omega⟩
theorem Dn.sub {m A B : Nat} {a b : Rat} (ha : Dn m A a) (hb : Dn m B b) : Dn m (A + B) (a - b) := by
  obtain ⟨x, e1, h1⟩ := ha
  obtain ⟨y, e2, h2⟩ := hb
  exact ⟨x - y, by rw [Rat.intCast_sub, ← e1, ← e2]; grind, by omega⟩
theorem Dn.mul {m n A B : Nat} {a b : Rat} (ha : Dn m A a) (hb : Dn n B b) : Dn (m * n) (A * B) (a * b) := by
  obtain ⟨x, e1, h1⟩ := ha
  obtain ⟨y, e2, h2⟩ := hb
  refine ⟨x * y, by rw [Rat.intCast_mul, ← e1, ← e2, nq_mul]; grind, ?_⟩
  rw [Int.natAbs_mul]
  exact Nat.mul_le_mul h1 h2
theorem Dn.scale {m A : Nat} {a : Rat} (ha : Dn m A a) (n : Nat) : Dn (m * n) (A * n) a := by
  obtain ⟨x, e1, h1⟩ := ha
  refine ⟨x * (n : Int), by rw [Rat.intCast_mul, ← e1, nq_mul]; show a * (nq m * nq n) = a * nq m * nq n; grind, ?_⟩
  rw [Int.natAbs_mul]
  exact Nat.mul_le_mul h1 (by omega)
theorem Dn.zero (m : Nat) : Dn m 0 0 := ⟨0, by show 0 * nq m = (0 : Rat); grind, Nat.le_refl _⟩
theorem Dn.one : Dn 1 1 1 := ⟨1, by have : nq 1 = 1 := rfl; rw [this]; show (1 : Rat) * 1 = ((1 : Int) : Rat); grind, Nat.le_refl _⟩
theorem Dn.nat (n : Nat) : Dn 1 n (nq n) := ⟨(n : Int), by have : nq 1 = 1 := rfl; rw [this]; show nq n * 1 = nq n; grind, by omega⟩
/-- a ratio of small numbers -/
theorem Dn.of_bd {q : Rat} (h : Bd 3 q) : Dn 840 5880 q := by
  obtain ⟨h1, h2⟩ := h
  have h0 := den_pos q
  have e8 : (2 : Nat) ^ 3 = 8 := rfl
  rw [e8] at h1 h2
  have hd : q.den ∣ 840 := by
    have : q.den = 1 ∨ q.den = 2 ∨ q.den = 3 ∨ q.den = 4 ∨ q.den = 5 ∨ q.den = 6 ∨ q.den = 7 := by omega
    rcases this with e | e | e | e | e | e | e <;> rw [e] <;> decide
  obtain ⟨d, hd⟩ := hd
  have hd2 : d ≤ 840 := by
    have : 1 * d ≤ q.den * d := Nat.mul_le_mul_right _ h0
    omega
  refine ⟨q.num * (d : Int), ?_, ?_⟩
  · rw [hd, nq_mul, Rat.intCast_mul, num_den q]
    show q * (nq q.den * nq d) = q * nq q.den * nq d
    grind
  · rw [Int.natAbs_mul]
    have : q.num.natAbs * d ≤ 7 * 840 := Nat.mul_le_mul (by omega) hd2
    show q.num.natAbs * d ≤ 5880
    omega
/-! ## Casteljau's averages -/
def avg (t : Rat) (f : Nat → Rat) (i : Nat) : Rat := f i + t * (f (i + 1) - f i)
def avgs (t : Rat) (f : Nat → Rat) : Nat → Nat → Rat
  | 0, i => f i
  | n + 1, i => avgs t f n i + t * (avgs t f n (i + 1) - avgs t f n i)
theorem avgs_shift (t : Rat) (f : Nat → Rat) : ∀ n i, avgs t f (n + 1) i = avgs t (avg t f) n i
  | 0, i => rfl
  | n + 1, i => by
    show avgs t f (n + 1) i + t * (avgs t f (n + 1) (i + 1) - avgs t f (n + 1) i) = avgs t (avg t f) n i + t * (avgs t (avg t f) n (i + 1) - avgs t (avg t f) n i)
    rw [avgs_shift t f n i, avgs_shift t f n (i + 1)]
theorem avgs_zero (f : Nat → Rat) : ∀ n i, avgs 0 f n i = f i
  | 0, _ => rfl
  | n + 1, i => by
    show avgs 0 f n i + 0 * (avgs 0 f n (i + 1) - avgs 0 f n i) = f i
    rw [avgs_zero f n i]; grind
theorem avgs_one (f : Nat → Rat) : ∀ n i, avgs 1 f n i = f (i + n)
  | 0, _ => rfl
  | n + 1, i => by
    show avgs 1 f n i + 1 * (avgs 1 f n (i + 1) - avgs 1 f n i) = f (i + (n + 1))
    rw [avgs_one f n i, avgs_one f n (i + 1)]
    have : i + 1 + n = i + (n + 1) := by omega
    rw [this]; grind
/-- between the least and the greatest -/
theorem avgs_above {t c : Rat} (h0 : 0 ≤ t) (h1 : t ≤ 1) {f : Nat → Rat} {N : Nat} (h : ∀ i, i ≤ N → c < f i) : ∀ n i, i + n ≤ N → c < avgs t f n i
  | 0, i, hi => h i (by omega)
  | n + 1, i, hi => by
    have a := avgs_above h0 h1 h n i (by omega)
    have b := avgs_above h0 h1 h n (i + 1) (by omega)
    show c < avgs t f n i + t * (avgs t f n (i + 1) - avgs t f n i)
    have e : avgs t f n i + t * (avgs t f n (i + 1) - avgs t f n i) = c + ((1 - t) * (avgs t f n i - c) + t * (avgs t f n (i + 1) - c)) := by grind
    rw [e]
    have p1 : 0 ≤ (1 - t) * (avgs t f n i - c) := Rat.mul_nonneg (by grind) (by grind)
    have p2 : 0 ≤ t * (avgs t f n (i + 1) - c) := Rat.mul_nonneg h0 (by grind)
    rcases Rat.le_total (a := t) (b := 1 / 2) with z | z
    · have p3 : 0 < (1 - t) * (avgs t f n i - c) := Rat.mul_pos (by grind) (by grind)
      grind
    · have p3 : 0 < t * (avgs t f n (i + 1) - c) := Rat.mul_pos (by grind) (by grind)
      grind
theorem avgs_below {t c : Rat} (h0 : 0 ≤ t) (h1 : t ≤ 1) {f : Nat → Rat} {N : Nat} (h : ∀ i, i ≤ N → f i < c) (n i : Nat) (hi : i + n ≤ N) : avgs t f n i < c := by
  have e : ∀ n i, avgs t (fun i => - f i) n i = - avgs t f n i := by
    intro n
    induction n with
    | zero => intro i; rfl
    | succ n ih =>
      intro i
      show avgs t (fun i => - f i) n i + t * (avgs t (fun i => - f i) n (i + 1) - avgs t (fun i => - f i) n i) = -(avgs t f n i + t * (avgs t f n (i + 1) - avgs t f n i))
      rw [ih, ih]; grind
  have := avgs_above (c := -c) h0 h1 (f := fun i => - f i) (N := N) (fun i hi => by have := h i hi; grind) n i hi
  rw [e] at this
  grind
theorem avgs_dn {t : Rat} (ht : Dn 840 5880 t) {f : Nat → Rat} (hf : ∀ i, Dn 840 5880 (f i)) : ∀ n i, Dn (840 ^ (n + 1)) (5880 * 12600 ^ n) (avgs t f n i)
  | 0, i => (hf i).le (by decide)
  | n + 1, i => by
    have a := avgs_dn ht hf n i
    have b := avgs_dn ht hf n (i + 1)
    have c := (b.sub a)
    have d := c.mul ht
    have e := (a.scale 840).add d
    have e1 : avgs t f (n + 1) i = avgs t f n i + (avgs t f n (i + 1) - avgs t f n i) * t := by
      show avgs t f n i + t * (avgs t f n (i + 1) - avgs t f n i) = _
      grind
    rw [e1, Nat.pow_succ]
    refine e.le ?_
    rw [Nat.pow_succ]
    omega
/-! ## sums, binomial weights -/
def sums (g : Nat → Rat) : Nat → Rat
  | 0 => 0
  | n + 1 => sums g n + g n
theorem sums_congr {g h : Nat → Rat} : ∀ {n : Nat}, (∀ i, i < n → g i = h i) → sums g n = sums h n
  | 0, _ => rfl
  | n + 1, e => by rw [sums, sums, sums_congr fun i hi => e i (by omega), e n (Nat.lt_succ_self _)]
/-- how often the i-th number comes -/
def wt (t : Rat) : Nat → Nat → Rat
  | 0, 0 => 1
  | 0, _ + 1 => 0
  | n + 1, 0 => (1 - t) * wt t n 0
  | n + 1, i + 1 => (1 - t) * wt t n (i + 1) + t * wt t n i
theorem wt_big (t : Rat) : ∀ n i, n < i → wt t n i = 0
  | _, 0, h => by omega
  | 0, i + 1, _ => rfl
  | n + 1, i + 1, h => by
    rw [wt, wt_big t n (i + 1) (by omega), wt_big t n i (by omega)]; grind
theorem sums_shift (t : Rat) (f : Nat → Rat) (n : Nat) : ∀ m, sums (fun i => wt t n i * avg t f i) m = sums (fun i => wt t (n + 1) i * f i) m + (match m with | 0 => 0 | m + 1 => t * wt t n m * f (m + 1))
  | 0 => by show (0 : Rat) = 0 + 0; grind
  | m + 1 => by
    have ih := sums_shift t f n m
    rw [sums, sums, ih]
    cases m with
    | zero =>
      show sums _ 0 + 0 + wt t n 0 * (f 0 + t * (f 1 - f 0)) = sums _ 0 + (1 - t) * wt t n 0 * f 0 + t * wt t n 0 * f 1
      grind
    | succ m =>
      show _ + t * wt t n m * f (m + 1) + wt t n (m + 1) * (f (m + 1) + t * (f (m + 1 + 1) - f (m + 1))) = _ + ((1 - t) * wt t n (m + 1) + t * wt t n m) * f (m + 1) + t * wt t n (m + 1) * f (m + 1 + 1)
      grind
theorem avgs_sum (t : Rat) : ∀ (n : Nat) (f : Nat → Rat), avgs t f n 0 = sums (fun i => wt t n i * f i) (n + 1)
  | 0, f => by show f 0 = 0 + 1 * f 0; grind
  | n + 1, f => by
    rw [avgs_shift, avgs_sum t n (avg t f), sums_shift]
    show sums (fun i => wt t (n + 1) i * f i) (n + 1) + t * wt t n n * f (n + 1) = sums (fun i => wt t (n + 1) i * f i) (n + 1) + ((1 - t) * wt t n (n + 1) + t * wt t n n) * f (n + 1)
    rw [wt_big t n (n + 1) (Nat.lt_succ_self _)]
    grind
def chs : Nat → Nat → Nat
  | _, 0 => 1
  | 0, _ + 1 => 0
  | n + 1, k + 1 => chs n (k + 1) + chs n k
theorem chs_big : ∀ n k, n < k → chs n k = 0
  | _, 0, h => by omega
  | 0, k + 1, _ => rfl
  | n + 1, k + 1, h => by rw [chs, chs_big n (k + 1) (by omega), chs_big n k (by omega)]
theorem chs_self : ∀ n, chs n n = 1
  | 0 => rfl
  | n + 1 => by rw [chs, chs_big n (n + 1) (Nat.lt_succ_self _), chs_self n]
theorem chs_step : ∀ n k, chs n (k + 1) * (k + 1) + chs n k * k = chs n k * n
  | 0, 0 => rfl
  | 0, k + 1 => by show 0 * _ + 0 * _ = 0 * 0; omega
  | n + 1, 0 => by
    have e : chs n 0 = 1 := by cases n <;> rfl
    have h1 : chs n 1 * 1 + chs n 0 * 0 = chs n 0 * n := chs_step n 0
    show (chs n 1 + chs n 0) * (0 + 1) + 1 * 0 = 1 * (n + 1)
    rw [e] at h1 ⊢
    omega
  | n + 1, k + 1 => by
    have h1 := chs_step n (k + 1)
    have h2 := chs_step n k
    show (chs n (k + 1 + 1) + chs n (k + 1)) * (k + 1 + 1) + (chs n (k + 1) + chs n k) * (k + 1) = (chs n (k + 1) + chs n k) * (n + 1)
    grind
theorem wt_eq (t : Rat) : ∀ n i, i ≤ n → wt t n i = nq (chs n i) * t ^ i * (1 - t) ^ (n - i)
  | 0, 0, _ => by show (1 : Rat) = nq 1 * t ^ 0 * (1 - t) ^ 0; have : nq 1 = 1 := rfl; rw [this]; grind
  | 0, i + 1, h => by omega
  | n + 1, 0, _ => by
    rw [wt, wt_eq t n 0 (Nat.zero_le _)]
    have e : chs n 0 = 1 := by cases n <;> rfl
    have e2 : chs (n + 1) 0 = 1 := rfl
    rw [e, e2]
    show (1 - t) * (nq 1 * t ^ 0 * (1 - t) ^ (n - 0)) = nq 1 * t ^ 0 * (1 - t) ^ (n + 1 - 0)
    rw [Nat.sub_zero, Nat.sub_zero]
    have e3 : (1 - t) ^ (n + 1) = (1 - t) ^ n * (1 - t) := by grind
    rw [e3]; grind
  | n + 1, i + 1, h => by
    rw [wt, chs, nq_add]
    have e4 : n + 1 - (i + 1) = n - i := by omega
    rw [e4, wt_eq t n i (by omega)]
    have e5 : t ^ (i + 1) = t ^ i * t := by grind
    by_cases z : i + 1 ≤ n
    · rw [wt_eq t n (i + 1) z]
      have e6 : n - i = (n - (i + 1)) + 1 := by omega
      rw [e6]
      have e7 : (1 - t) ^ (n - (i + 1) + 1) = (1 - t) ^ (n - (i + 1)) * (1 - t) := by grind
      rw [e7, e5]; grind
    · have e6 : n = i := by omega
      subst e6
      rw [wt_big t n (n + 1) (Nat.lt_succ_self _), chs_big n (n + 1) (Nat.lt_succ_self _), e5, nq_zero]; grind
end Bc
namespace Bc
theorem pmul_comm_cf (u v : List Rat) (n : Nat) : cf (pmul u v) n = cf (pmul v u) n := pev_inj (fun x => by rw [pev_pmul, pev_pmul]; grind) n
theorem cf_pmul_two (u : List Rat) (a b : Rat) (n : Nat) : cf (pmul u [a, b]) n = a * cf u n + (match n with | 0 => 0 | n + 1 => b * cf u n) := by
  rw [pmul_comm_cf, cf_pmul_cons]
  cases n with
  | zero => rfl
  | succ n =>
    show a * cf u (n + 1) + cf (pmul [b] u) n = a * cf u (n + 1) + b * cf u n
    rw [cf_pmul_cons]
    cases n with
    | zero => show _ + (b * cf u 0 + 0) = _; grind
    | succ n => show _ + (b * cf u (n + 1) + 0) = _; grind
/-- x, .., x, (1 - x), .., (1 - x) -/
def prt (at' : Nat) : Nat → List Rat
  | 0 => [1]
  | j + 1 => trim (pmul (prt at' j) (if j < at' then [0, 1] else [1, -1]))
theorem prt_pev (a : Nat) (x : Rat) : ∀ j, pev (prt a j) x = x ^ (min j a) * (1 - x) ^ (j - a)
  | 0 => by
    rw [prt, pev_one, Nat.zero_min, Nat.zero_sub]; grind
  | j + 1 => by
    rw [prt, pev_trim, pev_pmul, prt_pev a x j]
    by_cases h : j < a
    · rw [if_pos h, pev_two, Nat.min_eq_left (by omega), Nat.min_eq_left (by omega), show j - a = 0 by omega, show j + 1 - a = 0 by omega]
      have : x ^ (j + 1) = x ^ j * x := by grind
      rw [this]; grind
    · rw [if_neg h, pev_two, Nat.min_eq_right (by omega), Nat.min_eq_right (by omega), show j + 1 - a = (j - a) + 1 by omega]
      have : (1 - x) ^ (j - a + 1) = (1 - x) ^ (j - a) * (1 - x) := by grind
      rw [this]; grind
theorem prt_len (a : Nat) : ∀ j, (prt a j).length ≤ j + 1
  | 0 => Nat.le_refl _
  | j + 1 => by
    have h1 := prt_len a j
    rw [prt]
    have h2 := trim_len (pmul (prt a j) (if j < a then [0, 1] else [1, -1]))
    have h3 := pmul_len (prt a j) (if j < a then [0, 1] else [1, -1])
    have h4 : (if j < a then [(0 : Rat), 1] else [1, -1]).length = 2 := by split <;> rfl
    omega
theorem prt_dn (a : Nat) : ∀ j n, Dn 1 (2 ^ j) (cf (prt a j) n)
  | 0, 0 => Dn.one
  | 0, n + 1 => (Dn.zero 1).le (Nat.zero_le _)
  | j + 1, n => by
    rw [prt, cf_trim]
    have ih := prt_dn a j
    have e2 : 2 ^ (j + 1) = 2 ^ j + 2 ^ j := by rw [Nat.pow_succ]; omega
    by_cases h : j < a
    · rw [if_pos h, cf_pmul_two, e2]
      cases n with
      | zero => show Dn 1 _ (0 * cf (prt a j) 0 + 0); have : (0 : Rat) * cf (prt a j) 0 + 0 = 0 := by grind
                rw [this]; exact (Dn.zero 1).le (Nat.zero_le _)
      | succ n => show Dn 1 _ (0 * cf (prt a j) (n + 1) + 1 * cf (prt a j) n); have : (0 : Rat) * cf (prt a j) (n + 1) + 1 * cf (prt a j) n = cf (prt a j) n := by grind
                  rw [this]; exact (ih n).le (Nat.le_add_right _ _)
    · rw [if_neg h, cf_pmul_two, e2]
      cases n with
      | zero => show Dn 1 _ (1 * cf (prt a j) 0 + 0); have : (1 : Rat) * cf (prt a j) 0 + 0 = cf (prt a j) 0 := by grind
                rw [this]; exact (ih 0).le (Nat.le_add_right _ _)
      | succ n => show Dn 1 _ (1 * cf (prt a j) (n + 1) + -1 * cf (prt a j) n); have : (1 : Rat) * cf (prt a j) (n + 1) + -1 * cf (prt a j) n = cf (prt a j) (n + 1) - cf (prt a j) n := by grind
                  rw [this]; exact (ih (n + 1)).sub (ih n)
/-- the polynomial of a row, i of its numbers done -/
def fu (p : List Rat) (m : Nat) : Nat → List Rat
  | 0 => []
  | i + 1 => trim (padd (fu p m i) (trim (smul (cf p i * nq (chs m i)) (prt i m))))
def up (p : List Rat) : List Rat := fu p (p.length - 1) p.length
theorem fu_pev (p : List Rat) (m : Nat) (x : Rat) : ∀ i, i ≤ m + 1 → pev (fu p m i) x = sums (fun j => wt x m j * cf p j) i
  | 0, _ => rfl
  | i + 1, h => by
    rw [fu, pev_trim, pev_padd, pev_trim, pev_smul, prt_pev, fu_pev p m x i (by omega), sums, wt_eq x m i (by omega), Nat.min_eq_right (by omega)]
    grind
theorem up_pev (p : List Rat) (h : 1 ≤ p.length) (x : Rat) : pev (up p) x = avgs x (cf p) (p.length - 1) 0 := by
  rw [avgs_sum, up, fu_pev p _ x _ (by omega)]
  have e : p.length - 1 + 1 = p.length := by omega
  rw [e]
theorem fu_len (p : List Rat) (m : Nat) : ∀ i, (fu p m i).length ≤ m + 1
  | 0 => Nat.zero_le _
  | i + 1 => by
    rw [fu]
    have h1 := trim_len (padd (fu p m i) (trim (smul (cf p i * nq (chs m i)) (prt i m))))
    rw [padd_len] at h1
    have h2 := trim_len (smul (cf p i * nq (chs m i)) (prt i m))
    have h3 : (smul (cf p i * nq (chs m i)) (prt i m)).length = (prt i m).length := List.length_map _
    have h4 := prt_len i m
    have h5 := fu_len p m i
    omega
theorem can_fu (p : List Rat) (m : Nat) : ∀ i, Can (fu p m i)
  | 0 => rfl
  | i + 1 => can_trim _
theorem chs_le : ∀ m, m < 9 → ∀ i, i < 9 → chs m i ≤ 70 := by decide +kernel
theorem smul_dn {p : List Rat} {m M d : Nat} (h : ∀ i, Dn m M (cf p i)) (hd : d < 9) {i : Nat} (hi : i < 9) (n : Nat) : Dn m (M * 17920) (cf (trim (smul (cf p i * nq (chs d i)) (prt i d))) n) := by
  rw [cf_trim, cf_smul]
  have h1 := (h i).mul (Dn.nat (chs d i))
  have h2 := h1.mul (prt_dn i d n)
  rw [Nat.mul_one, Nat.mul_one] at h2
  refine h2.le ?_
  have h3 := chs_le d hd i hi
  have h4 : 2 ^ d ≤ 2 ^ 8 := Nat.pow_le_pow_right (by decide) (by omega)
  have h5 : chs d i * 2 ^ d ≤ 70 * 2 ^ 8 := Nat.mul_le_mul h3 h4
  rw [Nat.mul_assoc]
  exact Nat.mul_le_mul_left _ h5
theorem fu_dn {p : List Rat} {m M d : Nat} (h : ∀ i, Dn m M (cf p i)) (hd : d < 9) : ∀ i, i ≤ 9 → ∀ n, Dn m (i * (M * 17920)) (cf (fu p d i) n)
  | 0, _, n => by rw [Nat.zero_mul]; exact Dn.zero m
  | i + 1, hi, n => by
    rw [fu, cf_trim, cf_padd, Nat.succ_mul]
    exact (fu_dn h hd i (by omega) n).add (smul_dn h hd (by omega) n)
theorem dn_list {q : List Rat} {m M k : Nat} (h : ∀ n, Dn m M (cf q n)) (h0 : 0 < m) (hm : m < 2 ^ k) (hM : M < 2 ^ k) : ∀ c ∈ q, Bd k c := bd_mem fun n => (h n).bd h0 hm hM
theorem chs_two : ∀ n k, chs n k ≤ 2 ^ n
  | 0, 0 => Nat.le_refl _
  | _ + 1, 0 => Nat.one_le_two_pow
  | 0, _ + 1 => Nat.zero_le _
  | n + 1, k + 1 => by
    have h1 := chs_two n (k + 1)
    have h2 := chs_two n k
    rw [chs, Nat.pow_succ]; omega
theorem chs_div {n k : Nat} (h : k < n) : ((chs n k : Nat) : Int) * ((n : Int) - (k : Int)) = ((chs n (k + 1) : Nat) : Int) * ((k : Int) + 1) := by
  have e := chs_step n k
  have e2 : ((chs n (k + 1) * (k + 1) + chs n k * k : Nat) : Int) = ((chs n k * n : Nat) : Int) := by rw [e]
  rw [Int.natCast_add, Int.natCast_mul, Int.natCast_mul, Int.natCast_mul] at e2
  have e3 : ((k + 1 : Nat) : Int) = (k : Int) + 1 := by omega
  rw [e3] at e2
  grind
/-- Casteljau's j-th row -/
def arow (t : Rat) (p : List Rat) (j : Nat) : List Rat := (List.range (p.length - j)).map (avgs t (cf p) j)
theorem arow_len (t : Rat) (p : List Rat) (j : Nat) : (arow t p j).length = p.length - j := by unfold arow; rw [List.length_map, List.length_range]
theorem arow_get {t : Rat} {p : List Rat} {j i : Nat} (h : i < p.length - j) : (arow t p j)[i]? = some (avgs t (cf p) j i) := by
  unfold arow
  rw [List.getElem?_map, List.getElem?_range h]; rfl
theorem arow_zero (t : Rat) (p : List Rat) : arow t p 0 = p := by
  apply List.ext_getElem?
  intro i
  by_cases h : i < p.length
  · rw [arow_get (by omega), List.getElem?_eq_getElem h, avgs, cf_lt h]
  · rw [List.getElem?_eq_none (by rw [arow_len]; omega), List.getElem?_eq_none (by omega)]
end Bc
namespace Bc
/-! ## sums of products of places -/
def pe (f : Nat → Rat) : Nat → List Rat
  | 0 => [1]
  | j + 1 => padd (pe f j) (0 :: smul (f j) (pe f j))
theorem pe_len (f : Nat → Rat) : ∀ j, (pe f j).length = j + 1
  | 0 => rfl
  | j + 1 => by
    rw [pe, padd_len, List.length_cons]
    have e : (smul (f j) (pe f j)).length = (pe f j).length := List.length_map _
    rw [e, pe_len f j]; omega
theorem cf_pe_zero (f : Nat → Rat) (j : Nat) : cf (pe f (j + 1)) 0 = cf (pe f j) 0 := by
  rw [pe, cf_padd]
  show cf (pe f j) 0 + 0 = _
  grind
theorem cf_pe_succ (f : Nat → Rat) (j k : Nat) : cf (pe f (j + 1)) (k + 1) = cf (pe f j) (k + 1) + f j * cf (pe f j) k := by
  rw [pe, cf_padd, ← cf_smul]; rfl
def prg (g : Nat → Rat) : Nat → Rat
  | 0 => 1
  | n + 1 => prg g n * g n
theorem prg_congr {g h : Nat → Rat} : ∀ {n : Nat}, (∀ i, i < n → g i = h i) → prg g n = prg h n
  | 0, _ => rfl
  | n + 1, e => by rw [prg, prg, prg_congr fun i hi => e i (by omega), e n (Nat.lt_succ_self _)]
theorem prg_out (g : Nat → Rat) (a : Nat) : ∀ n, a < n → prg g n = g a * prg (fun i => if i = a then 1 else g i) n
  | 0, h => by omega
  | n + 1, h => by
    by_cases z : a = n
    · subst z
      rw [prg, prg, if_pos rfl, prg_congr (g := g) (h := fun i => if i = a then 1 else g i) fun i hi => by rw [if_neg (by omega)]]
      grind
    · rw [prg, prg, prg_out g a n (by omega), if_neg (by omega)]
      grind
theorem pev_pe (f : Nat → Rat) (z : Rat) : ∀ j, pev (pe f j) z = prg (fun i => 1 + f i * z) j
  | 0 => by rw [pe, pev_one]; rfl
  | j + 1 => by
    rw [pe, pev_padd, prg, ← pev_pe f z j]
    show pev (pe f j) z + (0 + z * pev (smul (f j) (pe f j)) z) = _
    rw [pev_smul]; grind
/-- the blossom -/
def bls (p : List Rat) (f : Nat → Rat) (n : Nat) : Rat := sums (fun k => cf p k * (cf (pe f n) k / nq (chs n k))) p.length
theorem chs_pos : ∀ n k, k ≤ n → 0 < chs n k
  | _, 0, _ => by rw [chs]; exact Nat.one_pos
  | 0, k + 1, h => by omega
  | n + 1, k + 1, h => by
    have := chs_pos n k (by omega)
    rw [chs]; omega
theorem pe_diag (f : Nat → Rat) (x : Rat) (n : Nat) (h : ∀ i, i < n → f i = x) : ∀ j, j ≤ n → ∀ k, cf (pe f j) k = nq (chs j k) * x ^ k
  | 0, _, 0 => by show (1 : Rat) = nq 1 * x ^ 0; have : nq 1 = 1 := rfl; rw [this]; grind
  | 0, _, k + 1 => by show (0 : Rat) = nq 0 * x ^ (k + 1); rw [nq_zero]; grind
  | j + 1, hj, 0 => by
    rw [cf_pe_zero, pe_diag f x n h j (by omega) 0]
    have e1 : chs j 0 = 1 := by cases j <;> rfl
    have e2 : chs (j + 1) 0 = 1 := rfl
    rw [e1, e2]
  | j + 1, hj, k + 1 => by
    rw [cf_pe_succ, pe_diag f x n h j (by omega) (k + 1), pe_diag f x n h j (by omega) k, h j (by omega), chs, nq_add]
    have e : x ^ (k + 1) = x ^ k * x := by grind
    rw [e]; grind
theorem sums_front (g : Nat → Rat) : ∀ n, sums g (n + 1) = g 0 + sums (fun k => g (k + 1)) n
  | 0 => by show 0 + g 0 = g 0 + 0; grind
  | n + 1 => by rw [sums, sums_front g n, sums]; grind
theorem sums_mul (c : Rat) (g : Nat → Rat) : ∀ n, sums (fun k => c * g k) n = c * sums g n
  | 0 => by show (0 : Rat) = c * 0; grind
  | n + 1 => by rw [sums, sums, sums_mul c g n]; grind
theorem pev_sums (x : Rat) : ∀ p : List Rat, pev p x = sums (fun k => cf p k * x ^ k) p.length
  | [] => rfl
  | c :: p => by
    rw [List.length_cons, sums_front]
    have e : sums (fun k => cf (c :: p) (k + 1) * x ^ (k + 1)) p.length = sums (fun k => x * (cf p k * x ^ k)) p.length := sums_congr fun k _ => by
      show cf p k * x ^ (k + 1) = _
      have e : x ^ (k + 1) = x ^ k * x := by grind
      rw [e]; grind
    rw [e, sums_mul, ← pev_sums x p]
    show c + x * pev p x = c * x ^ 0 + _
    grind
theorem bls_diag {p : List Rat} {f : Nat → Rat} {x : Rat} {n : Nat} (h : ∀ i, i < n → f i = x) (hl : p.length ≤ n + 1) : bls p f n = pev p x := by
  rw [pev_sums]
  refine sums_congr fun k hk => ?_
  rw [pe_diag f x n h n (Nat.le_refl _) k]
  have hc := nq_ne (chs_pos n k (by omega))
  have e : nq (chs n k) * x ^ k / nq (chs n k) = x ^ k := by
    rw [Rat.div_def]; grind
  rw [e]
theorem bls_congr {p : List Rat} {f g : Nat → Rat} {n : Nat} (h : ∀ z, prg (fun i => 1 + f i * z) n = prg (fun i => 1 + g i * z) n) : bls p f n = bls p g n :=
  sums_congr fun k _ => by
    have e : cf (pe f n) k = cf (pe g n) k := pev_inj (fun z => by rw [pev_pe, pev_pe, h z]) k
    rw [e]
theorem bls_swap {p : List Rat} {f g : Nat → Rat} {n a b : Nat} (ha : a < n) (hb : b < n) (h1 : g a = f b) (h2 : g b = f a) (h3 : ∀ i, i < n → i ≠ a → i ≠ b → g i = f i) : bls p g n = bls p f n := bls_congr fun z => by
  by_cases e : a = b
  · subst e
    refine prg_congr fun i hi => ?_
    by_cases q : i = a
    · subst q; rw [h1]
    · rw [h3 i hi q q]
  · have A : ∀ q : Nat → Rat, prg (fun i => 1 + q i * z) n = (1 + q a * z) * ((1 + q b * z) * prg (fun i => if i = b then 1 else if i = a then 1 else 1 + q i * z) n) := fun q => by
      rw [prg_out (fun i => 1 + q i * z) a n ha, prg_out (fun i => if i = a then 1 else 1 + q i * z) b n hb, if_neg (Ne.symm e)]
    have e2 : prg (fun i => if i = b then 1 else if i = a then 1 else 1 + g i * z) n = prg (fun i => if i = b then 1 else if i = a then 1 else 1 + f i * z) n := prg_congr fun i hi => by
      by_cases q1 : i = b
      · rw [if_pos q1, if_pos q1]
      · by_cases q2 : i = a
        · rw [if_neg q1, if_neg q1, if_pos q2, if_pos q2]
        · rw [if_neg q1, if_neg q1, if_neg q2, if_neg q2, h3 i hi q2 q1]
    rw [A g, A f, e2, h1, h2]
    grind
theorem sums_lin {g1 g2 g3 : Nat → Rat} {t : Rat} : ∀ {n : Nat}, (∀ k, k < n → g3 k = g1 k + t * (g2 k - g1 k)) → sums g3 n = sums g1 n + t * (sums g2 n - sums g1 n)
  | 0, _ => by show (0 : Rat) = 0 + t * (0 - 0); grind
  | n + 1, h => by rw [sums, sums, sums, sums_lin fun k hk => h k (by omega), h n (Nat.lt_succ_self _)]; grind
theorem bls_lin {p : List Rat} {f1 f2 f3 : Nat → Rat} {n a : Nat} {t : Rat} (ha : a < n) (h : f3 a = f1 a + t * (f2 a - f1 a)) (h2 : ∀ i, i < n → i ≠ a → f2 i = f1 i) (h3 : ∀ i, i < n → i ≠ a → f3 i = f1 i) :
    bls p f3 n = bls p f1 n + t * (bls p f2 n - bls p f1 n) := by
  refine sums_lin fun k _ => ?_
  have e : cf (pe f3 n) k = cf (padd (pe f1 n) (smul t (padd (pe f2 n) (smul (-1) (pe f1 n))))) k := pev_inj (fun z => by
    rw [pev_padd, pev_smul, pev_padd, pev_smul, pev_pe, pev_pe, pev_pe, prg_out (fun i => 1 + f3 i * z) a n ha, prg_out (fun i => 1 + f2 i * z) a n ha, prg_out (fun i => 1 + f1 i * z) a n ha]
    have e2 : prg (fun i => if i = a then 1 else 1 + f2 i * z) n = prg (fun i => if i = a then 1 else 1 + f1 i * z) n := prg_congr fun i hi => by
      by_cases q : i = a
      · rw [if_pos q, if_pos q]
      · rw [if_neg q, if_neg q, h2 i hi q]
    have e3 : prg (fun i => if i = a then 1 else 1 + f3 i * z) n = prg (fun i => if i = a then 1 else 1 + f1 i * z) n := prg_congr fun i hi => by
      by_cases q : i = a
      · rw [if_pos q, if_pos q]
      · rw [if_neg q, if_neg q, h3 i hi q]
    rw [e2, e3, h]
    grind) k
  rw [e, cf_padd, cf_smul, cf_padd, cf_smul, Rat.div_def, Rat.div_def, Rat.div_def]
  grind
theorem pe_dn {m M : Nat} {f : Nat → Rat} (h : ∀ i, Dn m M (f i)) : ∀ j k, Dn (m ^ j) ((m + M) ^ j) (cf (pe f j) k)
  | 0, 0 => Dn.one
  | 0, k + 1 => (Dn.zero 1).le (Nat.zero_le _)
  | j + 1, 0 => by
    rw [cf_pe_zero, Nat.pow_succ, Nat.pow_succ]
    exact ((pe_dn h j 0).scale m).le (Nat.mul_le_mul_left _ (Nat.le_add_right _ _))
  | j + 1, k + 1 => by
    rw [cf_pe_succ, Nat.pow_succ, Nat.pow_succ, Nat.mul_add]
    have e : f j * cf (pe f j) k = cf (pe f j) k * f j := by grind
    rw [e]
    exact ((pe_dn h j (k + 1)).scale m).add ((pe_dn h j k).mul (h j))
theorem sums_bd {g : Nat → Rat} {k : Nat} : ∀ {n : Nat}, (∀ i, i < n → Bd k (g i)) → Bd (1 + n * (k + 1)) (sums g n)
  | 0, _ => by rw [Nat.zero_mul]; exact Bd.zero
  | n + 1, h => by
    rw [sums, Nat.succ_mul]
    exact ((sums_bd fun i hi => h i (by omega)).add (h n (Nat.lt_succ_self _))).le (by omega)
theorem ext_cf {p q : List Rat} (hl : p.length = q.length) (h : ∀ n, cf p n = cf q n) : p = q := by
  apply List.ext_getElem hl
  intro i h1 h2
  rw [← cf_lt h1, ← cf_lt h2, h i]
end Bc
namespace Bc
/-! ## rows of one degree more and of one degree less -/
/-- the i-th number of the raised row -/
def rsf (p : List Rat) (i : Nat) : Rat := cf p i + nq i / nq p.length * (cf p (i - 1) - cf p i)
def rse (p : List Rat) : List Rat := (List.range (p.length + 1)).map (rsf p)
theorem rse_len (p : List Rat) : (rse p).length = p.length + 1 := by unfold rse; rw [List.length_map, List.length_range]
theorem cf_map_range (f : Nat → Rat) (n i : Nat) (h : i < n) : cf ((List.range n).map f) i = f i := by
  rw [cf_lt (by rw [List.length_map, List.length_range]; exact h), List.getElem_map, List.getElem_range]
theorem cf_rse {p : List Rat} {i : Nat} (h : i ≤ p.length) : cf (rse p) i = rsf p i := cf_map_range _ _ _ (by omega)
theorem rsf_zero (p : List Rat) : rsf p 0 = cf p 0 := by
  unfold rsf
  rw [nq_zero, Rat.div_def]; grind
theorem rsf_last {p : List Rat} (h : 1 ≤ p.length) : rsf p p.length = cf p (p.length - 1) := by
  unfold rsf
  have h1 := nq_ne h
  rw [cf_ge (p := p) (Nat.le_refl _), Rat.div_def]
  grind
/-- the numbers of the row of one degree less, d the degree -/
def lof (p : List Rat) (d : Nat) : Nat → Rat
  | 0 => cf p 0
  | j + 1 => (cf p (j + 1) - nq (j + 1) / nq d * lof p d j) / (nq (d - (j + 1)) / nq d)
def low (p : List Rat) (d : Nat) : List Rat := (List.range d).map (lof p d)
theorem low_len (p : List Rat) (d : Nat) : (low p d).length = d := by unfold low; rw [List.length_map, List.length_range]
theorem cf_low {p : List Rat} {d i : Nat} (h : i < d) : cf (low p d) i = lof p d i := cf_map_range _ _ _ h
theorem nq_sub {d j : Nat} (h : j ≤ d) : nq (d - j) = nq d - nq j := by
  have e : d = (d - j) + j := by omega
  have e2 : nq d = nq (d - j) + nq j := by rw [← nq_add, ← e]
  rw [e2]; grind
/-- lowering what was raised -/
theorem lof_rse (s : List Rat) : ∀ j, j < s.length → lof (rse s) s.length j = cf s j
  | 0, h => by rw [lof, cf_rse (Nat.zero_le _), rsf_zero]
  | j + 1, h => by
    rw [lof, lof_rse s j (by omega), cf_rse (by omega), rsf, Nat.add_sub_cancel, nq_sub (by omega)]
    have h1 := nq_ne (show 0 < s.length by omega)
    have h2 := nq_ne (show 0 < s.length - (j + 1) by omega)
    rw [nq_sub (by omega)] at h2
    rw [Rat.div_def, Rat.div_def, Rat.div_def]
    grind
/-- raising what was lowered -/
theorem rsf_low {p : List Rat} {d : Nat} (h0 : 0 < d) (hc : lof p d (d - 1) = cf p d) : ∀ i, i ≤ d → rsf (low p d) i = cf p i
  | 0, _ => by rw [rsf_zero, cf_low h0, lof]
  | j + 1, h => by
    by_cases z : j + 1 = d
    · subst z
      have e := rsf_last (p := low p (j + 1)) (by rw [low_len]; omega)
      rw [low_len] at e
      rw [e, cf_low (by omega)]
      exact hc
    · rw [rsf, low_len, Nat.add_sub_cancel, cf_low (by omega), cf_low (by omega), lof, nq_sub (by omega)]
      have h1 := nq_ne (show 0 < d by omega)
      have h2 := nq_ne (show 0 < d - (j + 1) by omega)
      rw [nq_sub (by omega)] at h2
      rw [Rat.div_def, Rat.div_def, Rat.div_def]
      grind
theorem rse_low {p : List Rat} {d : Nat} (h0 : 0 < d) (hl : p.length = d + 1) (hc : lof p d (d - 1) = cf p d) : rse (low p d) = p := by
  apply ext_cf (by rw [rse_len, low_len, hl])
  intro n
  by_cases z : n ≤ d
  · rw [cf_rse (by rw [low_len]; exact z), rsf_low h0 hc n z]
  · rw [cf_ge (by rw [rse_len, low_len]; omega), cf_ge (by omega)]
/-! binomials -/
theorem chs_low {d i : Nat} (h : i ≤ d) (h0 : 0 < d) : nq (chs d i) * (nq d - nq i) = nq (chs (d - 1) i) * nq d := by
  obtain ⟨e, rfl⟩ : ∃ e, d = e + 1 := ⟨d - 1, by omega⟩
  rw [Nat.add_sub_cancel]
  cases i with
  | zero =>
    have e1 : chs e 0 = 1 := by cases e <;> rfl
    have e2 : chs (e + 1) 0 = 1 := rfl
    rw [e1, e2, nq_zero]; grind
  | succ i =>
    have s1 := chs_step e i
    have s1' : nq (chs e (i + 1)) * nq (i + 1) + nq (chs e i) * nq i = nq (chs e i) * nq e := by
      rw [← nq_mul, ← nq_mul, ← nq_mul, ← nq_add, s1]
    rw [chs, nq_add, nq_add, nq_add, show nq 1 = (1 : Rat) from rfl] at *
    grind
theorem chs_up {d i : Nat} (h0 : 0 < d) : nq (chs d (i + 1)) * nq (i + 1) = nq (chs (d - 1) i) * nq d := by
  obtain ⟨e, rfl⟩ : ∃ e, d = e + 1 := ⟨d - 1, by omega⟩
  rw [Nat.add_sub_cancel]
  have s1 := chs_step e i
  have s1' : nq (chs e (i + 1)) * nq (i + 1) + nq (chs e i) * nq i = nq (chs e i) * nq e := by
    rw [← nq_mul, ← nq_mul, ← nq_mul, ← nq_add, s1]
  rw [chs, nq_add, nq_add, nq_add, show nq 1 = (1 : Rat) from rfl]
  rw [nq_add, show nq 1 = (1 : Rat) from rfl] at s1'
  grind
/-- the same polynomial -/
theorem sums_add (g h : Nat → Rat) : ∀ n, sums (fun k => g k + h k) n = sums g n + sums h n
  | 0 => by show (0 : Rat) = 0 + 0; grind
  | n + 1 => by rw [sums, sums, sums, sums_add g h n]; grind
theorem up_rse {s : List Rat} (h : 1 ≤ s.length) : up (rse s) = up s := by
  refine pev_can (can_fu _ _ _) (can_fu _ _ _) fun x => ?_
  show pev (up (rse s)) x = pev (up s) x
  rw [up_pev _ (by rw [rse_len]; omega), up_pev _ h, rse_len, Nat.add_sub_cancel, avgs_sum, avgs_sum]
  obtain ⟨e, he⟩ : ∃ e, s.length = e + 1 := ⟨s.length - 1, by omega⟩
  have hd := nq_ne (show 0 < e + 1 by omega)
  have e1 : sums (fun i => wt x s.length i * cf (rse s) i) (s.length + 1) = sums (fun i => (1 - x) * (wt x e i * cf s i) + (match i with | 0 => 0 | j + 1 => x * (wt x e j * cf s j))) (s.length + 1) := sums_congr fun i hi => by
    rw [cf_rse (by omega), he]
    cases i with
    | zero =>
      rw [rsf_zero]
      show ((1 - x) * wt x e 0) * cf s 0 = _
      grind
    | succ j =>
      rw [rsf, he, Nat.add_sub_cancel]
      have k1 := wt_eq x (e + 1) (j + 1) (by omega)
      have c2 := chs_up (d := e + 1) (i := j) (by omega)
      rw [Nat.add_sub_cancel] at c2
      have k2 := wt_eq x e j (by omega)
      have c1 := chs_low (d := e + 1) (i := j + 1) (by omega) (by omega)
      rw [Nat.add_sub_cancel] at c1
      have px : x ^ (j + 1) = x ^ j * x := by grind
      have A : wt x (e + 1) (j + 1) * (nq (j + 1) / nq (e + 1)) = x * wt x e j := by
        rw [k1, k2, px, Rat.div_def, show e + 1 - (j + 1) = e - j by omega]
        have : nq (chs e j) = nq (chs (e + 1) (j + 1)) * nq (j + 1) * (nq (e + 1))⁻¹ := by rw [c2]; grind
        rw [this]; grind
      have B : wt x (e + 1) (j + 1) * (1 - nq (j + 1) / nq (e + 1)) = (1 - x) * wt x e (j + 1) := by
        have : wt x (e + 1) (j + 1) = (1 - x) * wt x e (j + 1) + x * wt x e j := rfl
        grind
      show wt x (e + 1) (j + 1) * (cf s (j + 1) + nq (j + 1) / nq (e + 1) * (cf s j - cf s (j + 1))) = (1 - x) * (wt x e (j + 1) * cf s (j + 1)) + x * (wt x e j * cf s j)
      grind
  rw [e1, sums_add, sums_mul, sums_front (fun i => match i with | 0 => (0 : Rat) | j + 1 => x * (wt x e j * cf s j))]
  show (1 - x) * sums (fun i => wt x e i * cf s i) (s.length + 1) + (0 + sums (fun j => x * (wt x e j * cf s j)) s.length) = _
  rw [sums_mul, sums, cf_ge (p := s) (Nat.le_refl _), he, Nat.add_sub_cancel]
  grind
/-! the top coefficient -/
def alt (p : List Rat) (d : Nat) : Nat → Rat
  | 0 => cf p 0
  | k + 1 => nq (chs d (k + 1)) * cf p (k + 1) - alt p d k
theorem lof_alt {p : List Rat} {d : Nat} (h0 : 0 < d) : ∀ k, k < d → lof p d k * nq (chs (d - 1) k) = alt p d k
  | 0, _ => by
    have e1 : chs (d - 1) 0 = 1 := by cases (d - 1) <;> rfl
    rw [lof, alt, e1, show nq 1 = (1 : Rat) from rfl]; grind
  | k + 1, h => by
    have ih := lof_alt (p := p) h0 k (by omega)
    have h1 := nq_ne h0
    have h2 := nq_ne (show 0 < d - (k + 1) by omega)
    have c1 := chs_low (d := d) (i := k + 1) (by omega) h0
    have c2 := chs_up (d := d) (i := k) h0
    rw [alt, ← ih, lof]
    have e1 := nq_sub (d := d) (j := k + 1) (by omega)
    rw [e1] at h2 ⊢
    rw [Rat.div_def, Rat.div_def, Rat.div_def]
    have q1 : nq (chs (d - 1) (k + 1)) = nq (chs d (k + 1)) * (nq d - nq (k + 1)) * (nq d)⁻¹ := by rw [c1]; grind
    have q2 : nq (chs (d - 1) k) = nq (chs d (k + 1)) * nq (k + 1) * (nq d)⁻¹ := by rw [c2]; grind
    rw [q1, q2]
    grind
theorem low_iff {p : List Rat} {d : Nat} (h0 : 0 < d) : lof p d (d - 1) = cf p d ↔ alt p d d = 0 := by
  obtain ⟨e, rfl⟩ : ∃ e, d = e + 1 := ⟨d - 1, by omega⟩
  have h := lof_alt (p := p) h0 e (Nat.lt_succ_self _)
  rw [Nat.add_sub_cancel] at h ⊢
  rw [chs_self, show nq 1 = (1 : Rat) from rfl] at h
  rw [alt, chs_self, show nq 1 = (1 : Rat) from rfl]
  constructor <;> intro g <;> grind
theorem prt_top (a : Nat) : ∀ j, cf (prt a j) j = (-1) ^ (j - a)
  | 0 => by rw [prt, Nat.zero_sub]; show (1 : Rat) = (-1) ^ 0; grind
  | j + 1 => by
    rw [prt, cf_trim]
    have hl := prt_len a j
    by_cases h : j < a
    · rw [if_pos h, cf_pmul_two]
      show 0 * cf (prt a j) (j + 1) + 1 * cf (prt a j) j = _
      rw [prt_top a j, show j + 1 - a = j - a by omega]; grind
    · rw [if_neg h, cf_pmul_two]
      show 1 * cf (prt a j) (j + 1) + -1 * cf (prt a j) j = _
      rw [cf_ge (p := prt a j) (by omega), prt_top a j, show j + 1 - a = (j - a) + 1 by omega]
      have e : (-1 : Rat) ^ (j - a + 1) = (-1) ^ (j - a) * (-1) := by grind
      rw [e]; grind
theorem fu_top (p : List Rat) (m : Nat) : ∀ i, cf (fu p m i) m = sums (fun k => cf p k * nq (chs m k) * (-1) ^ (m - k)) i
  | 0 => rfl
  | i + 1 => by rw [fu, cf_trim, cf_padd, cf_trim, cf_smul, prt_top, fu_top p m i, sums]
theorem alt_sums (p : List Rat) (d : Nat) : ∀ k, k ≤ d → sums (fun i => cf p i * nq (chs d i) * (-1) ^ (d - i)) (k + 1) = (-1) ^ (d - k) * alt p d k
  | 0, _ => by
    have e1 : chs d 0 = 1 := by cases d <;> rfl
    show 0 + cf p 0 * nq (chs d 0) * (-1) ^ (d - 0) = _
    rw [e1, alt, show nq 1 = (1 : Rat) from rfl]; grind
  | k + 1, h => by
    rw [sums, alt_sums p d k (by omega), alt, show d - k = (d - (k + 1)) + 1 by omega]
    have e : (-1 : Rat) ^ (d - (k + 1) + 1) = (-1) ^ (d - (k + 1)) * (-1) := by grind
    rw [e]; grind
theorem up_top {p : List Rat} {d : Nat} (h : p.length = d + 1) : cf (up p) d = alt p d d := by
  unfold up
  rw [h, Nat.add_sub_cancel, fu_top, alt_sums p d d (Nat.le_refl _), Nat.sub_self]; grind
theorem cf_snoc' (L : List Rat) (c : Rat) (n : Nat) : cf (L ++ [c]) n = if n = L.length then c else cf L n := by
  by_cases h : n = L.length
  · subst h
    rw [if_pos rfl, cf_lt (by simp), List.getElem_append_right (Nat.le_refl _)]
    simp
  · rw [if_neg h]
    by_cases h2 : n < L.length
    · rw [cf_lt (by simp; omega), cf_lt h2, List.getElem_append_left h2]
    · rw [cf_ge (p := L) (by omega), cf_ge (by simp; omega)]
theorem up_len {p : List Rat} {d : Nat} (h : p.length = d + 1) : (up p).length < p.length ↔ alt p d d = 0 := by
  have h1 := fu_len p (p.length - 1) p.length
  have h2 : (up p).length ≤ d + 1 := by unfold up; omega
  rw [← up_top h, h]
  constructor
  · intro g; exact cf_ge (by omega)
  · intro g
    rcases Nat.lt_or_ge (up p).length (d + 1) with z | z
    · exact z
    · have e : (up p).length = d + 1 := by omega
      rcases can_last (can_fu p (p.length - 1) p.length) with q | ⟨r, b, q, hb⟩
      · exfalso
        have : (up p).length = 0 := by unfold up; rw [q]; rfl
        omega
      · exfalso
        have q' : up p = r ++ [b] := q
        have hr : r.length = d := by rw [q', List.length_append] at e; simpa using e
        rw [q', cf_snoc', if_pos hr.symm] at g
        exact hb g
/-! sizes -/
theorem rsf_dn {m M : Nat} {p : List Rat} (h : ∀ i, Dn m M (cf p i)) (h0 : 1 ≤ p.length) (h6 : p.length ≤ 6) (i : Nat) (hi : i ≤ p.length) : Dn (m * 60) (M * 180) (rsf p i) := by
  have hq : Dn 60 60 (nq i / nq p.length) := by
    have hn := nq_ne h0
    have hk : p.length = 1 ∨ p.length = 2 ∨ p.length = 3 ∨ p.length = 4 ∨ p.length = 5 ∨ p.length = 6 := by omega
    obtain ⟨c, hc⟩ : ∃ c : Nat, c * p.length = 60 := by
      rcases hk with e | e | e | e | e | e <;> rw [e]
      · exact ⟨60, rfl⟩
      · exact ⟨30, rfl⟩
      · exact ⟨20, rfl⟩
      · exact ⟨15, rfl⟩
      · exact ⟨12, rfl⟩
      · exact ⟨10, rfl⟩
    refine ⟨((i * c : Nat) : Int), ?_, ?_⟩
    · show nq i / nq p.length * nq 60 = nq (i * c)
      rw [← hc, nq_mul, nq_mul, Rat.div_def]; grind
    · have : i * c ≤ p.length * c := Nat.mul_le_mul_right _ hi
      rw [Nat.mul_comm p.length c, hc] at this
      omega
  have h1 := (h i).scale 60
  have h2 := ((h (i - 1)).sub (h i)).mul hq
  have e : nq i / nq p.length * (cf p (i - 1) - cf p i) = (cf p (i - 1) - cf p i) * (nq i / nq p.length) := by grind
  unfold rsf
  rw [e]
  exact (h1.add h2).le (by omega)
end Bc
namespace Bc
theorem alt_dn {m M : Nat} {p : List Rat} (h : ∀ i, Dn m M (cf p i)) {d : Nat} (hd : d ≤ 6) : ∀ k, Dn m (M * 64 * (k + 1)) (alt p d k)
  | 0 => (h 0).le (by omega)
  | k + 1 => by
    have h1 := (Dn.nat (chs d (k + 1))).mul (h (k + 1))
    rw [Nat.one_mul] at h1
    have h2 : chs d (k + 1) ≤ 64 := by
      have h1 := chs_two d (k + 1)
      have h2 : 2 ^ d ≤ 2 ^ 6 := Nat.pow_le_pow_right (by decide) hd
      have h3 : (2 : Nat) ^ 6 = 64 := by decide
      omega
    have h3 : chs d (k + 1) * M ≤ M * 64 := by rw [Nat.mul_comm M 64]; exact Nat.mul_le_mul_right _ h2
    rw [alt]
    exact (h1.sub (alt_dn h hd k)).le (by rw [Nat.mul_succ (M * 64) (k + 1)]; omega)
theorem chs_60 : ∀ d, d < 6 → ∀ k, k ≤ d → ∃ c : Nat, c * chs d k = 60 := by
  intro d hd k hk
  refine ⟨60 / chs d k, ?_⟩
  have : ∀ d, d < 6 → ∀ k, k < 6 → k ≤ d → 60 / chs d k * chs d k = 60 := by decide
  exact this d hd k (by omega) hk
theorem lof_dn {m M : Nat} {p : List Rat} (h : ∀ i, Dn m M (cf p i)) {d : Nat} (h0 : 0 < d) (hd : d ≤ 6) (k : Nat) (hk : k < d) : Dn (m * 60) (M * 64 * 6 * 60) (lof p d k) := by
  obtain ⟨c, hc⟩ := chs_60 (d - 1) (by omega) k (by omega)
  have hp := chs_pos (d - 1) k (by omega)
  have hn := nq_ne hp
  have e : lof p d k = alt p d k * (nq c / nq 60) := by
    rw [← lof_alt h0 k hk, ← hc, nq_mul, Rat.div_def]
    have hc0 : nq c ≠ 0 := nq_ne (by rcases Nat.eq_zero_or_pos c with z | z; rw [z] at hc; omega; exact z)
    grind
  have hq : Dn 60 60 (nq c / nq 60) := by
    refine ⟨(c : Int), ?_, ?_⟩
    · have h6 : nq 60 ≠ 0 := nq_ne (by decide)
      show nq c / nq 60 * nq 60 = nq c
      rw [Rat.div_def]; grind
    · have : c * 1 ≤ c * chs (d - 1) k := Nat.mul_le_mul_left _ hp
      omega
  rw [e]
  refine (((alt_dn h hd k).le ?_).mul hq)
  exact Nat.mul_le_mul_left _ (by omega)
end Bc
namespace Bc
/-! ## the derivative and the integral of a row's polynomial -/
def al (f : Nat → Rat) : Nat → Nat → List Rat
  | 0, i => [f i]
  | n + 1, i => padd (al f n i) (0 :: padd (al f n (i + 1)) (smul (-1) (al f n i)))
theorem pev_al (f : Nat → Rat) (x : Rat) : ∀ n i, pev (al f n i) x = avgs x f n i
  | 0, i => pev_one _ _
  | n + 1, i => by
    rw [al, pev_padd]
    show pev (al f n i) x + (0 + x * pev (padd (al f n (i + 1)) (smul (-1) (al f n i))) x) = avgs x f n i + x * (avgs x f n (i + 1) - avgs x f n i)
    rw [pev_padd, pev_smul, pev_al f x n i, pev_al f x n (i + 1)]; grind
theorem pev_cf {u v : List Rat} (h : ∀ n, cf u n = cf v n) (x : Rat) : pev u x = pev v x := by
  rw [← pev_trim x u, trim_ext h, pev_trim]
theorem pdv_congr {u v : List Rat} (h : ∀ n, cf u n = cf v n) (x : Rat) : pev (dv u) x = pev (dv v) x := pev_cf (fun n => by rw [cf_dv, cf_dv, h]) x
theorem pdv_padd (u v : List Rat) (x : Rat) : pev (dv (padd u v)) x = pev (dv u) x + pev (dv v) x := by
  rw [← pev_padd]
  exact pev_cf (fun n => by rw [cf_dv, cf_padd, cf_padd, cf_dv, cf_dv]; grind) x
theorem pdv_smul (c : Rat) (u : List Rat) (x : Rat) : pev (dv (smul c u)) x = c * pev (dv u) x := by
  rw [← pev_smul]
  exact pev_cf (fun n => by rw [cf_dv, cf_smul, cf_smul, cf_dv]; grind) x
theorem pdv_cons (a : Rat) (u : List Rat) (x : Rat) : pev (dv (a :: u)) x = pev u x + x * pev (dv u) x := by
  rw [pev_cf (dv_cons a u) x, pev_padd]
  show pev u x + (0 + x * pev (dv u) x) = _
  grind
def del (f : Nat → Rat) (i : Nat) : Rat := f (i + 1) - f i
theorem avgs_del (x : Rat) (f : Nat → Rat) : ∀ n i, avgs x f n (i + 1) - avgs x f n i = avgs x (del f) n i
  | 0, i => rfl
  | n + 1, i => by
    have h1 := avgs_del x f n i
    have h2 := avgs_del x f n (i + 1)
    show avgs x f n (i + 1) + x * (avgs x f n (i + 1 + 1) - avgs x f n (i + 1)) - (avgs x f n i + x * (avgs x f n (i + 1) - avgs x f n i)) = avgs x (del f) n i + x * (avgs x (del f) n (i + 1) - avgs x (del f) n i)
    rw [← h1, ← h2]; grind
theorem pdv_al (f : Nat → Rat) (x : Rat) : ∀ n i, pev (dv (al f n i)) x = nq n * avgs x (del f) (n - 1) i
  | 0, i => by
    rw [nq_zero]
    show pev [] x = _
    show (0 : Rat) = _
    grind
  | n + 1, i => by
    have h1 := pdv_al f x n i
    have h2 := pdv_al f x n (i + 1)
    rw [al, pdv_padd, pdv_cons, pev_padd, pdv_padd, pev_smul, pdv_smul, pev_al, pev_al, h1, h2, Nat.add_sub_cancel, nq_succ]
    have h3 := avgs_del x f n i
    cases n with
    | zero => rw [nq_zero, ← h3]; grind
    | succ m =>
      rw [Nat.add_sub_cancel]
      have h4 : avgs x (del f) (m + 1) i = avgs x (del f) m i + x * (avgs x (del f) m (i + 1) - avgs x (del f) m i) := rfl
      rw [h4] at h3 ⊢
      grind
theorem avgs_congr {x : Rat} {f g : Nat → Rat} {N : Nat} (h : ∀ i, i ≤ N → f i = g i) : ∀ n i, i + n ≤ N → avgs x f n i = avgs x g n i
  | 0, i, hi => h i (by omega)
  | n + 1, i, hi => by
    show avgs x f n i + x * (avgs x f n (i + 1) - avgs x f n i) = avgs x g n i + x * (avgs x g n (i + 1) - avgs x g n i)
    rw [avgs_congr h n i (by omega), avgs_congr h n (i + 1) (by omega)]
theorem avgs_smul (x c : Rat) (f : Nat → Rat) : ∀ n i, avgs x (fun i => c * f i) n i = c * avgs x f n i
  | 0, _ => rfl
  | n + 1, i => by
    show avgs x (fun i => c * f i) n i + x * (avgs x (fun i => c * f i) n (i + 1) - avgs x (fun i => c * f i) n i) = c * (avgs x f n i + x * (avgs x f n (i + 1) - avgs x f n i))
    rw [avgs_smul x c f n i, avgs_smul x c f n (i + 1)]; grind
/-- the row of the derivative -/
def slp (p : List Rat) : List Rat := (List.range (p.length - 1)).map fun i => nq (p.length - 1) * del (cf p) i
theorem slp_len (p : List Rat) : (slp p).length = p.length - 1 := by unfold slp; rw [List.length_map, List.length_range]
theorem pdv_up {p : List Rat} {d : Nat} (h : p.length = d + 1) (x : Rat) : pev (dv (up p)) x = nq d * avgs x (del (cf p)) (d - 1) 0 := by
  rw [← pdv_al (cf p) x d 0]
  refine pdv_congr (fun n => pev_inj (fun z => ?_) n) x
  rw [up_pev p (by omega), pev_al, h, Nat.add_sub_cancel]
theorem up_slp {p : List Rat} {d : Nat} (h : p.length = d + 2) : up (slp p) = dv (up p) := by
  refine pev_can (can_fu _ _ _) (can_dv (can_fu _ _ _)) fun x => ?_
  show pev (up (slp p)) x = pev (dv (up p)) x
  rw [pdv_up (d := d + 1) h, up_pev _ (by rw [slp_len]; omega), slp_len, h, ← avgs_smul]
  refine avgs_congr (N := d) (fun i hi => ?_) d 0 (by omega)
  unfold slp
  rw [cf_map_range _ _ _ (by omega), h]
  rfl
/-- the integral from 0 to 1 -/
theorem up_mean {p : List Rat} {d : Nat} (h : p.length = d + 1) : pev (wp (up p)) 1 - pev (wp (up p)) 0 = sums (cf p) (d + 1) / nq (d + 1) := by
  have hd := nq_ne (show 0 < d + 1 by omega)
  have e1 : ((List.range (d + 2)).map fun i => sums (cf p) i / nq (d + 1)).length = d + 2 := by rw [List.length_map, List.length_range]
  have e2 : slp ((List.range (d + 2)).map fun i => sums (cf p) i / nq (d + 1)) = p := by
    apply ext_cf (by rw [slp_len, e1, h]; omega)
    intro n
    by_cases z : n < d + 1
    · unfold slp
      rw [e1, cf_map_range _ _ _ (by omega), del, cf_map_range _ _ _ (by omega), cf_map_range _ _ _ (by omega), sums, show d + 2 - 1 = d + 1 from rfl, Rat.div_def, Rat.div_def]
      grind
    · rw [cf_ge (by rw [slp_len, e1]; omega), cf_ge (by omega)]
  have e3 := up_slp e1
  rw [e2] at e3
  rw [e3, wp_dv, wp_dv, up_pev _ (by omega), up_pev _ (by omega), e1, avgs_one, avgs_zero, cf_map_range _ _ _ (by omega), cf_map_range _ _ _ (by omega)]
  show sums (cf p) (0 + (d + 2 - 1)) / nq (d + 1) - _ - (0 / nq (d + 1) - _) = _
  rw [show 0 + (d + 2 - 1) = d + 1 by omega, Rat.div_def, Rat.div_def]
  grind
end Bc
namespace Bc
/-! ## products of rows: values in two variables -/
def hev (P : List Rat) (m : Nat) (x y : Rat) : Rat := sums (fun i => cf P i * x ^ i * y ^ (m - i)) (m + 1)
theorem hev_congr {P Q : List Rat} {m : Nat} (h : ∀ i, i ≤ m → cf P i = cf Q i) (x y : Rat) : hev P m x y = hev Q m x y := sums_congr fun i hi => by rw [h i (by omega)]
theorem hev_padd (P Q : List Rat) (m : Nat) (x y : Rat) : hev (padd P Q) m x y = hev P m x y + hev Q m x y := by
  unfold hev
  rw [← sums_add]
  exact sums_congr fun i _ => by rw [cf_padd]; grind
theorem hev_cons (a : Rat) (P : List Rat) (m : Nat) (x y : Rat) : hev (a :: P) (m + 1) x y = a * y ^ (m + 1) + x * hev P m x y := by
  unfold hev
  rw [sums_front, ← sums_mul]
  have e : sums (fun k => cf (a :: P) (k + 1) * x ^ (k + 1) * y ^ (m + 1 - (k + 1))) (m + 1) = sums (fun i => x * (cf P i * x ^ i * y ^ (m - i))) (m + 1) := sums_congr fun i _ => by
    rw [show m + 1 - (i + 1) = m - i by omega]
    show cf P i * x ^ (i + 1) * _ = _
    have e : x ^ (i + 1) = x ^ i * x := by grind
    rw [e]; grind
  rw [e]
  show a * x ^ 0 * y ^ (m + 1 - 0) + _ = _
  rw [Nat.sub_zero]; grind
theorem hev_more {Q : List Rat} {n : Nat} (h : Q.length ≤ n + 1) (x y : Rat) : ∀ k, hev Q (n + k) x y = y ^ k * hev Q n x y
  | 0 => by rw [Nat.add_zero]; grind
  | k + 1 => by
    have ih := hev_more h x y k
    unfold hev at ih ⊢
    rw [show n + (k + 1) + 1 = (n + k + 1) + 1 by omega, sums, cf_ge (p := Q) (n := n + k + 1) (by omega)]
    have e : sums (fun i => cf Q i * x ^ i * y ^ (n + (k + 1) - i)) (n + k + 1) = sums (fun i => y * (cf Q i * x ^ i * y ^ (n + k - i))) (n + k + 1) := sums_congr fun i hi => by
      have e : y ^ (n + (k + 1) - i) = y ^ (n + k - i) * y := by
        rw [show n + (k + 1) - i = (n + k - i) + 1 by omega]; grind
      rw [e]; grind
    rw [e, sums_mul, ih]
    have e2 : y ^ (k + 1) = y ^ k * y := by grind
    rw [e2]; grind
theorem hev_smul (c : Rat) (P : List Rat) (m : Nat) (x y : Rat) : hev (smul c P) m x y = c * hev P m x y := by
  unfold hev
  rw [← sums_mul]
  exact sums_congr fun i _ => by rw [cf_smul]; grind
theorem hev_nil (m : Nat) (x y : Rat) : hev [] m x y = 0 := by
  unfold hev
  have e : sums (fun i => cf [] i * x ^ i * y ^ (m - i)) (m + 1) = sums (fun i => 0 * (1 : Rat)) (m + 1) := sums_congr fun i _ => by rw [cf_nil]; grind
  rw [e, sums_mul]; grind
theorem hev_pmul {Q : List Rat} {n : Nat} (h : Q.length ≤ n + 1) (x y : Rat) : ∀ (P : List Rat) (m : Nat), P.length ≤ m + 1 → hev (pmul P Q) (m + n) x y = hev P m x y * hev Q n x y
  | [], m, _ => by
    rw [hev_nil]
    show hev [] _ x y = _
    rw [hev_nil]; grind
  | a :: P, 0, hm => by
    have : P = [] := List.eq_nil_of_length_eq_zero (by rw [List.length_cons] at hm; omega)
    subst this
    have e : hev (pmul [a] Q) (0 + n) x y = hev (smul a Q) n x y := by
      rw [Nat.zero_add]
      refine hev_congr (fun i _ => ?_) x y
      rw [cf_pmul_cons, cf_smul]
      cases i with
      | zero => grind
      | succ i => show _ + 0 = _; grind
    rw [e, hev_smul]
    show a * hev Q n x y = (0 + a * x ^ 0 * y ^ (0 - 0)) * hev Q n x y
    rw [Nat.sub_zero]; grind
  | a :: P, m + 1, hm => by
    have ih := hev_pmul h x y P m (by rw [List.length_cons] at hm; omega)
    have e : hev (pmul (a :: P) Q) (m + 1 + n) x y = hev (padd (smul a Q) (0 :: pmul P Q)) (m + 1 + n) x y := by
      refine hev_congr (fun i _ => ?_) x y
      rw [cf_pmul_cons, cf_padd, cf_smul]
      cases i <;> rfl
    rw [e, hev_padd, hev_smul, show m + 1 + n = (m + n) + 1 by omega, hev_cons, ih, show m + n + 1 = n + (m + 1) by omega, hev_more h, hev_cons]
    grind
/-- a row's numbers times the binomials -/
def bin (p : List Rat) : List Rat := (List.range p.length).map fun i => nq (chs (p.length - 1) i) * cf p i
theorem bin_len (p : List Rat) : (bin p).length = p.length := by unfold bin; rw [List.length_map, List.length_range]
theorem cf_bin {p : List Rat} {i : Nat} (h : i < p.length) : cf (bin p) i = nq (chs (p.length - 1) i) * cf p i := cf_map_range _ _ _ h
theorem pev_hev {p : List Rat} {d : Nat} (h : p.length = d + 1) (x : Rat) : pev (up p) x = hev (bin p) d x (1 - x) := by
  rw [up_pev _ (by omega), h, Nat.add_sub_cancel, avgs_sum]
  exact sums_congr fun i hi => by
    rw [cf_bin (by omega), h, Nat.add_sub_cancel, wt_eq x d i (by omega)]; grind
theorem up_prod {p q r : List Rat} {m n : Nat} (hp : p.length = m + 1) (hq : q.length = n + 1) (hr : r.length = m + n + 1)
    (h : ∀ k, k ≤ m + n → nq (chs (m + n) k) * cf r k = cf (pmul (bin p) (bin q)) k) : up r = trim (pmul (up p) (up q)) := by
  refine pev_can (can_fu _ _ _) (can_trim _) fun x => ?_
  show pev (up r) x = _
  rw [pev_trim, pev_pmul, pev_hev hp, pev_hev hq, pev_hev hr, ← hev_pmul (by rw [bin_len]; omega) x (1 - x) _ _ (by rw [bin_len]; omega)]
  refine hev_congr (fun i hi => ?_) x (1 - x)
  rw [cf_bin (by omega), hr, Nat.add_sub_cancel, h i hi]
end Bc
/-! rules that the layer lacks: // by a great divisor of any sign, t[::-1], t * k for any small k, enumerate(tuple) -/
namespace Bc
open PySem PySem.Spec PyProof.Rows L2 HT
def CDivZ (_ j : Int) : Prop := j ≠ 0 ∧ j.natAbs.log2 < 9000
section
variable {X : Cx}
theorem op_fdivZ : OpR X (binaryOp .FloorDiv) (rI CDivZ fun i j => .int (i.fdiv j)) := opI fun i j _ _ _ _ _ hc q =>
  floordiv_int hc.1 q (.inl (PyProof.noPylong_of_log2 hc.2))
theorem cdivz {i j : Int} {b : Nat} (h : j ≠ 0) (hb : j.natAbs < 2 ^ b) (h0 : 0 < b) (h9 : b ≤ 9000) : CDivZ i j := ⟨h, Nat.lt_of_lt_of_le (PySem.Flt.log2_lt_of h0 hb) h9⟩
end
section
variable {prog : Program} {w : World} {A : Around} {E : Value → Shared → Prop} {s : Shared}
theorem adjust_rev (n : Nat) : Builtin.Slice.sliceAdjust none none (-1) (n : Int) = ((n : Int) - 1, -1) := rfl
theorem places_rev (n : Nat) : Builtin.Slice.slicePlaces ((n : Int) - 1) (-1) (-1) = n := by
  unfold Builtin.Slice.slicePlaces
  have h1 : ¬ ((-1 : Int) > 0) := by omega
  have e : -(-1 : Int) = 1 := by omega
  simp only [h1, if_false, e, Int.ediv_one]
  split <;> omega
theorem pick_rev (xs : Array Value) : ((List.range xs.size).filterMap fun (m : Nat) => xs[(((xs.size : Nat) : Int) - 1 + (m : Int) * (-1)).toNat]?).toArray = xs.toList.reverse.toArray := by
  have e : ((List.range xs.size).filterMap fun (m : Nat) => xs[(((xs.size : Nat) : Int) - 1 + (m : Int) * (-1)).toNat]?) = ((List.range xs.size).map fun k => xs.size - 1 - k).filterMap (xs[·]?) := by
    have e1 : ((List.range xs.size).map fun (m : Nat) => (((xs.size : Nat) : Int) - 1 + (m : Int) * (-1)).toNat) = (List.range xs.size).map fun k => xs.size - 1 - k := by
      refine List.map_congr_left fun m hm => ?_
      have := List.mem_range.mp hm
      omega
    rw [← e1, List.filterMap_map]
    rfl
  rw [e, PySem.W.krv_range, List.filterMap_reverse, PySem.W.krv_all]
theorem sliceApplied_rev {sl : Addr} {t : Tok} {n : Nat} {Q : Int × Int × Nat → Shared → Prop} (hs : s.heap.IsSliceOf sl .none .none (.int (-1) t))
    (h : Q ((n : Int) - 1, -1, n) s) : wpAny (model prog w) A (Builtin.Slice.sliceApplied (.ref sl) (pure (n : Int))) Q E s := by
  obtain ⟨os, hos, hcs, hds⟩ := id hs
  unfold Builtin.Slice.sliceApplied Builtin.Slice.sliceFields
  refine wpAny_bind (wpAny_bind (wpAny_field hos hds (x := .none) rfl (wpAny_bind (wpAny_field hos hds (x := .none) rfl (wpAny_bind (wpAny_field hos hds (x := .int (-1) t) rfl (wpAny_pure ?_)))))))
  refine wpAny_bind (slicePart_ (.int (-1) t) ?_)
  show wpAny _ _ (if ((-1 : Int) == 0) = true then _ else _) _ _ s
  rw [if_neg (by decide)]
  refine wpAny_bind (slicePart_none (wpAny_bind (slicePart_none (wpAny_bind (wpAny_pure ?_)))))
  show wpAny _ _ (match Builtin.Slice.sliceAdjust none none (-1) (n : Int) with | (lo, hi) => pure (lo, (-1 : Int), Builtin.Slice.slicePlaces lo hi (-1))) _ _ s
  rw [adjust_rev n]
  show wpAny _ _ (pure ((n : Int) - 1, (-1 : Int), Builtin.Slice.slicePlaces ((n : Int) - 1) (-1) (-1))) _ _ s
  rw [places_rev]
  exact wpAny_pure h
theorem getItem_tuple_rev {t sl : Addr} {items : Array Value} {tk : Tok} {Q : Value → Shared → Prop} (ht : IsTup s.heap t items) (hs : s.heap.IsSliceOf sl .none .none (.int (-1) tk))
    (h : Q (.ref s.heap.objs.size) { s with heap := s.heap.push { cls := .type "tuple", data := .seq items.toList.reverse.toArray } })
    (hsz : items.size ≤ sizeLine) : wpAny (model prog w) A (getItem (.ref t) (.ref sl)) Q E s := by
  have htake : sizeOk (.seq items.toList.reverse.toArray) := by
    show items.toList.reverse.toArray.size ≤ sizeLine
    rw [List.size_toArray, List.length_reverse, Array.length_toList]
    exact hsz
  obtain ⟨os, hos, hcs, hds⟩ := id hs
  have hTs : s.TypeIs (.ref sl) "slice" := ⟨os, hos, hcs⟩
  unfold getItem
  try with_reducible refine wpAny_holding ?_
  first | refine wpAny_bind (wpAny_pure ?_) | skip
  refine wpAny_bind (wpAny_sequenceKey ht.typeIs (by decide) ?_)
  refine wpAny_bind (wpAny_callSpecial?_slot (name := Str.ofString "__getitem__") ht.typeIs PyProof.Rows.slot_tuple_getitem
    (wpAny_call_entry PyProof.Rows.slot_tuple_getitem ht.typeIs entry_tuple_getitem ?_ (args_tuple_getitem _ _)))
  show wpAny _ _ (Builtin.Tuple.tupleItemsOf (.ref t) >>= _) _ _ s
  refine wpAny_bind (tupleItemsOf_ ht ?_)
  refine wpAny_bind (wpAny_typeOf hTs ?_)
  rw [if_pos (by decide)]
  refine wpAny_bind (sliceApplied_rev hs ?_)
  have hno : ¬ ((((items.size : Nat) : Int) - 1 == 0 && (-1 : Int) == 1 && items.size == items.size) = true) := by
    intro q
    rw [Bool.and_eq_true, Bool.and_eq_true] at q
    have q1 : (-1 : Int) = 1 := eq_of_beq q.1.2
    omega
  show wpAny _ _ (if (((items.size : Nat) : Int) - 1 == 0 && (-1 : Int) == 1 && items.size == items.size) = true then _ else _) _ _ s
  rw [if_neg hno, pick_rev]
  first
    | exact wpAny_bind (m := Builtin.Tuple.tupleExact _) (wpAny_newObj_type (wpAny_pure ⟨_, rfl, wpAny_pure h⟩) htake)
    | exact wpAny_bind (m := Builtin.Tuple.tupleExact _) (wpAny_newObj_type (wpAny_bind (wpAny_pure (wpAny_pure ⟨_, rfl, wpAny_pure h⟩))) htake)
    | exact wpAny_bind (wpAny_bind (m := Builtin.Tuple.tupleExact _) (wpAny_newObj_type (wpAny_pure (wpAny_pure ⟨_, rfl, wpAny_pure h⟩)) htake))
    | exact wpAny_bind (wpAny_bind (m := Builtin.Tuple.tupleExact _) (wpAny_newObj_type (wpAny_pure ⟨_, rfl, wpAny_pure h⟩) htake))
end
section
variable {X : Cx} {pos : Pos}
def tRevT (K : PySem.W.Frag) (te : TE) : TE := fun σ H Q => te σ H fun x H1 => ∃ a xs, x = .ref a ∧ SqT K H1 a xs ∧ ∀ p, H1 p = none → Q (.ref p) (upd H1 p (.tup xs.reverse))
theorem pe_revT {e : Expr} {te : TE} {k : Nat} {p1 p2 p3 pos : Pos} (he : PE X e te) : PE X (.Subscript e (.Slice none none (some (.UnaryOp .USub (.Constant (.int 1) k p1) p2)) p3) pos) (tRevT X.K te) := by
  refine ⟨fun pins s σ H Q I h => ?_⟩
  refine Subscript_ (thn (he.run pins s σ H _ I h) fun v s1 ⟨x, H1, I1, r1, q1⟩ => ?_)
  obtain ⟨a, xs, ex, hx, q⟩ := q1
  subst ex
  cases r1
  have hst : PO X (some (.UnaryOp .USub (.Constant (.int 1) k p1) p2)) (tPart (tUn (rU fun i => .int (-i)) (tC (.int 1)))) := po_some (pe_un un_neg pe_int)
  refine wpAny_Slice (thn (po_none.run pins s1 σ H1 (fun o H2 => o = none ∧ H2 = H1) I1 ⟨rfl, rfl⟩) fun vl s2 ⟨l, H2, I2, pl, el, e2⟩ => ?_)
  subst el e2
  refine thn (po_none.run pins s2 σ H2 (fun o H3 => o = none ∧ H3 = H2) I2 ⟨rfl, rfl⟩) fun vu s3 ⟨u, H3, I3, pu, eu, e3⟩ => ?_
  subst eu e3
  refine thn (hst.run pins s3 σ H3 (fun o H4 => o = some (-1) ∧ H4 = H3) I3 ⟨1, rfl, -1, rfl, rfl, rfl⟩) fun vs s4 ⟨o, H4, I4, ps, eo, e4⟩ => ?_
  subst eo e4
  have I5 : Inv X pins σ H4 { s4 with heap := s4.heap.push { cls := .type "slice", data := .fields #[vl, vu, vs] } } := I4.kept (t' := s4.toks) fun b ob q => Heap.get?_push_of_some _ q
  obtain ⟨its, r, ht, hz⟩ := I5.tuple hx
  have hlen := r.length
  show wpAny (model X.prog X.w) X.A (subscriptTail e (.Slice none none (some (.UnaryOp .USub (.Constant (.int 1) k p1) p2)) p3) (.ref a) (.ref s4.heap.objs.size)) (EP X pins σ Q) X.xe { s4 with heap := s4.heap.push { cls := .type "slice", data := .fields #[vl, vu, vs] } }
  refine tail_any (ops := [.ref a, .ref s4.heap.objs.size]) ht.typeIs (PyProof.Rows.slot_tuple_getitem.lookup) ?_ (by with_unfolding_all rfl)
  cases pl
  cases pu
  cases ps
  refine getItem_tuple_rev ht (Heap.IsSliceOf.new _ _ _ _) ?_ (by rw [List.size_toArray]; omega)
  refine ⟨.ref _, _, I5.laid (t' := s4.toks) (o := .tup xs.reverse) (fun b ob q => Heap.get?_push_of_some _ q) (Nat.le_refl _) ?_, rfl, q _ (I5.hok.fresh (Nat.le_refl _))⟩
  exact ⟨by rw [List.length_reverse]; exact hz, _, r.reverse, IsTup.new _ _⟩
end
end Bc
namespace Bc
open PySem PySem.Spec PyProof.Rows L2 HT RZ RT
open AutoSeq1 (wpAny_loadPart')
theorem meets_enumerate_newT (l : Addr) (items : Array Value) (n : Nat) (dct : Option Addr) (sl : Array (Option Value)) :
    Meets (Builtin.«enumerate.__new__» ⟨[.type "enumerate", .ref l], []⟩) (fun _ R s => s.heap.get? l = some { cls := .type "tuple", dict := dct, data := .seq items n, slots := sl } ∧
      R (.ok (.ret (.ref (s.heap.push { cls := .type "tuple_iterator", data := .fields #[.ref l, .int 0 0] }).objs.size)))
        { s with heap := (s.heap.push { cls := .type "tuple_iterator", data := .fields #[.ref l, .int 0 0] }).push { cls := .type "enumerate", data := .fields #[.none, .bool false, .ref s.heap.objs.size, rawInt 0, .none, .none] } }) :=
  .of_wp fun prog w A R s h => by
    obtain ⟨hp, g, d, tk, os⟩ := s; obtain ⟨hl, h⟩ := h
    have hsub := sub_enumerate
    have hL : Heap.IsTuple (Shared.heap ⟨hp, g, d, tk, os⟩) l items := ⟨_, hl, rfl, n, rfl⟩
    wp_walk using wpAny_loadPart' hl
    refine wpAny_stack_any fun st => wpAny_pure ?_
    split
    · rename_i c _ _ _ _ _
      cases (c == Value.type "enumerate")
      · wp_walk using wpAny_loadPart' hl, wpAny_pyIter_tuple hL
        exact ⟨_, rfl, h⟩
      · wp_walk using wpAny_loadPart' hl, wpAny_pyIter_tuple hL
        exact ⟨_, rfl, h⟩
    · wp_walk using wpAny_loadPart' hl, wpAny_pyIter_tuple hL
      exact ⟨_, rfl, h⟩
section
variable {prog : Program} {w : World} {A : Around} {E : Value → Shared → Prop} {s : Shared}
theorem call_enumerate_tup {l : Addr} {items : Array Value} {Q : Value → Shared → Prop} (hL : s.heap.IsTuple l items)
    (h : ∀ h', IsEnum h' (s.heap.objs.size + 1) s.heap.objs.size 0 .none → h'.IsTupleIter s.heap.objs.size l 0 → h'.objs.size = s.heap.objs.size + 2 →
      (∀ b o, s.heap.get? b = some o → h'.get? b = some o) → Q (.ref (s.heap.objs.size + 1)) { s with heap := h' }) :
    wpAny (model prog w) A (call (.type "enumerate") [.ref l]) Q E s := by
  obtain ⟨⟨c, dct, dt, sl⟩, hl, hc, n, hd⟩ := hL
  replace hc : c = .type "tuple" := hc
  replace hd : dt = .seq items n := hd
  subst hc hd
  refine callType_new F.called_enumerate (by decide) (F.typeCall_enumerate_1 _) (F.newCall_enumerate_1 _) (fun obj => F.args_object_init_2 obj _) F.entry_enumerate_new
    (meets_enumerate_newT l items n dct sl) ⟨hl, ?_⟩
  have hz : (s.heap.push { cls := .type "tuple_iterator", data := .fields #[.ref l, .int 0 0] }).objs.size = s.heap.objs.size + 1 := Heap.size_push ..
  show _ ∧ _
  rw [hz]
  have he : IsEnum ((s.heap.push { cls := .type "tuple_iterator", data := .fields #[.ref l, .int 0 0] }).push
      { cls := .type "enumerate", data := .fields #[.none, .bool false, .ref s.heap.objs.size, rawInt 0, .none, .none] }) (s.heap.objs.size + 1) s.heap.objs.size 0 .none := by
    have := Heap.get?_push_size (s.heap.push { cls := .type "tuple_iterator", data := .fields #[.ref l, .int 0 0] })
      (o := { cls := .type "enumerate", data := .fields #[.none, .bool false, .ref s.heap.objs.size, rawInt 0, .none, .none] }) rfl
    rw [hz] at this; exact this
  refine ⟨⟨_, he, rfl⟩, h _ he ⟨_, Heap.get?_push_of_some _ (Heap.get?_push_size _ rfl), rfl, rfl⟩ (by rw [Heap.size_push, hz]) fun b o x => Heap.get?_push_of_some _ (Heap.get?_push_of_some _ x)⟩
/-- what a tuple's iterator draws -/
theorem draws_tup {it t : Addr} {items : Array Value} (hh : A.handled = none) (hne : t ≠ it) : Draws prog w A it [it, t] items.size (fun i v => items[i]? = some v) (fun i h => h.IsTupleIter it t i ∧ h.IsTuple t items) where
  live := fun i h st => let ⟨⟨o, ho, _⟩, _⟩ := st; ⟨o, ho⟩
  frame := fun i h h' st k => by
    obtain ⟨⟨o, ho, r⟩, ⟨o2, ho2, r2⟩⟩ := st
    exact ⟨⟨o, k it (by simp) o ho, r⟩, ⟨o2, k t (by simp) o2 ho2, r2⟩⟩
  item := fun i s Q E hi st hQ => by
    have hx : items[i]? = some items[i] := by simp [hi]
    refine wpAny_nextOf_tuple_item st.1 st.2 hx fun h' h1 hs => ?_
    exact hQ _ h' s.toks hx ⟨h1, st.2.extBut hs.extBut hne⟩ hs
  done := fun s Q E st hE => wpAny_nextOf_tuple_end hh st.1 st.2 (by simp) hE
end
section
/-- the tuple at a as it stands at each turn, each item in a new pair -/
def IteT (K : PySem.W.Frag) (a : Addr) : It :=
  ⟨fun i H => ∃ (xs : List V) (x : V), SqT K H a xs ∧ xs[i]? = some x, fun i H v H' => ∃ T x, v = .ref T ∧ H T = none ∧ H' = upd H T (.tup [.int (i : Nat), x]) ∧ ∀ xs, SqT K H a xs → xs[i]? = some x, fun i H => ∃ xs : List V, SqT K H a xs ∧ xs.length ≤ i⟩
theorem turn_enumT {P : Program} {w : World} {K : PySem.W.Frag} {elts : List Expr} {kk : Nat} {tpos : Pos} (a e it : Addr) :
    Turn P w K (.Tuple elts kk tpos) (IteT K a) [e, it] e (fun i h => (∃ old, IsEnum h e it ((i : Nat) : Int) old) ∧ h.IsTupleIter it a i ∧ e ≠ it ∧ e ≠ a ∧ a ≠ it) where
  mem := by simp
  obj := fun i h st b hb => by
    obtain ⟨⟨old, he⟩, ⟨o, ho, hc, hd⟩, _⟩ := st
    have e' : b = e ∨ b = it := by simpa using hb
    rcases e' with z | z
    · rw [z]; exact ⟨_, he, fun v q => nomatch q⟩
    · rw [z]; exact ⟨o, ho, fun v q => by rw [hd] at q; cases q⟩
  keep := fun i h h' st k => let ⟨⟨old, he⟩, ⟨o, ho, r⟩, hne⟩ := st; ⟨⟨old, k e (by simp) _ he⟩, ⟨o, k it (by simp) o ho, r⟩, hne⟩
  item := by
    intro X hP hw hK hc i pins s σ H E I hf st hg
    subst hP hw hK
    obtain ⟨⟨old, he⟩, hit, hne, hea, hai⟩ := st
    obtain ⟨xs, x, hq, hx⟩ := hg
    obtain ⟨its, rv, p, hz⟩ := I.tuple hq
    obtain ⟨u, hu, ru⟩ := rv.get hx
    have hel : e < s.heap.objs.size := Heap.lt_size he
    have hil : it < s.heap.objs.size := by obtain ⟨_, q, _⟩ := hit; exact Heap.lt_size q
    have hlen : i < its.toArray.size := by
      obtain ⟨h1, _⟩ := List.getElem?_eq_some_iff.mp hu
      simpa using h1
    have D := draws_tup (prog := X.prog) (w := X.w) (A := X.A.in1) (items := its.toArray) (I.ok.hd hc) hai
    refine wpAny_pyNext_enum_itemD D he ⟨hit, p⟩ hlen hne (by simp [hne, hea]) fun x' h' tk hP ho hst' hT hsz hk => ?_
    have ex : x' = u := by
      have e1 : its.toArray[i]? = some u := by simpa using hu
      rw [e1] at hP
      exact (Option.some.inj hP).symm
    subst ex
    refine ⟨_, rfl, wpAny_letOwnedTupleGo_enum (s := { s with heap := h', toks := tk + 1 }) ho fun h'' he' sb => ?_⟩
    have hT2 : h''.get? s.heap.objs.size = some { cls := .type "tuple", data := .seq #[.int i tk, x'] } := (sb.2 _ (Nat.ne_of_gt hel)).trans hT
    have new : ObjOk X.prog X.w (upd H s.heap.objs.size (.tup [.int (i : Nat), x])) h'' s.heap.objs.size (.tup [.int (i : Nat), x]) :=
      ⟨by show 2 ≤ sizeLine; decide, [.int i tk, x'], .cons ⟨_, rfl⟩ (.cons ru .nil), ⟨_, hT2, rfl, _, rfl⟩⟩
    have I1 : Inv X pins σ (upd H s.heap.objs.size (.tup [.int (i : Nat), x])) { s with heap := h'', toks := tk + 1 } :=
      I.turnedNew (ch := [e, it]) (fun b ob hb q => (sb.2 b (fun z => hb (by simp [z]))).trans (hk b ob (fun z => hb (by simp [z])) (fun z => hb (by simp [z])) q)) hf (Nat.le_refl _) new
    refine ⟨.ref s.heap.objs.size, _, I1, rfl, ⟨_, x, rfl, I.hok.fresh (Nat.le_refl _), rfl, fun ys hy => by rw [I.tuple_inj hy hq]; exact hx⟩, ⟨⟨x', ?_⟩, ?_, hne, hea, hai⟩, fun b hb => ?_⟩
    · have e1 : ((i + 1 : Nat) : Int) = (i : Int) + 1 := by omega
      rw [e1]; exact he'
    · obtain ⟨o, ho', r⟩ := hst'.1
      exact ⟨o, (sb.2 it (Ne.symm hne)).trans ho', r⟩
    · have hb' : b < s.heap.objs.size := by
        have e' : b = e ∨ b = it := by simpa using hb
        rcases e' with z | z
        · rw [z]; exact hel
        · rw [z]; exact hil
      rw [upd_ne (Nat.ne_of_lt hb')]
      exact (hf b hb).1
  done := by
    intro X hP hw hK hc i pins s σ H E I hf st hg
    subst hP hw hK
    obtain ⟨⟨old, he⟩, hit, hne, hea, hai⟩ := st
    obtain ⟨xs, hq, hx⟩ := hg
    obtain ⟨its, rv, p, hz⟩ := I.tuple hq
    obtain ⟨f0, f1, f2, f3, f4, f5⟩ := hf it (by simp)
    have hl := rv.length
    have hnn : its.toArray[i]? = none := by simp; omega
    have hT : s.TypeIs (.ref e) "enumerate" := ⟨_, he, rfl⟩
    unfold pyNext
    refine wpAny_bind (wpAny_attempt (wpAny_callSpecial?_slot (name := Str.ofString "__next__") hT F.slot_enumerate_next
      (wpAny_call_entry F.slot_enumerate_next hT F.entry_enumerate_next ?_ (F.args_enumerate_next_1 _))))
    show wpAny _ _ (field (.ref e) 2 >>= _) _ _ _
    refine wpAny_bind (wpAny_field he rfl (x := .ref it) rfl ?_)
    refine wpAny_bind (wpAny_nextOf_tuple_end (by first | exact I.ok.hd hc | exact (I.ok.hd hc)) hit p hnn fun h' x he' hx' => ?_)
    obtain ⟨o, ho, hc'⟩ := hx'
    refine wpAny_bind (wpAny_isInstance (T := "StopIteration") (b := true) ⟨o, ho, hc'⟩ isSubtype_stop ?_)
    exact wpAny_pure ⟨rfl, I.turned (t' := s.toks) (fun b o hb q => he' b o hb q) f0 f1 f3 f4 f5⟩
  self := fun A i s Q E st h => let ⟨⟨_, he⟩, _⟩ := st; wpAny_pyIter_enum he h
def iEnumT (K : PySem.W.Frag) (ta : TA) : TI := fun σ H R => ta σ H fun vs H1 => ∃ a xs, vs = [.ref a] ∧ SqT K H1 a xs ∧ R (IteT K a) H1
theorem pi_enumT {X : Cx} {e : Expr} {ta : TA} {p pos tpos : Pos} {elts : List Expr} {kk : Nat} (hg : Gl X "enumerate") (hm : X.mg "enumerate" = none) (ha : PA X [e] ta) (hs : starEach [e] X.env = [(false, eval e X.env)] := by rfl) :
    PI X (.Tuple elts kk tpos) (.Call (.Name "enumerate" p) [e] [] pos) (iEnumT X.K ta) := by
  refine ⟨fun pins s σ H R I h => ?_⟩
  refine Call_ (ld_blt I hg hm boot_enumerate (PyProof.Rows.callWith_type1 (thn (ha.run pos pins s σ H _ I h) fun us s1 ⟨vs, H1, I1, r1, q1⟩ => ?_) hs rfl))
  obtain ⟨a, xs, ex, hq, q⟩ := q1
  subst ex
  cases r1 with
  | cons r rr =>
    cases rr
    cases r
    obtain ⟨its, rv, p', hz⟩ := I1.tuple hq
    have hal : a < s1.heap.objs.size := by obtain ⟨_, q, _⟩ := id p'; exact Heap.lt_size q
    refine call_enumerate_tup (show s1.heap.IsTuple a its.toArray from p') fun h' he hit hsz hk => wpAny_pyIter_enum he ?_
    have I2 : Inv X pins σ H1 { s1 with heap := h' } := I1.kept (t' := s1.toks) hk
    refine ⟨s1.heap.objs.size + 1, [s1.heap.objs.size + 1, s1.heap.objs.size], _, _, H1, rfl, I2, turn_enumT a (s1.heap.objs.size + 1) s1.heap.objs.size, ⟨⟨.none, he⟩, hit, Nat.succ_ne_self _, Nat.ne_of_gt (Nat.lt_succ_of_lt hal), Nat.ne_of_lt hal⟩, fun b hb => ?_, q⟩
    have e' : b = s1.heap.objs.size + 1 ∨ b = s1.heap.objs.size := by simpa using hb
    have hle : s1.heap.objs.size ≤ b := by
      rcases e' with z | z
      · rw [z]; exact Nat.le_add_right _ _
      · rw [z]; exact Nat.le_refl _
    exact I1.fpOk hle (I1.hok.fresh hle)
theorem walk_enumT {K : PySem.W.Frag} {a : Addr} {xs : List V} : Walk (IteT K a) xs.length (fun H => SqT K H a xs) (YPair (fun i => some (.int (i : Nat))) (fun i => xs[i]?)) := by
  refine ⟨fun i _ hi q => ⟨xs, xs[i], q, by simp [hi]⟩, fun _ q => ⟨xs, q, Nat.le_refl _⟩, fun i H v H' _ q y => ?_⟩
  obtain ⟨T, x, h1, h2, h3, h4⟩ := y
  exact ⟨T, .int (i : Nat), x, h1, h2, h3, rfl, h4 xs q⟩
theorem walk_zipT {K : PySem.W.Frag} {a b : Addr} {xs ys : List V} {n : Nat} (hn : n = min xs.length ys.length) : Walk (ItzT K a b) n (fun H => SqT K H a xs ∧ SqT K H b ys) (YPair (fun i => xs[i]?) (fun i => ys[i]?)) := by
  subst hn
  refine ⟨fun i _ hi q => ?_, fun _ q => ⟨xs, ys, q.1, q.2, by omega⟩, fun i H v H' _ q y => ?_⟩
  · have h1 : i < xs.length := by omega
    have h2 : i < ys.length := by omega
    exact ⟨xs, ys, xs[i], ys[i], q.1, q.2, by simp [h1], by simp [h2]⟩
  · obtain ⟨T, x, z, h1, h2, h3, h4, h5⟩ := y
    exact ⟨T, x, z, h1, h2, h3, h4 xs q.1, h5 ys q.2⟩
theorem walk_revT {K : PySem.W.Frag} {a : Addr} {xs : List V} : Walk (ItvT K a xs.length) xs.length (fun H => SqT K H a xs) (fun i H x H' => H' = H ∧ xs[xs.length - 1 - i]? = some x) :=
  ⟨fun i _ hi q => ⟨hi, xs, xs[xs.length - 1 - i]'(by omega), q, by simp [show xs.length - 1 - i < xs.length by omega]⟩, fun _ _ => Nat.le_refl _, fun _ _ _ _ _ q y => ⟨y.1, y.2 xs q⟩⟩
end
end Bc
namespace Bc
open PySem PySem.Spec PyProof.Rows L2 HT
open AutoSeq1 (wpAny_loadPart')
theorem tuple_mul1 (l : Addr) (items : Array Value) (n : Nat) (dd : Option Addr) (sl : Array (Option Value)) (x : Int) (u : Tok) (c0 : (decide (x < -(2 ^ 63)) || decide (x ≥ 2 ^ 63)) = false) (c1 : (items.isEmpty || x == 1) = true) :
    Meets (Builtin.«tuple.__mul__» ⟨[.ref l, .int x u], []⟩) (fun _ R s => s.heap.get? l = some { cls := .type "tuple", dict := dd, data := .seq items n, slots := sl } ∧
      R (.ok (.ret (Value.ref l))) s) :=
  .of_wp fun prog w A R s h => by
    obtain ⟨hp, g, d, tk, os⟩ := s
    obtain ⟨hl, h⟩ := h
    have f1 := AutoSeq1.idx_int
    wp_walk using wpAny_loadPart' hl
    repeat (first
      | (refine wpAny_ite_false (decide_eq_false (by rw [c0]; exact Bool.false_ne_true)) ?_; wp_walk using wpAny_loadPart' hl)
      | (refine wpAny_ite_true (decide_eq_true (by rw [c1])) ?_; wp_walk using wpAny_loadPart' hl))
    exact ⟨_, rfl, h⟩
theorem tuple_mul0 (l : Addr) (items : Array Value) (n : Nat) (dd : Option Addr) (sl : Array (Option Value)) (x : Int) (u : Tok) (c0 : (decide (x < -(2 ^ 63)) || decide (x ≥ 2 ^ 63)) = false) (c1 : (items.isEmpty || x == 1) = false) (c2 : (decide (x ≤ 0) || items.isEmpty) = true) :
    Meets (Builtin.«tuple.__mul__» ⟨[.ref l, .int x u], []⟩) (fun _ R s => s.heap.get? l = some { cls := .type "tuple", dict := dd, data := .seq items n, slots := sl } ∧
      R (.ok (.ret (Value.ref s.heap.objs.size))) { s with heap := s.heap.push { cls := Value.type "tuple", data := Data.seq #[] } }) :=
  .of_wp fun prog w A R s h => by
    obtain ⟨hp, g, d, tk, os⟩ := s
    obtain ⟨hl, h⟩ := h
    have f1 := AutoSeq1.idx_int
    wp_walk using wpAny_loadPart' hl
    repeat (first
      | (refine wpAny_ite_false (decide_eq_false (by rw [c0]; exact Bool.false_ne_true)) ?_; wp_walk using wpAny_loadPart' hl)
      | (refine wpAny_ite_false (decide_eq_false (by rw [c1]; exact Bool.false_ne_true)) ?_; wp_walk using wpAny_loadPart' hl)
      | (refine wpAny_ite_true (decide_eq_true (by rw [c2])) ?_; wp_walk using wpAny_loadPart' hl))
    exact ⟨_, rfl, h⟩
/-- t * k: t not empty, k small; for k = 1 it is t itself -/
def rRepA (K : PySem.W.Frag) : R2 := fun x y H Q => ∃ l k xs, x = .ref l ∧ y = .int k ∧ SqT K H l xs ∧ xs ≠ [] ∧ 0 ≤ k ∧ k ≤ 1000 ∧ xs.length ≤ 1000 ∧
  (k = 1 → Q (.ref l) H) ∧ (k ≠ 1 → ∀ p, H p = none → Q (.ref p) (upd H p (.tup (List.replicate k.toNat xs).flatten)))
section
variable {X : Cx}
theorem op_repA : OpR X (binaryOp .Mult) (rRepA X.K) := by
  intro pins s σ H x y v u Q I rx ry h
  obtain ⟨l, k, xs, rfl, rfl, hT, hne, h1, h2, hz, q1, q2⟩ := h
  by_cases hk : 2 ≤ k
  · exact op_repT pins s σ H _ _ v u Q I rx ry ⟨l, k, xs, rfl, rfl, hT, hne, hk, h2, hz, q2 (by omega)⟩
  cases rx
  obtain ⟨t, rfl⟩ := ry
  obtain ⟨its, r, ⟨⟨cls, dd, data, sl⟩, ho, hc, n, hd⟩, hs⟩ := I.tuple hT
  simp only at hc hd
  subst hc hd
  have hle : its.length = xs.length := r.length.symm
  have hi : its.toArray.isEmpty = false := by
    cases its with
    | nil => exact absurd (List.eq_nil_of_length_eq_zero hle.symm) hne
    | cons a b => rfl
  have c0 : (decide (k < -(2 ^ 63)) || decide (k ≥ 2 ^ 63)) = false := by
    rw [decide_eq_false (by omega), decide_eq_false (by omega)] <;> rfl
  refine wpAny_binaryOp_repeat_ref (T := "tuple") (U := "int") (by decide) ⟨_, ho, rfl⟩ (fun s' => typeIs_int s' k t) noFill_tuple_mul F.fills_int_mul F.slot_int_rmul repeat_tuple F.slot_int_index.lookup ?_
  by_cases e1 : k = 1
  · subst e1
    exact call_meets F.slot_int_rmul (typeIs_int s 1 t) F.entry_int_rmul (F.args_int_rmul_2 _ _) (int_rmul_tuple 1 t l its.toArray n dd sl)
      ⟨ho, rfl, ⟨_, ho, rfl⟩, call_meets F.slot_tuple_mul ⟨_, ho, rfl⟩ F.entry_tuple_mul (F.args_tuple_mul_2 _ _) (tuple_mul1 l its.toArray n dd sl 1 t c0 (by rw [hi] <;> rfl)) ⟨ho, ⟨.ref l, H, I, rfl, q1 rfl⟩⟩⟩
  · have e0 : k = 0 := by omega
    subst e0
    refine call_meets F.slot_int_rmul (typeIs_int s 0 t) F.entry_int_rmul (F.args_int_rmul_2 _ _) (int_rmul_tuple 0 t l its.toArray n dd sl)
      ⟨ho, rfl, ⟨_, ho, rfl⟩, call_meets F.slot_tuple_mul ⟨_, ho, rfl⟩ F.entry_tuple_mul (F.args_tuple_mul_2 _ _) (tuple_mul0 l its.toArray n dd sl 0 t c0 (by rw [hi] <;> rfl) (by rw [hi] <;> rfl)) ⟨ho, ?_⟩⟩
    refine ⟨.ref s.heap.objs.size, _, I.laid (t' := s.toks) (o := .tup []) (fun b ob q => Heap.get?_push_of_some _ q) (Nat.le_refl _) ?_, rfl, q2 e1 _ (I.hok.fresh (Nat.le_refl _))⟩
    exact ⟨Nat.zero_le _, [], .nil, IsTup.new _ _⟩
end
end Bc
/-! ratios, tuples of ratios, as they stand in the heap; what a call may change -/
namespace Bc
open PySem PySem.Spec PyProof.Rows L2
/-- what reads as a tuple goes on reading so; what is locked stays so -/
def Kp (H H' : Hp) : Prop := ∀ a, (∀ xs, Rd H a (.tup xs) → Rd H' a (.tup xs)) ∧ ∀ o u, H a = some (.frz o u) → H' a = some (.frz o u)
theorem Kp.refl (H : Hp) : Kp H H := fun _ => ⟨fun _ h => h, fun _ _ h => h⟩
theorem Kp.trans {H H1 H2 : Hp} (a : Kp H H1) (b : Kp H1 H2) : Kp H H2 := fun c => ⟨fun o h => (b c).1 o ((a c).1 o h), fun o u h => (b c).2 o u ((a c).2 o u h)⟩
theorem kp_same {H H' : Hp} (e : Same H H') : Kp H H' := fun a => ⟨fun xs h => by
  rcases h with h | ⟨o, h⟩
  · exact .inl (e _ _ h)
  · exact .inr ⟨o, e _ _ h⟩, fun o u h => e _ _ h⟩
/-- all but the object at a as it was -/
def Ro (a : Addr) (H H' : Hp) : Prop := ∀ b o, b ≠ a → H b = some o → H' b = some o
theorem Ro.refl (a : Addr) (H : Hp) : Ro a H H := fun _ _ _ h => h
theorem Ro.trans {a : Addr} {H H1 H2 : Hp} (x : Ro a H H1) (y : Ro a H1 H2) : Ro a H H2 := fun c o n h => y c o n (x c o n h)
theorem ro_same {a : Addr} {H H' : Hp} (e : Same H H') : Ro a H H' := fun b o _ h => e b o h
theorem ro_upd {a : Addr} {H : Hp} {o : HO} : Ro a H (upd H a o) := fun b u n h => by rw [upd_ne n]; exact h
theorem Ro.kp {a : Addr} {H H' : Hp} {zs : List V} (e : Ro a H H') (ha : H a = some (.lst zs)) : Kp H H' := fun b => by
  refine ⟨fun xs h => ?_, fun o u h => e _ _ (fun z => by subst z; rw [ha] at h; cases h) h⟩
  have hb : b ≠ a := fun z => by
    subst z
    rcases h with h | ⟨o, h⟩
    · rw [ha] at h; cases h
    · rw [ha] at h; cases h
  rcases h with h | ⟨o, h⟩
  · exact .inl (e _ _ hb h)
  · exact .inr ⟨o, e _ _ hb h⟩
theorem same_upd {H : Hp} {p : Addr} {o : HO} (h : H p = none) : Same H (upd H p o) := fun b x e => by
  rw [upd_ne (ne_of_none e h)]
  exact e
theorem kp_t {K : PySem.W.Frag} {H H' : Hp} {a : Addr} {xs : List V} (e : Kp H H') (h : SqT K H a xs) : SqT K H' a xs := by
  rcases h with h | h
  · exact Or.inl ((e _).1 _ h)
  · exact Or.inr h
theorem st_of {K : PySem.W.Frag} {H : Hp} {a : Addr} {xs : List V} (h : H a = some (.tup xs)) : SqT K H a xs := Or.inl (Or.inl h)
theorem sl_of {K : PySem.W.Frag} {H : Hp} {a : Addr} {xs : List V} (h : H a = some (.lst xs)) : SqL K H a xs := Or.inl (Or.inl h)
theorem sz_of {n : Nat} (h : n ≤ 100000) : n ≤ sizeLine := Nat.le_trans h (by decide)
theorem sz_lt {n : Nat} (h : n < 100000) : n < sizeLine := Nat.lt_of_lt_of_le h (by decide)
/-- a ratio -/
def Rt (K : PySem.W.Frag) (H : Hp) (v : V) (q : Rat) : Prop := ∃ a, v = .ref a ∧ SqT K H a [.int q.num, .int (q.den : Int)]
theorem Rt.kp {K : PySem.W.Frag} {H H' : Hp} {v : V} {q : Rat} (h : Rt K H v q) (e : Kp H H') : Rt K H' v q := let ⟨a, h1, h2⟩ := h; ⟨a, h1, kp_t e h2⟩
theorem Rt.sm {K : PySem.W.Frag} {H H' : Hp} {v : V} {q : Rat} (h : Rt K H v q) (e : Same H H') : Rt K H' v q := h.kp (kp_same e)
/-- values that are ratios, one by one -/
abbrev Rts (K : PySem.W.Frag) (H : Hp) : List V → List Rat → Prop := Paired (Rt K H)
theorem Rts.kp {K : PySem.W.Frag} {H H' : Hp} {vs : List V} {ps : List Rat} (h : Rts K H vs ps) (e : Kp H H') : Rts K H' vs ps := L2.Paired.mapP h fun _ _ r => r.kp e
theorem Rts.sm {K : PySem.W.Frag} {H H' : Hp} {vs : List V} {ps : List Rat} (h : Rts K H vs ps) (e : Same H H') : Rts K H' vs ps := h.kp (kp_same e)
/-- a tuple of ratios -/
def Pl (K : PySem.W.Frag) (H : Hp) (v : V) (p : List Rat) : Prop := ∃ a vs, v = .ref a ∧ SqT K H a vs ∧ Rts K H vs p
theorem Pl.kp {K : PySem.W.Frag} {H H' : Hp} {v : V} {p : List Rat} (h : Pl K H v p) (e : Kp H H') : Pl K H' v p := let ⟨a, vs, h1, h2, h3⟩ := h; ⟨a, vs, h1, kp_t e h2, h3.kp e⟩
theorem Pl.sm {K : PySem.W.Frag} {H H' : Hp} {v : V} {p : List Rat} (h : Pl K H v p) (e : Same H H') : Pl K H' v p := h.kp (kp_same e)
section
variable {α β : Type} {F : α → β → Prop}
theorem pr_get : ∀ {xs : List α} {ys : List β} {i : Nat} {y : β}, Paired F xs ys → ys[i]? = some y → ∃ x, xs[i]? = some x ∧ F x y
  | _, _, i, y, .nil, h => by simp at h
  | _, _, 0, y, .cons (a := a) r _, h => ⟨a, rfl, by have := Option.some.inj h; subst this; exact r⟩
  | _, _, i + 1, y, .cons _ t, h => by
    obtain ⟨x, h1, h2⟩ := pr_get (i := i) (y := y) t (by simpa using h)
    exact ⟨x, by simpa using h1, h2⟩
theorem pr_get' : ∀ {xs : List α} {ys : List β} {i : Nat} {x : α}, Paired F xs ys → xs[i]? = some x → ∃ y, ys[i]? = some y ∧ F x y
  | _, _, i, y, .nil, h => by simp at h
  | _, _, 0, y, .cons (b := b) r _, h => ⟨b, rfl, by have := Option.some.inj h; subst this; exact r⟩
  | _, _, i + 1, y, .cons _ t, h => by
    obtain ⟨x, h1, h2⟩ := pr_get' (i := i) (x := y) t (by simpa using h)
    exact ⟨x, by simpa using h1, h2⟩
theorem pr_set {x : α} {y : β} (r : F x y) : ∀ {xs : List α} {ys : List β} (i : Nat), Paired F xs ys → Paired F (xs.set i x) (ys.set i y)
  | _, _, _, .nil => .nil
  | _, _, 0, .cons _ t => .cons r t
  | _, _, i + 1, .cons q t => .cons q (pr_set r i t)
theorem pr_app : ∀ {xs xs' : List α} {ys ys' : List β}, Paired F xs ys → Paired F xs' ys' → Paired F (xs ++ xs') (ys ++ ys')
  | _, _, _, _, .nil, s => s
  | _, _, _, _, .cons r t, s => .cons r (pr_app t s)
theorem pr_take : ∀ {xs : List α} {ys : List β} (n : Nat), Paired F xs ys → Paired F (xs.take n) (ys.take n)
  | _, _, 0, _ => .nil
  | _, _, _ + 1, .nil => .nil
  | _, _, n + 1, .cons r t => .cons r (pr_take n t)
theorem pr_drop : ∀ {xs : List α} {ys : List β} (n : Nat), Paired F xs ys → Paired F (xs.drop n) (ys.drop n)
  | _, _, 0, r => r
  | _, _, _ + 1, .nil => .nil
  | _, _, n + 1, .cons _ t => pr_drop n t
theorem pr_rev {xs : List α} {ys : List β} (h : Paired F xs ys) : Paired F xs.reverse ys.reverse := by
  induction h with
  | nil => exact .nil
  | cons r _ ih => rw [List.reverse_cons, List.reverse_cons]; exact pr_app ih (.cons r .nil)
theorem pr_rep {x : α} {y : β} (r : F x y) : ∀ n, Paired F (List.replicate n x) (List.replicate n y)
  | 0 => .nil
  | n + 1 => .cons r (pr_rep r n)
end
/-! ## promises -/
/-- a value of any kind: is it an int -/
def spWhole (K : PySem.W.Frag) : Sp := fun vs H Q _ => ∃ x T, vs = [x] ∧ TyB K H x T ∧ Q (.bl (decide (T = "int"))) H
/-- a ratio: yes -/
def spIsRatio (K : PySem.W.Frag) : Sp := fun vs H Q _ => ∃ x q, vs = [x] ∧ Rt K H x q ∧ Q (.bl true) H
def spCheckRatio (K : PySem.W.Frag) : Sp := fun vs H Q _ => ∃ x q, vs = [x] ∧ Rt K H x q ∧ Q .non H
/-- how long the numbers may be that are reckoned with; how long those in between -/
def kB : Nat := 2250
def kL : Nat := 4501
/-- two ints, the second one not 0: their ratio, new -/
def spLowest (K : PySem.W.Frag) : Sp := fun vs H Q _ => ∃ (t l : Int), vs = [.int t, .int l] ∧ l ≠ 0 ∧ t.natAbs < 2 ^ kL ∧ l.natAbs < 2 ^ kL ∧
  ∀ v H', Same H H' → Rt K H' v (Rat.divInt t l) → Q v H'
/-- two ratios: f of them -/
def spTwo (K : PySem.W.Frag) (f : Rat → Rat → Rat) : Sp := fun vs H Q _ => ∃ x y a b, vs = [x, y] ∧ Rt K H x a ∧ Rt K H y b ∧ Bd kB a ∧ Bd kB b ∧
  ∀ v H', Same H H' → Rt K H' v (f a b) → Q v H'
theorem Bd.pos {k : Nat} {q : Rat} (h : Bd k q) : 0 < k := by
  rcases Nat.eq_zero_or_pos k with e | e
  · have h2 := h.2
    rw [e] at h2
    have := den_pos q
    have : (2 : Nat) ^ 0 = 1 := rfl
    omega
  · exact e
theorem Bd.dn {k : Nat} {q : Rat} (h : Bd k q) : (q.den : Int).natAbs < 2 ^ k := h.2
theorem gcd_one (q : Rat) : Nat.gcd q.num.natAbs (q.den : Int).natAbs = 1 := q.reduced
end Bc
/-! == of ratios and of tuples of ratios -/
namespace Bc
open PySem PySem.Spec PyProof.Rows L2
def dR (q : Rat) : PyData := .tuple [.int q.num, .int (q.den : Int)]
def dP (p : List Rat) : PyData := .tuple (p.map dR)
theorem Rt.dp {K : PySem.W.Frag} {H : Hp} {v : V} {q : Rat} (h : Rt K H v q) : Dp K H v (dR q) := by
  obtain ⟨a, rfl, h⟩ := h
  exact .tup h (.cons (.int _) (.cons (.int _) .nil))
theorem Rts.dp {K : PySem.W.Frag} {H : Hp} {vs : List V} {ps : List Rat} (h : Rts K H vs ps) : DpAll K H vs (ps.map dR) := by
  induction h with
  | nil => exact .nil
  | cons r _ ih => exact .cons (Rt.dp r) ih
theorem Pl.dp {K : PySem.W.Frag} {H : Hp} {v : V} {p : List Rat} (h : Pl K H v p) : Dp K H v (dP p) := by
  obtain ⟨a, vs, rfl, h, r⟩ := h
  exact .tup h (Rts.dp r)
theorem eqv_R (a b : Rat) : PyData.eqv (dR a) (dR b) = decide (a = b) := by
  have e : PyData.eqv (dR a) (dR b) = (a.num == b.num && ((a.den : Int) == (b.den : Int) && true)) := by
    simp only [dR, PyData.eqv, PyData.eqvAll]
  rw [e]
  by_cases h : a = b
  · subst h; simp
  · rw [decide_eq_false h, Bool.and_true]
    by_cases h1 : a.num = b.num
    · by_cases h2 : a.den = b.den
      · exact absurd (Rat.ext h1 h2) h
      · have : ((a.den : Int) == (b.den : Int)) = false := beq_eq_false_iff_ne.mpr (by omega)
        rw [this, Bool.and_false]
    · rw [beq_eq_false_iff_ne.mpr h1, Bool.false_and]
theorem eqv_Ps : ∀ a b : List Rat, PyData.eqvAll (a.map dR) (b.map dR) = decide (a = b)
  | [], [] => by simp [PyData.eqvAll]
  | [], _ :: _ => by simp [PyData.eqvAll]
  | _ :: _, [] => by simp [PyData.eqvAll]
  | x :: a, y :: b => by
    rw [List.map_cons, List.map_cons, PyData.eqvAll, eqv_R, eqv_Ps a b]
    by_cases h1 : x = y <;> by_cases h2 : a = b <;> simp [h1, h2]
theorem eqv_P (a b : List Rat) : PyData.eqv (dP a) (dP b) = decide (a = b) := by
  simp only [dP, PyData.eqv]
  exact eqv_Ps a b
theorem depth_R (q : Rat) : (dR q).depth = 1 := by simp [dR, PyData.depth, PyData.depthAll]
theorem lay_R (q : Rat) : (dR q).canLay0 = true := by simp [dR, PyData.canLay0, PyData.canLayAll0]
theorem shaped_R (q : Rat) : SeqAt.shaped (dR q) = true := by
  unfold SeqAt.shaped
  rw [lay_R, depth_R]; rfl
theorem lay_Ps : ∀ p : List Rat, PyData.canLayAll0 (p.map dR) = true
  | [] => by simp [PyData.canLayAll0]
  | a :: p => by rw [List.map_cons, PyData.canLayAll0, lay_R, lay_Ps p]; rfl
theorem depth_Ps : ∀ p : List Rat, PyData.depthAll (p.map dR) ≤ 1
  | [] => by simp [PyData.depthAll]
  | a :: p => by
    rw [List.map_cons, PyData.depthAll, depth_R]
    have := depth_Ps p
    omega
theorem shaped_P (p : List Rat) : SeqAt.shaped (dP p) = true := by
  unfold SeqAt.shaped
  have h1 : (dP p).canLay0 = true := by
    simp only [dP, PyData.canLay0]
    exact lay_Ps p
  have h2 : (dP p).depth ≤ 64 := by
    simp only [dP, PyData.depth]
    have := depth_Ps p
    omega
  rw [h1, decide_eq_true h2]; rfl
section
variable {K : PySem.W.Frag} {H : Hp} {x y : V} {Q : VK}
theorem eq_rr {a b : Rat} (h1 : Rt K H x a) (h2 : Rt K H y b) (q : Q (.bl (decide (a = b))) H) : rEqD K x y H Q :=
  ⟨_, _, h1.dp, h2.dp, shaped_R a, shaped_R b, by rw [eqv_R]; exact q⟩
theorem ne_rr {a b : Rat} (h1 : Rt K H x a) (h2 : Rt K H y b) (q : Q (.bl (!decide (a = b))) H) : rNeD K x y H Q :=
  ⟨_, _, h1.dp, h2.dp, shaped_R a, shaped_R b, by rw [eqv_R]; exact q⟩
theorem eq_pp {a b : List Rat} (h1 : Pl K H x a) (h2 : Pl K H y b) (q : Q (.bl (decide (a = b))) H) : rEqD K x y H Q :=
  ⟨_, _, h1.dp, h2.dp, shaped_P a, shaped_P b, by rw [eqv_P]; exact q⟩
theorem ne_pp {a b : List Rat} (h1 : Pl K H x a) (h2 : Pl K H y b) (q : Q (.bl (!decide (a = b))) H) : rNeD K x y H Q :=
  ⟨_, _, h1.dp, h2.dp, shaped_P a, shaped_P b, by rw [eqv_P]; exact q⟩
theorem eq_rc {σ : L2.St} {a b : Rat} (h1 : Rt K H x a) (h2 : Rt K H y b) (q : Q (.bl (decide (a = b))) H) : tC y σ H fun z H2 => rEqD K x z H2 Q := eq_rr h1 h2 q
theorem ne_rc {σ : L2.St} {a b : Rat} (h1 : Rt K H x a) (h2 : Rt K H y b) (q : Q (.bl (!decide (a = b))) H) : tC y σ H fun z H2 => rNeD K x z H2 Q := ne_rr h1 h2 q
theorem rt_zero {p : Addr} (h : SqT K H p [.int 0, .int 1]) : Rt K H (.ref p) 0 := ⟨p, rfl, h⟩
theorem rt_one {p : Addr} (h : SqT K H p [.int 1, .int 1]) : Rt K H (.ref p) 1 := ⟨p, rfl, h⟩
theorem pl_nil {p : Addr} (h : SqT K H p []) : Pl K H (.ref p) [] := ⟨p, [], rfl, h, .nil⟩
end
/-! ## promises for tuples -/
def spHasLen (K : PySem.W.Frag) : Sp := fun vs H Q _ => ∃ (a : Addr) (xs : List V) (i j : Int), vs = [.ref a, .int i, .int j] ∧ SqT K H a xs ∧ Q (.bl (decide (i ≤ (xs.length : Int)) && decide ((xs.length : Int) ≤ j))) H
def spAreRatios (K : PySem.W.Frag) : Sp := fun vs H Q _ => ∃ (x : V) (p : List Rat) (n : Int), vs = [x, .int n] ∧ Pl K H x p ∧ p.length ≤ 1000 ∧ n = p.length ∧ ∀ H', Same H H' → Q (.bl true) H'
def spIsPoly (K : PySem.W.Frag) : Sp := fun vs H Q _ => ∃ (x : V) (p : List Rat), vs = [x] ∧ Pl K H x p ∧ Can p ∧ p.length ≤ 13 ∧ ∀ H', Same H H' → Q (.bl true) H'
def spCheckPoly (K : PySem.W.Frag) : Sp := fun vs H Q _ => ∃ (x : V) (p : List Rat), vs = [x] ∧ Pl K H x p ∧ Can p ∧ p.length ≤ 13 ∧ ∀ H', Same H H' → Q .non H'
def spDegree (K : PySem.W.Frag) : Sp := fun vs H Q _ => ∃ (a : Addr) (xs : List V), vs = [.ref a] ∧ SqT K H a xs ∧ Q (.int ((xs.length : Int) - 1)) H
def spCheckSize (K : PySem.W.Frag) : Sp := fun vs H Q _ => ∃ (i : Int), vs = [.int i] ∧ i ≤ 12 ∧ Q .non H
/-- a list of ratios: without zeros at the end, as a tuple -/
def spTrim (K : PySem.W.Frag) : Sp := fun vs H Q _ => ∃ (a : Addr) (xs : List V) (p : List Rat), vs = [.ref a] ∧ H a = some (.lst xs) ∧ Rts K H xs p ∧ p.length ≤ 1000 ∧ ∀ v H', Same H H' → Pl K H' v (trim p) → Q v H'
theorem Pl.len {K : PySem.W.Frag} {H : Hp} {v : V} {p : List Rat} (h : Pl K H v p) : ∃ a vs, v = .ref a ∧ SqT K H a vs ∧ Rts K H vs p ∧ vs.length = p.length := by
  obtain ⟨a, vs, e, h, r⟩ := h
  exact ⟨a, vs, e, h, r, r.length⟩
end Bc
namespace Bc
open PySem PySem.Spec PyProof.Rows L2 RZ RT
theorem sg_lt {t l : Int} {k : Nat} (h : l ≠ 0) (hl : l.natAbs < 2 ^ k) : (sg t l).natAbs < 2 ^ k := by
  rw [sg_abs]
  exact Nat.lt_of_le_of_lt (gcd_le_right h) hl
/-- the end of both ways to lowest terms: a new pair -/
theorem made_end {K : PySem.W.Frag} {H : Hp} {Q : VK} {t l : Int} (hl : l ≠ 0) (q : ∀ v H', Same H H' → Rt K H' v (Rat.divInt t l) → Q v H') :
    ∀ p, H p = none → Q (.ref p) (upd H p (.tup [.int (t.fdiv (sg t l)), .int (l.fdiv (sg t l))])) := fun p hp => by
  rw [low_num hl, low_den hl]
  exact q _ _ (same_upd hp) ⟨p, rfl, st_of upd_same⟩
/-- a comprehension's new list so far: all else as it was -/
def Lc (H : Hp) (D : Addr) (xs : List V) (H' : Hp) : Prop := H D = none ∧ Same H H' ∧ H' D = some (.lst xs)
theorem Lc.start {H : Hp} {D : Addr} (h : H D = none) : Lc H D [] (upd H D (.lst [])) := ⟨h, same_upd h, upd_same⟩
theorem Lc.next {H H' H2 : Hp} {D : Addr} {xs ys : List V} (l : Lc H D xs H') (e : Same H' H2) (q : ys = xs ++ [y]) : Lc H D ys (upd H2 D (.lst (xs ++ [y]))) :=
  ⟨l.1, fun b o h => by rw [upd_ne (ne_of_none h l.1)]; exact e _ _ (l.2.1 _ _ h), by rw [q]; exact upd_same⟩
theorem cut_to {xs : List V} {n : Nat} (h : n ≤ xs.length) : cutV xs none (some (n : Int)) = xs.take n := by
  unfold cutV
  rw [HT.sIx_none, HT.sIx_nat, List.drop_zero, Nat.sub_zero, Nat.min_eq_left h]
theorem take_trim {p : List Rat} {n : Nat} {a : Rat} (h : p[n]? = some a) (e : a = 0) (ht : trim (p.take (n + 1)) = trim p) : trim (p.take n) = trim p := by
  rw [List.take_add_one, h, e] at ht
  have h2 : trim (p.take n ++ [0]) = trim (p.take n) := trim_snoc0 _
  rw [← h2]
  exact ht
theorem take_can {p : List Rat} {n : Nat} {a : Rat} (h : p[n]? = some a) (e : a ≠ 0) (ht : trim (p.take (n + 1)) = trim p) : trim p = p.take (n + 1) := by
  rw [← ht, List.take_add_one, h]
  exact trim_snoc _ e
/-- ratios in a list or a tuple -/
def Pq (K : PySem.W.Frag) (H : Hp) (v : V) (p : List Rat) : Prop := ∃ a vs, v = .ref a ∧ (SqL K H a vs ∨ SqT K H a vs) ∧ Rts K H vs p
theorem Pl.pq {K : PySem.W.Frag} {H : Hp} {v : V} {p : List Rat} (h : Pl K H v p) : Pq K H v p := let ⟨a, vs, h1, h2, h3⟩ := h; ⟨a, vs, h1, .inr h2, h3⟩
theorem Pq.sm {K : PySem.W.Frag} {H H' : Hp} {v : V} {p : List Rat} (h : Pq K H v p) (e : Same H H') : Pq K H' v p := by
  obtain ⟨a, vs, h1, h2, h3⟩ := h
  refine ⟨a, vs, h1, ?_, Rts.sm h3 e⟩
  rcases h2 with h2 | h2
  · exact .inl (e.seq h2)
  · exact .inr (kp_t (kp_same e) h2)
/-- the value of a polynomial, not in lowest terms -/
def spRaw (K : PySem.W.Frag) : Sp := fun vs H Q _ => ∃ (x v : V) (p : List Rat) (q : Rat) (n m : Nat), vs = [x, v] ∧ Pq K H x p ∧ Rt K H v q ∧ (∀ c ∈ p, Bd n c) ∧ Bd m q ∧ 1 + p.length * (n + m + 1) ≤ kL ∧
  ∀ a H', H a = none → Same H H' → H' a = some (.tup [.int (rv q p).1, .int (rv q p).2]) → Q (.ref a) H'
def spValueAt (K : PySem.W.Frag) : Sp := fun vs H Q _ => ∃ (x v : V) (p : List Rat) (q : Rat) (n m : Nat), vs = [x, v] ∧ Pq K H x p ∧ Rt K H v q ∧ (∀ c ∈ p, Bd n c) ∧ Bd m q ∧ 1 + p.length * (n + m + 1) ≤ kL ∧
  ∀ r H', Same H H' → Rt K H' r (pev p q) → Q r H'
theorem ixN_at {n j : Nat} (hj : j < n) : ixN n (j : Int) = some j := by
  unfold ixN
  rw [if_pos (by omega), if_pos (by omega)]
  simp
theorem rep_flat {α : Type} (x : α) (n : Nat) : (List.replicate n [x]).flatten = List.replicate n x := by
  induction n with
  | zero => rfl
  | succ n ih => rw [List.replicate_succ, List.flatten_cons, ih]; rfl
/-- a list of ratios that is being filled: all else as it was -/
structure Fi (K : PySem.W.Frag) (H : Hp) (D : Addr) (L : List Rat) (H' : Hp) : Prop where
  new : H D = none
  sm : Same H H'
  li : ∃ vs, H' D = some (.lst vs) ∧ Rts K H' vs L
theorem Fi.sm' {K : PySem.W.Frag} {H H' H2 : Hp} {D : Addr} {L : List Rat} (f : Fi K H D L H') (e : Same H' H2) : Fi K H D L H2 :=
  let ⟨vs, h1, h2⟩ := f.li
  ⟨f.new, f.sm.trans e, vs, e _ _ h1, h2.sm e⟩
theorem Fi.set {K : PySem.W.Frag} {H H' : Hp} {D : Addr} {L : List Rat} (f : Fi K H D L H') {vs : List V} (hD : H' D = some (.lst vs)) (hv : Rts K H' vs L) {v : V} {a : Rat} (r : Rt K H' v a) (i : Nat) : Fi K H D (L.set i a) (upd H' D (.lst (vs.set i v))) := by
  have k : Kp H' (upd H' D (.lst (vs.set i v))) := (ro_upd (a := D)).kp hD
  exact ⟨f.new, fun b o h => by rw [upd_ne (ne_of_none h f.new)]; exact f.sm _ _ h, _, upd_same, Rts.kp (pr_set r i hv) k⟩
def spValue (K : PySem.W.Frag) : Sp := fun vs H Q _ => ∃ (x v : V) (p : List Rat) (q : Rat) (n m : Nat), vs = [x, v] ∧ Pl K H x p ∧ Rt K H v q ∧ Can p ∧ p.length ≤ 13 ∧ (∀ c ∈ p, Bd n c) ∧ Bd m q ∧ 1 + p.length * (n + m + 1) ≤ kL ∧
  ∀ r H', Same H H' → Rt K H' r (pev p q) → Q r H'
def spSumOf (K : PySem.W.Frag) : Sp := fun vs H Q _ => ∃ (x y : V) (p q : List Rat), vs = [x, y] ∧ Pl K H x p ∧ Pl K H y q ∧ p.length ≤ 100 ∧ q.length ≤ 100 ∧ (∀ c ∈ p, Bd kB c) ∧ (∀ c ∈ q, Bd kB c) ∧
  ∀ r H', Same H H' → Pl K H' r (trim (padd p q)) → Q r H'
def spProdOf (K : PySem.W.Frag) : Sp := fun vs H Q _ => ∃ (x y : V) (p q : List Rat) (k k2 : Nat), vs = [x, y] ∧ Pl K H x p ∧ Pl K H y q ∧ p.length ≤ 100 ∧ q.length ≤ 100 ∧ 0 < k ∧ 0 < k2 ∧ (∀ c ∈ p, Bd k c) ∧ (∀ c ∈ q, Bd k2 c) ∧ 1 + min p.length q.length * (k + k2 + 1) ≤ kB ∧
  ∀ r H', Same H H' → Pl K H' r (trim (pmul p q)) → Q r H'
def spAdd (K : PySem.W.Frag) : Sp := fun vs H Q _ => ∃ (x y : V) (p q : List Rat), vs = [x, y] ∧ Pl K H x p ∧ Pl K H y q ∧ Can p ∧ Can q ∧ p.length ≤ 13 ∧ q.length ≤ 13 ∧ (∀ c ∈ p, Bd kB c) ∧ (∀ c ∈ q, Bd kB c) ∧
  ∀ r H', Same H H' → Pl K H' r (trim (padd p q)) → Q r H'
def spMultiply (K : PySem.W.Frag) : Sp := fun vs H Q _ => ∃ (x y : V) (p q : List Rat) (k k2 : Nat), vs = [x, y] ∧ Pl K H x p ∧ Pl K H y q ∧ Can p ∧ Can q ∧ p.length ≤ 13 ∧ q.length ≤ 13 ∧ p.length + q.length ≤ 14 ∧ 0 < k ∧ 0 < k2 ∧ (∀ c ∈ p, Bd k c) ∧ (∀ c ∈ q, Bd k2 c) ∧ 1 + min p.length q.length * (k + k2 + 1) ≤ kB ∧
  ∀ r H', Same H H' → Pl K H' r (trim (pmul p q)) → Q r H'
/-- the script: locked, or written -/
def Sc (K : PySem.W.Frag) (H : Hp) (a : Addr) (xs : List V) : Prop := (∃ o, H a = some (.frz o (.lst xs))) ∨
  ∃ (o : Obj) (its : Array Value) (n : Nat), K.lookup a = some o ∧ o.cls = .type "list" ∧ o.dict = none ∧ o.data = .seq its n ∧ its.size ≤ sizeLine ∧ Vals xs its.toList
theorem Sc.sl {K : PySem.W.Frag} {H : Hp} {a : Addr} {xs : List V} (h : Sc K H a xs) : SqL K H a xs := by
  rcases h with ⟨o, h⟩ | h
  · exact .inl (.inr ⟨o, h⟩)
  · exact .inr h
theorem Sc.kp {K : PySem.W.Frag} {H H' : Hp} {a : Addr} {xs : List V} (h : Sc K H a xs) (e : Kp H H') : Sc K H' a xs := by
  rcases h with ⟨o, h⟩ | h
  · exact .inl ⟨o, (e a).2 _ _ h⟩
  · exact .inr h
/-- the state of the draws at r: the script, a place, a number, a rest -/
def Row (K : PySem.W.Frag) (H : Hp) (r : Addr) : Prop := ∃ (sc : Addr) (ns : List Int) (i m t : Int), H r = some (.lst [.ref sc, .int i, .int m, .int t]) ∧ Sc K H sc (ns.map V.int) ∧ 0 ≤ i ∧ 0 ≤ m ∧ m < 2147483647
theorem Row.sm {K : PySem.W.Frag} {H H' : Hp} {r : Addr} (h : Row K H r) (e : Same H H') : Row K H' r := by
  obtain ⟨sc, ns, i, m, t, h1, h3, h4⟩ := h
  exact ⟨sc, ns, i, m, t, e _ _ h1, h3.kp (kp_same e), h4⟩
theorem Row.kp {K : PySem.W.Frag} {H H' : Hp} {r : Addr} (h : Row K H r) (e : Ro r H H') : Kp H H' := by
  obtain ⟨sc, ns, i, m, t, h1, _⟩ := h
  exact e.kp h1
theorem Row.ne {K : PySem.W.Frag} {H : Hp} {r p : Addr} (h : Row K H r) (hp : H p = none) : p ≠ r := fun z => by
  obtain ⟨sc, ns, i, m, t, h1, _⟩ := h
  subst z
  rw [hp] at h1
  cases h1
/-- another list is changed -/
theorem Row.upd {K : PySem.W.Frag} {H : Hp} {r D : Addr} {xs : List V} {o : HO} (h : Row K H r) (hD : H D = some (.lst xs)) (hn : D ≠ r) : Row K (upd H D o) r := by
  obtain ⟨sc, ns, i, m, t, h1, h3, h4⟩ := h
  exact ⟨sc, ns, i, m, t, by rw [upd_ne (Ne.symm hn)]; exact h1, h3.kp (ro_upd.kp hD), h4⟩
def spTaken (K : PySem.W.Frag) : Sp := fun vs H Q _ => ∃ (r : Addr) (n : Int), vs = [.ref r, .int n] ∧ Row K H r ∧ 0 < n ∧ n.natAbs < 2 ^ 60 ∧
  ∀ (k : Int) H', 0 ≤ k → k < n → Row K H' r → Ro r H H' → Q (.int k) H'
def spPick (K : PySem.W.Frag) : Sp := fun vs H Q _ => ∃ (r b : Addr) (ws : List V), vs = [.ref r, .ref b] ∧ Row K H r ∧ H b = some (.lst ws) ∧ b ≠ r ∧ 0 < ws.length ∧ ws.length ≤ 1000 ∧
  ∀ v H', v ∈ ws → Row K H' r → Ro r H H' → Q v H'
def spDraw (K : PySem.W.Frag) : Sp := fun vs H Q _ => ∃ (r : Addr), vs = [.ref r] ∧ Row K H r ∧
  ∀ v q H', Rt K H' v q → Bd 3 q → Row K H' r → Ro r H H' → Q v H'
theorem fmod_bd {a n : Int} (h : 0 < n) : 0 ≤ a.fmod n ∧ a.fmod n < n := by
  rw [Int.fmod_eq_emod_of_nonneg _ (by omega)]
  exact ⟨Int.emod_nonneg _ (by omega), Int.emod_lt_of_pos _ h⟩
theorem log_lt {a : Int} {k : Nat} (h : a.natAbs < 2 ^ k) (h0 : 0 < k) : a.natAbs.log2 < k := PySem.Flt.log2_lt_of h0 h
theorem last_of {vs : List V} {k : Nat} {v : V} (h : vs[k]? = some v) : ∃ ys, vs.take (k + 1) = ys ++ [v] ∧ ys = vs.take k := ⟨vs.take k, by rw [List.take_add_one, h]; rfl, rfl⟩
theorem six_m1 (n d : Nat) : HT.sIx (n + 1) d (some (-1)) = n := by
  show (if (-1 : Int) < 0 then ((-1 : Int) + ((n + 1 : Nat) : Int)).toNat else min (-1 : Int).toNat (n + 1)) = n
  rw [if_pos (by decide)]
  omega
theorem cut_m1 {vs : List V} {n : Nat} (h : vs.length = n + 1) : cutV vs none (some (-1)) = vs.take n := by
  unfold cutV
  rw [HT.sIx_none, h, six_m1, List.drop_zero, Nat.sub_zero]
/-- a polynomial drawn -/
def spPoly (K : PySem.W.Frag) : Sp := fun vs H Q _ => ∃ (r : Addr) (n : Int), vs = [.ref r, .int n] ∧ Row K H r ∧ 0 ≤ n ∧ n ≤ 20 ∧
  ∀ v p H', Pl K H' v p → Can p → (p.length : Int) ≤ n + 1 → (∀ c ∈ p, Bd 3 c) → Row K H' r → Ro r H H' → Q v H'
/-- the value of a polynomial -/
def spAt (K : PySem.W.Frag) : Sp := fun vs H Q _ => ∃ (x v : V) (p : List Rat) (q : Rat) (n m : Nat), vs = [x, v] ∧ Pl K H x p ∧ Rt K H v q ∧ (∀ c ∈ p, Bd n c) ∧ Bd m q ∧ 1 + p.length * (n + m + 1) ≤ kB ∧ p.length ≤ 1000 ∧
  ∀ r H', Same H H' → Rt K H' r (pev p q) → Q r H'
theorem pev_bd {x : Rat} {n m : Nat} (hx : Bd m x) : ∀ {p : List Rat}, (∀ c ∈ p, Bd n c) → Bd (1 + p.length * (n + m + 1)) (pev p x)
  | [], _ => by
    show Bd (1 + 0 * (n + m + 1)) 0
    rw [Nat.zero_mul]; exact Bd.zero
  | c :: p, h => by
    have h1 := pev_bd hx (p := p) fun d hd => h d (List.mem_cons_of_mem _ hd)
    have h2 := (h c List.mem_cons_self).add (hx.mul h1)
    rw [List.length_cons, Nat.succ_mul]
    exact h2.le (by omega)
section
variable {K : PySem.W.Frag}
/-- tuples of ratios put together -/
theorem cat_p {H : Hp} {Q : VK} {x y : V} {p r : List Rat} (hp : Pl K H x p) (hq : Pl K H y r) (hz : p.length + r.length ≤ 1000) (q : ∀ v H', Same H H' → Pl K H' v (p ++ r) → Q v H') : rCatA K x y H Q := by
  obtain ⟨a, xs, rfl, ha, rs, hl⟩ := hp.len
  obtain ⟨b, ys, rfl, hb, ss, hm⟩ := hq.len
  refine ⟨a, b, xs, ys, rfl, rfl, ha, hb, sz_of (by omega), fun e => ?_, fun _ e => ?_, fun _ _ t ht => ?_⟩
  · subst e
    have : p = [] := List.eq_nil_of_length_eq_zero hl.symm
    subst this
    exact q _ _ (Same.refl _) hq
  · subst e
    have : r = [] := List.eq_nil_of_length_eq_zero hm.symm
    subst this
    rw [List.append_nil] at q
    exact q _ _ (Same.refl _) hp
  · exact q _ _ (same_upd ht) ⟨t, _, rfl, st_of upd_same, Rts.sm (pr_app rs ss) (same_upd ht)⟩
end
section
variable {K : PySem.W.Frag}
/-- a tuple of one ratio, k times -/
theorem rep_p {H : Hp} {Q : VK} {x : V} {c : Rat} {k : Int} (hp : Pl K H x [c]) (h0 : 0 ≤ k) (h1 : k ≤ 1000) (q : ∀ v H', Same H H' → Pl K H' v (List.replicate k.toNat c) → Q v H') : rRepA K x (.int k) H Q := by
  obtain ⟨a, xs, rfl, ha, rs, hl⟩ := hp.len
  obtain ⟨v, rfl⟩ : ∃ v, xs = [v] := by
    cases rs with
    | cons r t => cases t; exact ⟨_, rfl⟩
  have hv : Rt K H v c := by cases rs with | cons r t => exact r
  refine ⟨a, k, [v], rfl, rfl, ha, by simp, h0, h1, (by decide : 1 ≤ 1000), fun e => ?_, fun _ t ht => ?_⟩
  · subst e
    exact q _ _ (Same.refl _) hp
  · rw [rep_flat] at *
    exact q _ _ (same_upd ht) ⟨t, _, rfl, st_of upd_same, Rts.sm (pr_rep hv _) (same_upd ht)⟩
end
/-- two values of ints in tuples in tuples .., n deep, alike -/
def Al (K : PySem.W.Frag) (H : Hp) : Nat → V → V → Prop
  | 0, x, y => ∃ i, x = .int i ∧ y = .int i
  | n + 1, x, y => ∃ a b xs ys, x = .ref a ∧ y = .ref b ∧ SqT K H a xs ∧ SqT K H b ys ∧ xs.length ≤ 1000 ∧ Paired (Al K H n) xs ys
theorem Al.kp {K : PySem.W.Frag} {H H' : Hp} (e : Kp H H') : ∀ {n : Nat} {x y : V}, Al K H n x y → Al K H' n x y
  | 0, _, _, h => h
  | n + 1, _, _, ⟨a, b, xs, ys, h1, h2, h3, h4, h5, h6⟩ => ⟨a, b, xs, ys, h1, h2, kp_t e h3, kp_t e h4, h5, L2.Paired.mapP h6 fun _ _ h => Al.kp e h⟩
theorem Al.rt {K : PySem.W.Frag} {H : Hp} {x y : V} {q : Rat} (h1 : Rt K H x q) (h2 : Rt K H y q) : Al K H 1 x y := by
  obtain ⟨a, rfl, h1⟩ := h1
  obtain ⟨b, rfl, h2⟩ := h2
  exact ⟨a, b, _, _, rfl, rfl, h1, h2, (by decide : 2 ≤ 1000), .cons ⟨_, rfl, rfl⟩ (.cons ⟨_, rfl, rfl⟩ .nil)⟩
theorem al_rts {K : PySem.W.Frag} {H : Hp} : ∀ {xs ys : List V} {p : List Rat}, Rts K H xs p → Rts K H ys p → Paired (Al K H 1) xs ys
  | _, _, _, .nil, .nil => .nil
  | _, _, _, .cons r rs, .cons s ss => .cons (Al.rt r s) (al_rts rs ss)
theorem Al.pl {K : PySem.W.Frag} {H : Hp} {x y : V} {p : List Rat} (h1 : Pl K H x p) (h2 : Pl K H y p) (hz : p.length ≤ 1000) : Al K H 2 x y := by
  obtain ⟨a, xs, rfl, h1, rs, hl⟩ := h1.len
  obtain ⟨b, ys, rfl, h2, ss, hm⟩ := h2.len
  exact ⟨a, b, xs, ys, rfl, rfl, h1, h2, by omega, al_rts rs ss⟩
theorem sq_ty {K : PySem.W.Frag} {H : Hp} {a : Addr} {xs : List V} (h : SqT K H a xs) : TyX K H (.ref a) (.type "tuple") := by
  rcases h with (h | ⟨o, h⟩) | ⟨o, its, n, h, hc, _⟩
  · exact .base (.tup h)
  · exact .fTuple h
  · exact .kTuple h hc
def spAlP (K : PySem.W.Frag) (m : Nat) : Sp := fun vs H Q _ => ∃ x y n, vs = [x, y] ∧ n < m ∧ Al K H n x y ∧ ∀ H', Same H H' → Q (.bl true) H'
theorem cf_snoc (L : List Rat) (c : Rat) (n : Nat) : cf (L ++ [c]) n = if n = L.length then c else cf L n := by
  by_cases h : n = L.length
  · subst h
    rw [if_pos rfl, cf_lt (by simp), List.getElem_append_right (Nat.le_refl _)]
    simp
  · rw [if_neg h]
    by_cases h2 : n < L.length
    · rw [cf_lt (by simp; omega), cf_lt h2, List.getElem_append_left h2]
    · rw [cf_ge (p := L) (by omega), cf_ge (by simp; omega)]
theorem cf_pad (p : List Rat) (k n : Nat) : cf (p ++ List.replicate k 0) n = cf p n := by
  by_cases h : n < p.length
  · rw [cf_lt (by simp; omega), cf_lt h, List.getElem_append_left h]
  · rw [cf_ge (p := p) (by omega)]
    by_cases h2 : n < p.length + k
    · rw [cf_lt (by simp; omega), List.getElem_append_right (by omega), List.getElem_replicate]
    · exact cf_ge (by simp; omega)
theorem max_nat (x y : Nat) : (if (y : Int) > (x : Int) then (y : Int) else (x : Int)) = ((max x y : Nat) : Int) := by
  by_cases z : (y : Int) > (x : Int)
  · rw [if_pos z]; omega
  · rw [if_neg z]; omega
/-- each of a tuple's ratios times another one -/
def spScaled (K : PySem.W.Frag) : Sp := fun vs H Q _ => ∃ (x y : V) (p : List Rat) (c : Rat), vs = [x, y] ∧ Pl K H x p ∧ Rt K H y c ∧ p.length ≤ 100 ∧ (∀ d ∈ p, Bd kB d) ∧ Bd kB c ∧
  ∀ r H', Same H H' → Pl K H' r (trim (smul c p)) → Q r H'
def spComposed (K : PySem.W.Frag) : Sp := fun vs H Q _ => ∃ (x y : V) (p q : List Rat) (k1 k2 : Nat), vs = [x, y] ∧ Pl K H x p ∧ Pl K H y q ∧ Can p ∧ Can q ∧ p.length ≤ 13 ∧ q.length ≤ 13 ∧ ((p.length : Int) - 1) * ((q.length : Int) - 1) ≤ 12 ∧ clen q.length p.length ≤ 80 ∧
  0 < k1 ∧ 0 < k2 ∧ (∀ c ∈ p, Bd k1 c) ∧ (∀ c ∈ q, Bd k2 c) ∧ (∀ i, i ≤ p.length → cbits k1 k2 q.length i ≤ kB) ∧ ∀ r H', Same H H' → Pl K H' r (trim (comp p q)) → Q r H'
def spOver (K : PySem.W.Frag) : Sp := fun vs H Q _ => ∃ x y a b, vs = [x, y] ∧ Rt K H x a ∧ Rt K H y b ∧ Bd kB a ∧ Bd kB b ∧ b ≠ 0 ∧
  ∀ v H', Same H H' → Rt K H' v (a / b) → Q v H'
def spSlope (K : PySem.W.Frag) : Sp := fun vs H Q _ => ∃ (x : V) (p : List Rat) (k : Nat), vs = [x] ∧ Pl K H x p ∧ Can p ∧ p.length ≤ 13 ∧ 0 < k ∧ (∀ c ∈ p, Bd k c) ∧ k ≤ kB ∧
  ∀ r H', Same H H' → Pl K H' r (dv p) → Q r H'
def spIntegral (K : PySem.W.Frag) : Sp := fun vs H Q _ => ∃ (x y z : V) (p : List Rat) (lo hi : Rat) (k m : Nat), vs = [x, y, z] ∧ Pl K H x p ∧ Rt K H y lo ∧ Rt K H z hi ∧ Can p ∧ p.length ≤ 13 ∧ 0 < k ∧ (∀ c ∈ p, Bd k c) ∧ Bd m lo ∧ Bd m hi ∧
  1 + (p.length + 1) * (k + 4 + m + 1) ≤ kB ∧ ∀ r H', Same H H' → Rt K H' r (pev (wp p) hi - pev (wp p) lo) → Q r H'
theorem cut_from1 (xs : List V) : cutV xs (some 1) none = xs.drop 1 := by
  unfold cutV
  rw [show HT.sIx xs.length 0 (some 1) = min 1 xs.length from HT.sIx_nat xs.length 0 1, HT.sIx_none]
  cases xs with
  | nil => rfl
  | cons x r =>
    rw [show min 1 (x :: r).length = 1 by rw [List.length_cons]; omega]
    exact List.take_of_length_le (by rw [List.length_drop]; omega)
end Bc
namespace Bc
open PySem PySem.Spec PyProof.Rows L2 RZ RT
theorem walk_zipQ {K : PySem.W.Frag} {a b : Addr} {xs ys : List V} {n : Nat} (hn : n = min xs.length ys.length) : Walk (Itz K a b) n (fun H => SqL K H a xs ∧ SqL K H b ys) (YPair (fun i => xs[i]?) (fun i => ys[i]?)) := by
  subst hn
  refine ⟨fun i _ hi q => ?_, fun _ q => ⟨xs, ys, q.1, q.2, by omega⟩, fun i H v H' _ q y => ?_⟩
  · have h1 : i < xs.length := by omega
    have h2 : i < ys.length := by omega
    exact ⟨xs, ys, xs[i], ys[i], q.1, q.2, by simp [h1], by simp [h2]⟩
  · obtain ⟨T, x, z, h1, h2, h3, h4, h5⟩ := y
    exact ⟨T, x, z, h1, h2, h3, h4 xs q.1, h5 ys q.2⟩
/-- between two ratios, in a proportion -/
def spBetween (K : PySem.W.Frag) : Sp := fun vs H Q _ => ∃ x y z a b t k, vs = [x, y, z] ∧ Rt K H x a ∧ Rt K H y b ∧ Rt K H z t ∧ Bd k a ∧ Bd k b ∧ Bd k t ∧ 3 * k + 1 ≤ kB ∧
  ∀ v H', Same H H' → Rt K H' v (a + t * (b - a)) → Q v H'
def spCheckRow (K : PySem.W.Frag) : Sp := fun vs H Q _ => ∃ (x : V) (p : List Rat), vs = [x, .int 8] ∧ Pl K H x p ∧ 1 ≤ p.length ∧ p.length ≤ 9 ∧ ∀ H', Same H H' → Q .non H'
/-- ratios in a tuple, or in a list that is not the one at D -/
def Pn (K : PySem.W.Frag) (D : Addr) (H : Hp) (v : V) (p : List Rat) : Prop := ∃ a vs, v = .ref a ∧ (SqT K H a vs ∨ (a ≠ D ∧ H a = some (.lst vs))) ∧ Rts K H vs p
theorem Pn.sm {K : PySem.W.Frag} {D : Addr} {H H' : Hp} {v : V} {p : List Rat} (h : Pn K D H v p) (e : Same H H') : Pn K D H' v p := by
  obtain ⟨a, vs, h1, h2, h3⟩ := h
  refine ⟨a, vs, h1, ?_, Rts.sm h3 e⟩
  rcases h2 with h2 | ⟨h2, h4⟩
  · exact .inl (kp_t (kp_same e) h2)
  · exact .inr ⟨h2, e _ _ h4⟩
theorem Pn.up {K : PySem.W.Frag} {D : Addr} {H : Hp} {v : V} {p : List Rat} {zs : List V} {o : HO} (hD : H D = some (.lst zs)) (h : Pn K D H v p) : Pn K D (upd H D o) v p := by
  obtain ⟨a, vs, h1, h2, h3⟩ := h
  have k : Kp H (upd H D o) := (ro_upd (a := D)).kp hD
  refine ⟨a, vs, h1, ?_, Rts.kp h3 k⟩
  rcases h2 with h2 | ⟨h2, h4⟩
  · exact .inl (kp_t k h2)
  · exact .inr ⟨h2, by rw [upd_ne h2]; exact h4⟩
theorem Pn.pq {K : PySem.W.Frag} {D : Addr} {H : Hp} {v : V} {p : List Rat} (h : Pn K D H v p) : Pq K H v p := by
  obtain ⟨a, vs, h1, h2, h3⟩ := h
  refine ⟨a, vs, h1, ?_, h3⟩
  rcases h2 with h2 | ⟨h2, h4⟩
  · exact .inr h2
  · exact .inl (sl_of h4)
/-- Casteljau's rows -/
def spAverages (K : PySem.W.Frag) : Sp := fun vs H Q _ => ∃ (x y : V) (p : List Rat) (t : Rat) (k : Nat), vs = [x, y] ∧ Pl K H x p ∧ Rt K H y t ∧ 1 ≤ p.length ∧ p.length ≤ 9 ∧ 3 * k + 1 ≤ kB ∧ Bd k t ∧ (∀ j i, j ≤ p.length → Bd k (avgs t (cf p) j i)) ∧
  ∀ D ws H', Same H H' → H D = none → H' D = some (.lst ws) → ws.length = p.length → (∀ i z, ws[i]? = some z → Pn K D H' z (arow t p i)) → Q (.ref D) H'
def spRowValue (K : PySem.W.Frag) : Sp := fun vs H Q _ => ∃ (x y : V) (p : List Rat) (t : Rat) (k : Nat), vs = [x, y] ∧ Pl K H x p ∧ Rt K H y t ∧ 1 ≤ p.length ∧ p.length ≤ 9 ∧ 3 * k + 1 ≤ kB ∧ Bd k t ∧ (∀ j i, j ≤ p.length → Bd k (avgs t (cf p) j i)) ∧
  ∀ v H', Same H H' → Rt K H' v (avgs t (cf p) (p.length - 1) 0) → Q v H'
def spBelow (K : PySem.W.Frag) : Sp := fun vs H Q _ => ∃ x y a b, vs = [x, y] ∧ Rt K H x a ∧ Rt K H y b ∧ Bd kB a ∧ Bd kB b ∧ Q (.bl (decide (a < b))) H
def spChoose (K : PySem.W.Frag) : Sp := fun vs H Q _ => ∃ n k : Nat, vs = [.int n, .int k] ∧ k ≤ n ∧ n ≤ 30 ∧ Q (.int (chs n k : Nat)) H
/-- a row drawn -/
def spRow (K : PySem.W.Frag) : Sp := fun vs H Q _ => ∃ (r : Addr) (n : Int), vs = [.ref r, .int n] ∧ Row K H r ∧ 0 ≤ n ∧ n ≤ 20 ∧
  ∀ v p H', Pl K H' v p → 1 ≤ p.length → (p.length : Int) ≤ n + 1 → (∀ c ∈ p, Bd 3 c) → Row K H' r → Ro r H H' → Q v H'
def spUnit (K : PySem.W.Frag) : Sp := fun vs H Q _ => ∃ (x : V) (p : List Rat) (m M k : Nat), vs = [x] ∧ Pl K H x p ∧ 1 ≤ p.length ∧ p.length ≤ 9 ∧ (∀ i, Dn m M (cf p i)) ∧ 0 < m ∧ m < 2 ^ k ∧ 9 * (M * 17920) < 2 ^ k ∧ k + 10 ≤ kB ∧
  ∀ v H', Same H H' → Pl K H' v (up p) → Q v H'
theorem lt_top (a b : Rat) : decide (a.num * (b.den : Int) < b.num * (a.den : Int)) = decide (a < b) := by
  apply Bool.eq_iff_iff.mpr
  rw [decide_eq_true_iff, decide_eq_true_iff]
  exact (Rat.lt_iff a b).symm
theorem arow_rep (t : Rat) (p : List Rat) (j n : Nat) (h : n = p.length - j) : (List.range n).map (avgs t (cf p) j) = arow t p j := by subst h; rfl
theorem chs_bd {n k : Nat} (h : n ≤ 30) : (chs n k : Nat) < 2 ^ 31 := by
  have h1 := chs_two n k
  have h2 : 2 ^ n ≤ 2 ^ 30 := Nat.pow_le_pow_right (by decide) h
  have h3 : (2 : Nat) ^ 30 < 2 ^ 31 := by decide
  omega
end Bc
namespace Bc
open PySem PySem.Spec PyProof.Rows L2 HT RZ RT
section
/-- a tuple and a list side by side, each turn's two in a new pair -/
def ItzM (K : PySem.W.Frag) (a b : Addr) : It where
  go i H := ∃ (xs ys : List V) (x y : V), (SqT K H a xs ∧ xs[i]? = some x) ∧ SqL K H b ys ∧ ys[i]? = some y
  yld i H v H' := ∃ T x y, (v = .ref T ∧ H T = none ∧ H' = upd H T (.tup [x, y])) ∧ (∀ xs, SqT K H a xs → xs[i]? = some x) ∧ ∀ ys, SqL K H b ys → ys[i]? = some y
  stop i H := ∃ xs ys : List V, SqT K H a xs ∧ SqL K H b ys ∧ i = min xs.length ys.length
theorem five {α : Type} {c z p q i j : α} (h : c ∈ [z, p, q, i, j]) : c = z ∨ c = p ∨ c = q ∨ c = i ∨ c = j := by simpa using h
theorem turn_zipM {P : Program} {w : World} {K : PySem.W.Frag} {elts : List Expr} {kk : Nat} {tpos : Pos} {a b z TI TO i1 i2 : Addr} (S : ZipSep2 z TI TO i1 i2 [i1, a] [i2, b]) (n1 : a ≠ i1) (n2 : b ≠ i2) :
    Turn P w K (.Tuple elts kk tpos) (ItzM K a b) [z, TI, TO, i1, i2] z (fun i h => (IsZip h z TI TO .none ∧ IsTupOf2 h TI (.ref i1) (.ref i2) ∧ ∃ x y, IsTupOf2 h TO x y) ∧ h.IsTupleIter i1 a i ∧ h.IsListIter i2 b i) where
  mem := List.mem_cons_self ..
  obj := fun i h st c hc => by
    obtain ⟨⟨q1, q2, x, y, q3⟩, ⟨o1, g1, _, d1⟩, ⟨o2, g2, _, d2⟩⟩ := st
    rcases five hc with e | e | e | e | e <;> subst e
    · exact ⟨_, q1, fun v => nofun⟩
    · exact ⟨_, q2, fun v => nofun⟩
    · exact ⟨_, q3, fun v => nofun⟩
    · exact ⟨o1, g1, fun v q => nomatch d1.symm.trans q⟩
    · exact ⟨o2, g2, fun v q => nomatch d2.symm.trans q⟩
  keep := fun i h h' st k => by
    obtain ⟨⟨q1, q2, x, y, q3⟩, g1, g2⟩ := st
    exact ⟨⟨k _ (by simp) _ q1, k _ (by simp) _ q2, x, y, k _ (by simp) _ q3⟩, g1.at fun o => k _ (by simp) o, g2.at fun o => k _ (by simp) o⟩
  item := by
    intro X hP hw hK hc i pins s σ H E I hf st hg
    subst hP hw hK
    obtain ⟨⟨q1, q2, x0, y0, q3⟩, g1, g2⟩ := st
    obtain ⟨xs, ys, x, y, ⟨hqx, hx⟩, hqy, hy⟩ := hg
    obtain ⟨its, rv, p, _⟩ := I.tuple hqx
    obtain ⟨its2, rv2, p2, _⟩ := I.list hqy
    obtain ⟨u, hu, ru⟩ := rv.get hx
    obtain ⟨u2, hu2, ru2⟩ := rv2.get hy
    have k1 : its.toArray[i]? = some u := by simpa using hu
    have k2 : its2.toArray[i]? = some u2 := by simpa using hu2
    have D1 := Draws.tuple (prog := X.prog) (w := X.w) (A := X.A.in1) (I.ok.hd hc) i1 a n1 its.toArray
    have D2 := Draws.list (prog := X.prog) (w := X.w) (A := X.A.in1) (I.ok.hd hc) i2 b n2 its2.toArray
    have old : ∀ c ∈ [z, TI, TO, i1, i2], c < s.heap.objs.size := fun c hm => by
      rcases five hm with e | e | e | e | e <;> subst e
      · exact Heap.lt_size q1
      · exact Heap.lt_size q2
      · exact Heap.lt_size q3
      · obtain ⟨_, e, _⟩ := g1; exact Heap.lt_size e
      · obtain ⟨_, e, _⟩ := g2; exact Heap.lt_size e
    refine wpAny_pyNext_zipD2_item S D1 D2 q1 q2 q3 ⟨g1, p⟩ ⟨g2, p2.isList⟩ (by have := (Array.getElem?_eq_some_iff.mp k1).1; exact this) (by have := (Array.getElem?_eq_some_iff.mp k2).1; exact this) fun x1 x2 h' tk y1 y2 z' t' d1 d2 hT hsz hk => ?_
    have e1 : x1 = u := Option.some.inj (y1.symm.trans k1)
    have e2 : x2 = u2 := Option.some.inj (y2.symm.trans k2)
    subst e1 e2
    refine ⟨_, rfl, wpAny_letOwnedTupleGo_zip (s := { s with heap := h', toks := tk }) z' fun h'' z'' sb => ?_⟩
    have up : ∀ c o, c ≠ z → h'.get? c = some o → h''.get? c = some o := fun c o n e => (sb.2 c n).trans e
    have hT2 := up _ _ (Nat.ne_of_gt (old z (by simp))) hT
    have kk : ∀ c o, c ∉ [z, TI, TO, i1, i2] → s.heap.get? c = some o → h''.get? c = some o := fun c o hb e =>
      up c o (fun q => hb (by simp [q])) (hk c o (fun q => hb (by simp [q])) (fun q => hb (by simp [q])) (fun q => hb (by simp [q])) (fun q => hb (by simp [q])) e)
    have I1 : Inv X pins σ (upd H s.heap.objs.size (.tup [x, y])) { s with heap := h'', toks := tk } :=
      I.turnedNew (t' := tk) kk hf (Nat.le_refl _) ⟨by show 2 ≤ sizeLine; decide, [x1, x2], .cons ru (.cons ru2 .nil), ⟨_, hT2, rfl, _, rfl⟩⟩
    refine ⟨.ref s.heap.objs.size, _, I1, rfl, ⟨_, x, y, ⟨rfl, I.hok.fresh (Nat.le_refl _), rfl⟩, fun l hl => by rw [I.tuple_inj hl hqx]; exact hx, fun l hl => by rw [I.list_inj hl hqy]; exact hy⟩, ⟨⟨z'', ?_, x1, x2, ?_⟩, ?_, ?_⟩, fun c hm => ?_⟩
    · exact up _ _ S.TIz (hk _ _ S.TIz S.TITO S.TIi1 S.TIi2 q2)
    · exact up _ _ S.TOz t'
    · exact d1.1.at fun o => up _ o S.zi1.symm
    · exact d2.1.at fun o => up _ o S.zi2.symm
    · rw [upd_ne (Nat.ne_of_lt (old c hm))]
      exact (hf c hm).1
  done := by
    intro X hP hw hK hc i pins s σ H E I hf st hg
    subst hP hw hK
    obtain ⟨⟨q1, q2, x0, y0, q3⟩, g1, g2⟩ := st
    obtain ⟨xs, ys, hqx, hqy, hi⟩ := hg
    obtain ⟨its, rv, p, _⟩ := I.tuple hqx
    obtain ⟨its2, rv2, p2, _⟩ := I.list hqy
    have l1 := rv.length
    have l2 := rv2.length
    have D1 := Draws.tuple (prog := X.prog) (w := X.w) (A := X.A.in1) (I.ok.hd hc) i1 a n1 its.toArray
    have D2 := Draws.list (prog := X.prog) (w := X.w) (A := X.A.in1) (I.ok.hd hc) i2 b n2 its2.toArray
    refine wpAny_pyNext_zipD2_end S D1 D2 q1 q2 q3 ⟨g1, p⟩ ⟨g2, p2.isList⟩ (by rw [List.size_toArray]; omega) (by rw [List.size_toArray]; omega) (by rw [List.size_toArray, List.size_toArray]; omega) fun h' tk hk => ⟨rfl, I.turnedL (t' := tk) (fun c o hb e => ?_) hf⟩
    exact hk c o (fun q => hb (by simp [q])) (fun q => hb (by simp [q])) (fun q => hb (by simp [q])) (fun q => hb (by simp [q])) e
  self := fun A i s Q E st h => wpAny_pyIter_zip st.1.1 h
theorem an_ne {x y : Nat} (h : x ≠ y) : (show Addr from x) ≠ (show Addr from y) := h
theorem an_two {x y z : Nat} (h1 : x ≠ y) (h2 : x ≠ z) : (show Addr from x) ∉ [(show Addr from y), (show Addr from z)] := fun h => by
  rcases List.mem_cons.mp h with h | h
  · exact h1 h
  · exact h2 (List.mem_singleton.mp h)
theorem sep_new {N a b : Nat} (la : a < N) (lb : b < N) : ZipSep2 (N + 4) (N + 2) (N + 3) N (N + 1) [N, a] [N + 1, b] :=
  ⟨an_ne (by omega), an_ne (by omega), an_ne (by omega), an_ne (by omega), List.mem_cons_self .., an_two (by omega) (by omega), an_two (by omega) (by omega), an_ne (by omega), List.mem_cons_self .., an_two (by omega) (by omega), an_two (by omega) (by omega), an_two (by omega) (by omega), an_two (by omega) (by omega)⟩
def iZipM (K : PySem.W.Frag) (ta : TA) : TI := fun σ H R => ta σ H fun vs H1 => ∃ a b xs ys, vs = [.ref a, .ref b] ∧ SqT K H1 a xs ∧ SqL K H1 b ys ∧ R (ItzM K a b) H1
theorem pi_zipM {X : Cx} {e e2 : Expr} {ta : TA} {p pos tpos : Pos} {elts : List Expr} {kk : Nat} (hg : Gl X "zip") (hm : X.mg "zip" = none) (ha : PA X [e, e2] ta)
    (hs : starEach [e, e2] X.env = (false, eval e X.env) :: starEach [e2] X.env := by rfl) (hpl : (backTo pos (starEach [e2] X.env)).any (·.1) = false := by rfl) :
    PI X (.Tuple elts kk tpos) (.Call (.Name "zip" p) [e, e2] [] pos) (iZipM X.K ta) := by
  refine ⟨fun pins s σ H R I h => ?_⟩
  refine Call_ (ld_blt I hg hm PyProof.Rows.boot_zip (PyProof.Rows.callWith_type1 (thn (ha.run pos pins s σ H _ I h) fun us s1 ⟨vs, H1, I1, r1, q1⟩ => ?_) hs hpl))
  obtain ⟨a, b, xs, ys, rfl, hqx, hqy, q⟩ := q1
  obtain ⟨u, v, rfl, ru, rv'⟩ : ∃ u v, us = [u, v] ∧ RelV (.ref a) u ∧ RelV (.ref b) v := by
    cases r1 with | cons r rr => cases rr with | cons r' rr => cases rr; exact ⟨_, _, rfl, r, r'⟩
  cases ru
  cases rv'
  obtain ⟨its, rv, p1, _⟩ := I1.tuple hqx
  obtain ⟨its2, rv2, p2, _⟩ := I1.list hqy
  have la : a < s1.heap.objs.size := by obtain ⟨_, e, _⟩ := id p1; exact Heap.lt_size e
  have lb : b < s1.heap.objs.size := p2.lt
  refine zip_begins2 (begins_tuple a its.toArray) (begins_list b its2.toArray) p1 p2.isList fun h' hz hTI hTO h1 h2 hsz hk => wpAny_pyIter_zip hz ?_
  have I2 : Inv X pins σ H1 { s1 with heap := h' } := I1.kept (t' := s1.toks) hk
  refine ⟨s1.heap.objs.size + 4, [s1.heap.objs.size + 4, s1.heap.objs.size + 2, s1.heap.objs.size + 3, s1.heap.objs.size, s1.heap.objs.size + 1], _, _, H1, rfl, I2, turn_zipM (sep_new la lb) (Nat.ne_of_lt la) (an_ne (x := b) (y := s1.heap.objs.size + 1) (Nat.ne_of_lt (Nat.lt_succ_of_lt lb))), ⟨⟨hz, hTI, _, _, hTO⟩, ⟨_, h1, rfl, rfl⟩, ⟨_, h2, rfl, rfl⟩⟩, fun c hm => ?_, q⟩
  have hle : s1.heap.objs.size ≤ c := by
    rcases five hm with e | e | e | e | e
    · rw [e]; exact Nat.le_add_right _ _
    · rw [e]; exact Nat.le_add_right _ _
    · rw [e]; exact Nat.le_add_right _ _
    · rw [e]; exact Nat.le_refl _
    · rw [e]; exact Nat.le_add_right _ _
  exact I1.fpOk hle (I1.hok.fresh hle)
theorem walk_zipM {K : PySem.W.Frag} {a b : Addr} {xs ys : List V} {n : Nat} (hn : n = min xs.length ys.length) : Walk (ItzM K a b) n (fun H => SqT K H a xs ∧ SqL K H b ys) (YPair (fun i => xs[i]?) (fun i => ys[i]?)) := by
  subst hn
  refine ⟨fun i _ hi q => ?_, fun _ q => ⟨xs, ys, q.1, q.2, rfl⟩, fun i H v H' _ q y => ?_⟩
  · have h1 : i < xs.length := by omega
    have h2 : i < ys.length := by omega
    exact ⟨xs, ys, xs[i], ys[i], ⟨q.1, by simp [h1]⟩, q.2, by simp [h2]⟩
  · obtain ⟨T, x, z, ⟨h1, h2, h3⟩, h4, h5⟩ := y
    exact ⟨T, x, z, h1, h2, h3, h4 xs q.1, h5 ys q.2⟩
end
/-! comb -/
theorem comb_chs : ∀ n : Nat, n < 17 → ∀ k : Nat, k < 17 → PySem.W.mcComb (n : Int) (k : Int) = ((chs n k : Nat) : Int) := by decide +kernel
def rComb : List V → Hp → VK → Prop := fun vs H Q => ∃ n k : Nat, vs = [.int n, .int k] ∧ n < 17 ∧ k < 17 ∧ Q (.int (chs n k : Nat)) H
theorem cr_comb {X : Cx} : CallR X (.builtin "math.comb") rComb := by
  intro pins s σ H vs us Q I r h
  obtain ⟨n, k, rfl, hn, hk, q⟩ := h
  obtain ⟨t, u, rfl⟩ := Vals.int2 r
  refine PySem.W.mc_comb_v (by omega) (by omega) (by omega) (by omega) (comb_chs n hn k hk) ?_
  exact ⟨.int _, H, I.tok _, ⟨_, rfl⟩, q⟩
end Bc
namespace Bc
open PySem PySem.Spec PyProof.Rows L2 RZ RT
def rLen (K : PySem.W.Frag) : List V → Hp → VK → Prop := fun xs H Q => ∃ p ys, xs = [.ref p] ∧ (SqL K H p ys ∨ SqT K H p ys) ∧ Q (.int ys.length) H
theorem cr_len {X : Cx} : CallR X (.builtin "len") (rLen X.K) := call_len_seq
def spCheckDegree (K : PySem.W.Frag) : Sp := fun vs H Q _ => ∃ v l m : Int, vs = [.int v, .int l, .int m] ∧ l ≤ v ∧ v ≤ m ∧ Q .non H
def spCheckDegreeOf (K : PySem.W.Frag) : Sp := fun vs H Q _ => ∃ (x : V) (p : List Rat) (v m : Int), vs = [x, .int v, .int m] ∧ Pl K H x p ∧ (p.length : Int) - 1 ≤ v ∧ 0 ≤ v ∧ v ≤ m ∧ Q .non H
def spAreRatios' (K : PySem.W.Frag) : Sp := fun vs H Q _ => ∃ (x : V) (p : List Rat) (n : Int), vs = [x, .int n] ∧ Pl K H x p ∧ p.length ≤ 1000 ∧ n = p.length ∧ ∀ H', Same H H' → Q .non H'
/-- the sum of a list's ratios -/
def spTotal (K : PySem.W.Frag) : Sp := fun vs H Q _ => ∃ (a : Addr) (xs : List V) (L : List Rat), vs = [.ref a] ∧ SqL K H a xs ∧ Rts K H xs L ∧ (∀ c ∈ L, Bd kB c) ∧ (∀ i, i ≤ L.length → Bd kB (sums (cf L) i)) ∧
  ∀ v H', Same H H' → Rt K H' v (sums (cf L) L.length) → Q v H'
/-- the sums of products of places -/
def spProducts (K : PySem.W.Frag) : Sp := fun vs H Q _ => ∃ (x : V) (q : List Rat) (k : Nat), vs = [x] ∧ Pl K H x q ∧ q.length ≤ 16 ∧ (∀ c ∈ q, Bd k c) ∧ (∀ j i, j ≤ q.length → Bd k (cf (pe (cf q) j) i)) ∧ 2 * k ≤ kB ∧
  ∀ D ws H', Same H H' → H' D = some (.lst ws) → Rts K H' ws (pe (cf q) q.length) → Q (.ref D) H'
def spBlossomAt (K : PySem.W.Frag) : Sp := fun vs H Q _ => ∃ (x y : V) (p q : List Rat) (k1 k : Nat), vs = [x, y] ∧ Pl K H x p ∧ Pl K H y q ∧ p.length ≤ q.length + 1 ∧ q.length ≤ 16 ∧ (∀ c ∈ p, Bd k1 c) ∧ (∀ c ∈ q, Bd k c) ∧ (∀ j i, j ≤ q.length → Bd k (cf (pe (cf q) j) i)) ∧
  2 * k + 18 ≤ kB ∧ 1 + p.length * (k1 + (k + 17) + 1) ≤ kB ∧ k1 ≤ kB ∧ k1 + k + 17 ≤ kB ∧ ∀ v H', Same H H' → Rt K H' v (bls p (cf q) q.length) → Q v H'
def spBlossom (K : PySem.W.Frag) : Sp := fun vs H Q _ => ∃ (x y : V) (p q : List Rat) (d : Int) (k1 k : Nat), vs = [x, .int d, y] ∧ Pl K H x p ∧ Pl K H y q ∧ d = q.length ∧ Can p ∧ p.length ≤ q.length + 1 ∧ q.length ≤ 8 ∧ (∀ c ∈ p, Bd k1 c) ∧ (∀ c ∈ q, Bd k c) ∧ (∀ j i, j ≤ q.length → Bd k (cf (pe (cf q) j) i)) ∧
  2 * k + 18 ≤ kB ∧ 1 + p.length * (k1 + (k + 17) + 1) ≤ kB ∧ k1 ≤ kB ∧ k1 + k + 17 ≤ kB ∧ ∀ v H', Same H H' → Rt K H' v (bls p (cf q) q.length) → Q v H'
def spMiddle (K : PySem.W.Frag) : Sp := fun vs H Q _ => ∃ x y z a b t k k2, vs = [x, y, z] ∧ Rt K H x a ∧ Rt K H y b ∧ Rt K H z t ∧ Bd k a ∧ Bd k b ∧ Bd k2 t ∧ 2 * k + 1 + k2 ≤ kB ∧
  ∀ v H', Same H H' → Rt K H' v (a + t * (b - a)) → Q v H'
end Bc
namespace Bc
open PySem PySem.Spec PyProof.Rows L2 RZ RT
theorem dv_nq {t l : Nat} (h : 0 < l) : Rat.divInt (t : Int) (l : Int) = nq t / nq l := by
  rw [divInt_eq (by omega), Rat.div_def, Rat.div_def]; rfl
def spRowRaised (K : PySem.W.Frag) : Sp := fun vs H Q _ => ∃ (x : V) (p : List Rat) (k : Nat), vs = [x] ∧ Pl K H x p ∧ 1 ≤ p.length ∧ p.length ≤ 8 ∧ (∀ c ∈ p, Bd k c) ∧ 4 ≤ k ∧ 3 * k + 1 ≤ kB ∧
  ∀ v H', Same H H' → Pl K H' v (rse p) → Q v H'
def spLowered (K : PySem.W.Frag) : Sp := fun vs H Q _ => ∃ (x : V) (p : List Rat) (k : Nat), vs = [x] ∧ Pl K H x p ∧ 1 ≤ p.length ∧ p.length ≤ 9 ∧ (∀ c ∈ p, Bd k c) ∧ (∀ j, j < p.length - 1 → Bd k (lof p (p.length - 1) j)) ∧ 2 * k + 10 ≤ kB ∧
  (∀ H', Same H H' → (p.length = 1 ∨ lof p (p.length - 1) (p.length - 1 - 1) ≠ cf p (p.length - 1)) → Q .non H') ∧
  ∀ v H', Same H H' → 1 < p.length → lof p (p.length - 1) (p.length - 1 - 1) = cf p (p.length - 1) → Pl K H' v (low p (p.length - 1)) → Q v H'
theorem last_split {xs : List V} {n : Nat} (h : xs.length = n + 1) : ∃ ys v, xs = ys ++ [v] ∧ ys.length = n := by
  refine ⟨xs.dropLast, xs.getLast (by intro z; rw [z] at h; simp at h), (List.dropLast_concat_getLast _).symm, ?_⟩
  rw [List.length_dropLast]; omega
theorem last_get {K : PySem.W.Frag} {H : Hp} {ys : List V} {v : V} {p : List Rat} {n : Nat} (h : Rts K H (ys ++ [v]) p) (hl : ys.length = n) : Rt K H v (cf p n) := by
  have hp : n < p.length := by rw [← h.length, List.length_append]; show n < ys.length + 1; omega
  obtain ⟨u, hu, hu'⟩ := pr_get h (show p[n]? = some (cf p n) by rw [List.getElem?_eq_getElem hp, cf_lt hp])
  rw [List.getElem?_append_right (by omega), hl, Nat.sub_self] at hu
  cases hu
  exact hu'
end Bc
namespace Bc
open PySem PySem.Spec PyProof.Rows L2 RZ RT
/-- an integer within: yes -/
def spInteger (K : PySem.W.Frag) : Sp := fun vs H Q _ => ∃ v l m : Int, vs = [.int v, .int l, .int m] ∧ l ≤ v ∧ v ≤ m ∧ Q (.bl true) H
def slr (p : List Rat) : List Rat := if p.length = 1 then [0] else slp p
def spSlopes (K : PySem.W.Frag) : Sp := fun vs H Q _ => ∃ (x : V) (p : List Rat) (k : Nat), vs = [x] ∧ Pl K H x p ∧ 1 ≤ p.length ∧ p.length ≤ 9 ∧ (∀ c ∈ p, Bd k c) ∧ 2 * k + 6 ≤ kB ∧
  ∀ v H', Same H H' → Pl K H' v (slr p) → Q v H'
/-- the numbers of the product's row -/
def rpr (p q : List Rat) : List Rat := (List.range (p.length - 1 + (q.length - 1) + 1)).map fun k => cf (pmul (bin p) (bin q)) k / nq (chs (p.length - 1 + (q.length - 1)) k)
def spRowProduct (K : PySem.W.Frag) : Sp := fun vs H Q _ => ∃ (x y : V) (p q : List Rat) (k : Nat), vs = [x, y] ∧ Pl K H x p ∧ Pl K H y q ∧ 1 ≤ p.length ∧ 1 ≤ q.length ∧ p.length + q.length ≤ 10 ∧ (∀ c ∈ p, Bd k c) ∧ (∀ c ∈ q, Bd k c) ∧ 1 + 10 * (2 * k + 19) ≤ kB ∧
  ∀ v H', Same H H' → Pl K H' v (rpr p q) → Q v H'
def spRowMean (K : PySem.W.Frag) : Sp := fun vs H Q _ => ∃ (x : V) (p : List Rat) (k : Nat), vs = [x] ∧ Pl K H x p ∧ 1 ≤ p.length ∧ p.length ≤ 9 ∧ (∀ c ∈ p, Bd k c) ∧ 1 + 9 * (k + 1) ≤ kB ∧
  ∀ v H', Same H H' → Rt K H' v (sums (cf p) p.length / nq p.length) → Q v H'
/-- the sum of a tuple's ratios -/
def spTotalT (K : PySem.W.Frag) : Sp := fun vs H Q _ => ∃ (a : Addr) (xs : List V) (L : List Rat), vs = [.ref a] ∧ SqT K H a xs ∧ Rts K H xs L ∧ (∀ c ∈ L, Bd kB c) ∧ (∀ i, i ≤ L.length → Bd kB (sums (cf L) i)) ∧
  ∀ v H', Same H H' → Rt K H' v (sums (cf L) L.length) → Q v H'
theorem bin_bd {p : List Rat} {k : Nat} (h : ∀ c ∈ p, Bd k c) (hl : p.length ≤ 9) : ∀ c ∈ bin p, Bd (k + 9) c := bd_mem fun n => by
  by_cases z : n < p.length
  · rw [cf_bin z, cf_lt z]
    have h1 := chs_two (p.length - 1) n
    have h2 : 2 ^ (p.length - 1) ≤ 2 ^ 8 := Nat.pow_le_pow_right (by decide) (by omega)
    have h3 : (2 : Nat) ^ 8 < 2 ^ 9 := by decide
    exact ((nq_bd (k := 9) (show chs (p.length - 1) n < 2 ^ 9 by omega) (by decide)).mul (h _ (List.getElem_mem z))).le (by omega)
  · rw [cf_ge (by rw [bin_len]; omega)]; exact Bd.zero.le (by omega)
end Bc
namespace Bc
def ls (L : List Rat) : Rat := sums (cf L) L.length
theorem cf_app_l {L : List Rat} {c : Rat} {n : Nat} (h : n < L.length) : cf (L ++ [c]) n = cf L n := by
  rw [cf_snoc', if_neg (by omega)]
theorem cf_app_e (L : List Rat) (c : Rat) : cf (L ++ [c]) L.length = c := by
  rw [cf_snoc', if_pos rfl]
theorem rone_pow : ∀ k : Nat, (1 : Rat) ^ k = 1
  | 0 => Rat.pow_zero 1
  | k + 1 => by rw [Rat.pow_succ, rone_pow k]; grind
theorem rpow_add (x : Rat) (m : Nat) : ∀ n : Nat, x ^ (m + n) = x ^ m * x ^ n
  | 0 => by rw [Rat.pow_zero, Nat.add_zero]; grind
  | n + 1 => by rw [← Nat.add_assoc, Rat.pow_succ, Rat.pow_succ, rpow_add x m n]; grind
theorem ls_snoc (L : List Rat) (c : Rat) : ls (L ++ [c]) = ls L + c := by
  unfold ls
  rw [List.length_append, List.length_singleton]
  show sums _ L.length + cf (L ++ [c]) L.length = _
  rw [cf_app_e, sums_congr fun i hi => cf_app_l hi]
theorem ls_nil : ls [] = 0 := rfl
/-- the places of a first row, up to j, whose partners stand in a row of N numbers -/
def lots (N a j : Nat) : List Nat := (List.range j).filter fun i => decide (i ≤ a ∧ a < i + N)
theorem lots_next (N a j : Nat) : lots N a (j + 1) = lots N a j ++ (if i : j ≤ a ∧ a < j + N then [j] else []) := by
  unfold lots
  rw [List.range_succ, List.filter_append]
  congr 1
  by_cases z : j ≤ a ∧ a < j + N
  · rw [dif_pos z, List.filter_cons, if_pos (decide_eq_true z)]; rfl
  · rw [dif_neg z, List.filter_cons, if_neg (by rw [decide_eq_true_iff]; exact z)]; rfl
theorem lots_mem {N a j i : Nat} (h : i ∈ lots N a j) : i < j ∧ i ≤ a ∧ a < i + N := by
  unfold lots at h
  rw [List.mem_filter, List.mem_range, decide_eq_true_iff] at h
  exact h
theorem lots_len (N a : Nat) : ∀ j, (lots N a j).length ≤ j
  | 0 => Nat.le_refl _
  | j + 1 => by
    have := lots_len N a j
    rw [lots_next, List.length_append]
    by_cases z : j ≤ a ∧ a < j + N
    · rw [dif_pos z]; simp; omega
    · rw [dif_neg z]; simp; omega
theorem take_next {P : List Rat} {j : Nat} (h : j < P.length) : P.take (j + 1) = P.take j ++ [P[j]] := by
  rw [List.take_succ, List.getElem?_eq_getElem h]; rfl
theorem conv (P Q : List Rat) (a : Nat) : ∀ j, j ≤ P.length → ls ((lots Q.length a j).map fun i => cf P i * cf Q (a - i)) = cf (pmul (P.take j) Q) a
  | 0, _ => rfl
  | j + 1, h => by
    have ih := conv P Q a j (by omega)
    have e : cf (pmul (P.take (j + 1)) Q) a = cf (pmul (P.take j) Q) a + if j ≤ a then cf P j * cf Q (a - j) else 0 := by
      rw [take_next (by omega), cf_pmul_snoc, List.length_take, Nat.min_eq_left (by omega), ← cf_lt (show j < P.length by omega)]
    rw [lots_next, List.map_append]
    by_cases z : j ≤ a ∧ a < j + Q.length
    · rw [dif_pos z, List.map_singleton, ls_snoc, ih, e, if_pos z.1]
    · rw [dif_neg z, List.map_nil, List.append_nil, ih, e]
      by_cases z1 : j ≤ a
      · rw [if_pos z1, cf_ge (show Q.length ≤ a - j by omega)]; grind
      · rw [if_neg z1]; grind
def nsum : List Nat → Nat
  | [] => 0
  | a :: l => a + nsum l
theorem nsum_app : ∀ (l m : List Nat), nsum (l ++ m) = nsum l + nsum m
  | [], m => by show nsum m = 0 + nsum m; omega
  | a :: l, m => by show a + nsum (l ++ m) = a + nsum l + nsum m; rw [nsum_app l m]; omega
theorem nq_add' (a b : Nat) : nq (a + b) = nq a + nq b := by
  show (((a + b : Nat) : Int) : Rat) = ((a : Int) : Rat) + ((b : Int) : Rat)
  rw [Int.natCast_add, Rat.intCast_add]
theorem nq_inj {a b : Nat} (h : nq a = nq b) : a = b := by
  have h : ((a : Int) : Rat) = ((b : Int) : Rat) := h
  have := Rat.intCast_inj.mp h
  omega
theorem nsum_nq (f : Nat → Nat) (g : Nat → Rat) (l : List Nat) (h : ∀ i ∈ l, nq (f i) = g i) : nq (nsum (l.map f)) = ls (l.map g) := by
  suffices H : ∀ (r : List Nat), (∀ i ∈ r, nq (f i) = g i) → nq (nsum (r.reverse.map f)) = ls (r.reverse.map g) by
    have := H l.reverse fun i hi => h i (List.mem_reverse.mp hi)
    rwa [List.reverse_reverse] at this
  intro r
  induction r with
  | nil => intro _; rfl
  | cons a r ih =>
    intro h
    rw [List.reverse_cons, List.map_append, List.map_append, List.map_singleton, List.map_singleton, ls_snoc, nsum_app, nq_add', ih fun i hi => h i (List.mem_cons_of_mem _ hi)]
    show _ + nq (f a + 0) = _
    rw [Nat.add_zero, h a (List.mem_cons_self ..)]
theorem pe_ones (m k : Nat) : cf (pe (fun _ => 1) m) k = nq (chs m k) := by
  rw [pe_diag (fun _ => 1) 1 m (fun _ _ => rfl) m (Nat.le_refl _), rone_pow]; grind
theorem prg_const (c : Rat) : ∀ n, prg (fun _ => c) n = c ^ n
  | 0 => by rw [Rat.pow_zero]; rfl
  | n + 1 => by show prg _ n * c = _; rw [prg_const c n, Rat.pow_succ]
theorem vander (m n a : Nat) : cf (pmul (pe (fun _ => 1) m) (pe (fun _ => 1) n)) a = nq (chs (m + n) a) := by
  rw [← pe_ones]
  refine pev_inj (fun z => ?_) a
  rw [pev_pmul, pev_pe, pev_pe, pev_pe, prg_const, prg_const, prg_const, rpow_add]
theorem weights_sum (m n a : Nat) : nsum ((lots (n + 1) a (m + 1)).map fun i => chs m i * chs n (a - i)) = chs (m + n) a := by
  apply nq_inj
  rw [nsum_nq _ (fun i => cf (pe (fun _ => 1) m) i * cf (pe (fun _ => 1) n) (a - i)) _ fun i _ => by rw [pe_ones, pe_ones, nq_mul]]
  have h := conv (pe (fun _ => 1) m) (pe (fun _ => 1) n) a (m + 1) (by rw [pe_len]; omega)
  rw [pe_len] at h
  rw [h, List.take_of_length_le (by rw [pe_len]; omega), vander]
theorem whole_sum {p q : List Rat} {m n a : Nat} (hp : p.length = m + 1) (hq : q.length = n + 1) : ls ((lots (n + 1) a (m + 1)).map fun i => cf p i * cf q (a - i) * nq (chs m i * chs n (a - i))) = cf (pmul (bin p) (bin q)) a := by
  have h := conv (bin p) (bin q) a (m + 1) (by rw [bin_len]; omega)
  rw [bin_len, hq, List.take_of_length_le (by rw [bin_len]; omega)] at h
  rw [← h]
  congr 1
  apply List.map_congr_left
  intro i hi
  obtain ⟨h1, h2, h3⟩ := lots_mem hi
  rw [cf_bin (by omega), cf_bin (by omega), nq_mul, hp, hq]
  show _ = nq (chs m i) * cf p i * (nq (chs n (a - i)) * cf q (a - i))
  grind
end Bc
namespace Bc
/-! ## changes of signs -/
def sgs (l : List Rat) : List Bool := (l.filter fun x => decide (x ≠ 0)).map fun x => decide (0 < x)
def adj : List Bool → Nat
  | a :: b :: l => (if a = b then 0 else 1) + adj (b :: l)
  | _ => 0
theorem sgs_app (l m : List Rat) : sgs (l ++ m) = sgs l ++ sgs m := by unfold sgs; rw [List.filter_append, List.map_append]
theorem sgs_one {x : Rat} (h : x ≠ 0) : sgs [x] = [decide (0 < x)] := by
  unfold sgs
  rw [List.filter_cons, if_pos (decide_eq_true h)]; rfl
theorem sgs_zero {x : Rat} (h : x = 0) : sgs [x] = [] := by
  unfold sgs
  rw [List.filter_cons, if_neg (by rw [decide_eq_true_iff]; exact fun z => z h)]; rfl
theorem adj_ins (c : Bool) : ∀ pre post, adj (pre ++ post) ≤ adj (pre ++ c :: post)
  | [], [] => Nat.zero_le _
  | [], b :: l => by show adj (b :: l) ≤ _ + adj (b :: l); omega
  | [a], [] => Nat.zero_le _
  | [a], b :: l => by
    show (if a = b then 0 else 1) + adj (b :: l) ≤ (if a = c then 0 else 1) + ((if c = b then 0 else 1) + adj (b :: l))
    cases a <;> cases b <;> cases c <;> simp <;> omega
  | a :: b :: pre, post => by
    have := adj_ins c (b :: pre) post
    show (if a = b then 0 else 1) + adj (b :: pre ++ post) ≤ (if a = b then 0 else 1) + adj (b :: pre ++ c :: post)
    omega
theorem adj_dup (c : Bool) : ∀ pre post, adj (pre ++ c :: c :: post) = adj (pre ++ c :: post)
  | [], post => by show (if c = c then 0 else 1) + adj (c :: post) = _; rw [if_pos rfl, Nat.zero_add]; rfl
  | [a], post => by
    show (if a = c then 0 else 1) + ((if c = c then 0 else 1) + adj (c :: post)) = (if a = c then 0 else 1) + adj (c :: post)
    rw [if_pos (rfl : c = c), Nat.zero_add]
  | a :: b :: pre, post => by
    have := adj_dup c (b :: pre) post
    show (if a = b then 0 else 1) + adj (b :: pre ++ c :: c :: post) = (if a = b then 0 else 1) + adj (b :: pre ++ c :: post)
    rw [this]
theorem adj_split (c : Bool) (post : List Bool) : ∀ pre, adj (pre ++ c :: post) = adj (pre ++ [c]) + adj (c :: post)
  | [] => by show adj (c :: post) = 0 + adj (c :: post); omega
  | [a] => by show (if a = c then 0 else 1) + adj (c :: post) = (if a = c then 0 else 1) + 0 + adj (c :: post); omega
  | a :: b :: pre => by
    have := adj_split c post (b :: pre)
    show (if a = b then 0 else 1) + adj (b :: pre ++ c :: post) = (if a = b then 0 else 1) + adj (b :: pre ++ [c]) + adj (c :: post)
    omega
theorem adj_two : ∀ (l m : List Bool), adj l + adj m ≤ adj (l ++ m)
  | [], m => by show 0 + adj m ≤ adj m; omega
  | [a], [] => Nat.zero_le _
  | [a], b :: m => by show 0 + adj (b :: m) ≤ _ + adj (b :: m); omega
  | a :: b :: l, m => by
    have := adj_two (b :: l) m
    show (if a = b then 0 else 1) + adj (b :: l) + adj m ≤ (if a = b then 0 else 1) + adj (b :: l ++ m)
    omega
/-- no more changes, whatever stands ahead and behind -/
def Few (L M : List Rat) : Prop := ∀ pre post : List Bool, adj (pre ++ sgs L ++ post) ≤ adj (pre ++ sgs M ++ post)
theorem Few.refl (L : List Rat) : Few L L := fun _ _ => Nat.le_refl _
theorem Few.trans {L M N : List Rat} (a : Few L M) (b : Few M N) : Few L N := fun p q => Nat.le_trans (a p q) (b p q)
theorem Few.ctx {L M : List Rat} (h : Few L M) (A B : List Rat) : Few (A ++ L ++ B) (A ++ M ++ B) := fun p q => by
  have := h (p ++ sgs A) (sgs B ++ q)
  rw [sgs_app, sgs_app, sgs_app, sgs_app]
  simpa [List.append_assoc] using this
theorem few_del (c : Rat) : Few [] [c] := fun p q => by
  by_cases z : c = 0
  · rw [sgs_zero z]; exact Nat.le_refl _
  · rw [sgs_one z]
    have := adj_ins (decide (0 < c)) p q
    simpa [sgs] using this
theorem few_mid {a b t : Rat} (h0 : 0 < t) (h1 : t < 1) : Few [a, a + t * (b - a), b] [a, b] := fun p q => by
  have e1 : sgs [a, a + t * (b - a), b] = sgs [a] ++ sgs [a + t * (b - a)] ++ sgs [b] := by rw [← sgs_app, ← sgs_app]; rfl
  have e2 : sgs [a, b] = sgs [a] ++ sgs [b] := by rw [← sgs_app]; rfl
  rw [e1, e2]
  by_cases z : a + t * (b - a) = 0
  · rw [sgs_zero z, List.append_nil]; exact Nat.le_refl _
  · rw [sgs_one z]
    have key : (a ≠ 0 ∧ decide (0 < a + t * (b - a)) = decide (0 < a)) ∨ (b ≠ 0 ∧ decide (0 < a + t * (b - a)) = decide (0 < b)) := by
      have u0 : 0 < 1 - t := by grind
      have em : a + t * (b - a) = (1 - t) * a + t * b := by grind
      rw [em] at z ⊢
      rcases Rat.le_total (a := a) (b := 0) with ha | ha <;> rcases Rat.le_total (a := b) (b := 0) with hb | hb
      · have p1 : (1 - t) * a ≤ 0 := by have := Rat.mul_nonneg (Rat.le_of_lt u0) (show 0 ≤ -a by grind); grind
        have p2 : t * b ≤ 0 := by have := Rat.mul_nonneg (Rat.le_of_lt h0) (show 0 ≤ -b by grind); grind
        by_cases za : a = 0
        · right
          refine ⟨fun zb => z (by rw [za, zb]; grind), ?_⟩
          rw [decide_eq_false (by grind), decide_eq_false (by grind)]
        · left
          refine ⟨za, ?_⟩
          rw [decide_eq_false (by grind), decide_eq_false (by grind)]
      · by_cases s : 0 < (1 - t) * a + t * b
        · right
          have hb' : b ≠ 0 := fun zb => by
            have p1 : (1 - t) * a ≤ 0 := by have := Rat.mul_nonneg (Rat.le_of_lt u0) (show 0 ≤ -a by grind); grind
            rw [zb] at s; grind
          exact ⟨hb', by rw [decide_eq_true s, decide_eq_true (by grind)]⟩
        · left
          have ha' : a ≠ 0 := fun za => by
            have p2 := Rat.mul_nonneg (Rat.le_of_lt h0) hb
            rw [za] at s z; grind
          exact ⟨ha', by rw [decide_eq_false s, decide_eq_false (by grind)]⟩
      · by_cases s : 0 < (1 - t) * a + t * b
        · left
          have ha' : a ≠ 0 := fun za => by
            have p2 : t * b ≤ 0 := by have := Rat.mul_nonneg (Rat.le_of_lt h0) (show 0 ≤ -b by grind); grind
            rw [za] at s; grind
          exact ⟨ha', by rw [decide_eq_true s, decide_eq_true (by grind)]⟩
        · right
          have hb' : b ≠ 0 := fun zb => by
            have p1 := Rat.mul_nonneg (Rat.le_of_lt u0) ha
            rw [zb] at s z; grind
          exact ⟨hb', by rw [decide_eq_false s, decide_eq_false (by grind)]⟩
      · have p1 := Rat.mul_nonneg (Rat.le_of_lt u0) ha
        have p2 := Rat.mul_nonneg (Rat.le_of_lt h0) hb
        have s : 0 < (1 - t) * a + t * b := by grind
        by_cases za : a = 0
        · right
          refine ⟨fun zb => z (by rw [za, zb]; grind), ?_⟩
          have hb' : b ≠ 0 := fun zb => z (by rw [za, zb]; grind)
          rw [decide_eq_true s, decide_eq_true (by grind)]
        · left
          refine ⟨za, ?_⟩
          rw [decide_eq_true s, decide_eq_true (by grind)]
    rcases key with ⟨n, e⟩ | ⟨n, e⟩
    · rw [sgs_one n, e]
      have := adj_dup (decide (0 < a)) p (sgs [b] ++ q)
      refine Nat.le_of_eq ?_
      simpa [List.append_assoc] using this
    · rw [sgs_one n, e]
      have := adj_dup (decide (0 < b)) (p ++ sgs [a]) q
      refine Nat.le_of_eq ?_
      simpa [List.append_assoc] using this
def vch (l : List Rat) : Nat := adj (sgs l)
theorem Few.le {L M : List Rat} (h : Few L M) : vch L ≤ vch M := by
  have := h [] []
  simpa [vch] using this
theorem vch_join (A : List Rat) (c : Rat) (B : List Rat) : vch (A ++ [c]) + vch (c :: B) ≤ vch (A ++ [c] ++ B) := by
  unfold vch
  have e : sgs (c :: B) = sgs [c] ++ sgs B := by rw [← sgs_app]; rfl
  rw [e, sgs_app, sgs_app, sgs_app]
  by_cases z : c = 0
  · rw [sgs_zero z, List.append_nil, List.nil_append]
    exact adj_two _ _
  · rw [sgs_one z]
    have := adj_split (decide (0 < c)) (sgs B) (sgs A)
    simp only [List.append_assoc, List.singleton_append]
    omega
end Bc
namespace Bc
/-! ## both parts of a row -/
theorem avgs_lin (s t : Rat) (g h : Nat → Rat) : ∀ n i, avgs s (fun i => g i + t * (h i - g i)) n i = avgs s g n i + t * (avgs s h n i - avgs s g n i)
  | 0, _ => rfl
  | n + 1, i => by
    rw [avgs, avgs_lin s t g h n i, avgs_lin s t g h n (i + 1), avgs, avgs]; grind
theorem avgs_next (s : Rat) (g : Nat → Rat) : ∀ n i, avgs s (fun i => g (i + 1)) n i = avgs s g n (i + 1)
  | 0, _ => rfl
  | n + 1, i => by rw [avgs, avgs_next s g n i, avgs_next s g n (i + 1)]; rfl
theorem avgs_step (s t : Rat) (g : Nat → Rat) (n i : Nat) : avgs s (fun i => g i + t * (g (i + 1) - g i)) n i = avgs s g n i + t * (avgs s g n (i + 1) - avgs s g n i) := by
  rw [avgs_lin s t g (fun i => g (i + 1)), avgs_next]
theorem avgs_left (t x : Rat) (f : Nat → Rat) : ∀ n m i, avgs x (fun j => avgs t f j i) n m = avgs (x * t) (avgs t f m) n i
  | 0, _, _ => rfl
  | n + 1, m, i => by
    have e : avgs (x * t) (avgs t f (m + 1)) n i = avgs (x * t) (avgs t f m) n i + t * (avgs (x * t) (avgs t f m) n (i + 1) - avgs (x * t) (avgs t f m) n i) := avgs_step (x * t) t (avgs t f m) n i
    rw [avgs, avgs_left t x f n m i, avgs_left t x f n (m + 1) i, e, avgs]; grind
theorem avgs_right (t x : Rat) (f : Nat → Rat) (N : Nat) : ∀ n m, n + m ≤ N → avgs x (fun i => avgs t f (N - i) i) n m = avgs (t + (1 - t) * x) (avgs t f (N - n - m)) n m
  | 0, m, _ => by show avgs t f (N - m) m = avgs t f (N - 0 - m) m; rw [Nat.sub_zero]
  | n + 1, m, h => by
    have e1 : N - n - m = N - (n + 1) - m + 1 := by omega
    have e2 : N - n - (m + 1) = N - (n + 1) - m := by omega
    rw [avgs, avgs_right t x f N n m (by omega), avgs_right t x f N n (m + 1) (by omega), e1, e2]
    generalize N - (n + 1) - m = k
    have e : avgs (t + (1 - t) * x) (avgs t f (k + 1)) n m = avgs (t + (1 - t) * x) (avgs t f k) n m + t * (avgs (t + (1 - t) * x) (avgs t f k) n (m + 1) - avgs (t + (1 - t) * x) (avgs t f k) n m) := avgs_step _ t (avgs t f k) n m
    rw [e, avgs]; grind
/-- the numbers of both parts -/
def lefts (t : Rat) (p : List Rat) : List Rat := (List.range p.length).map fun j => avgs t (cf p) j 0
def rights (t : Rat) (p : List Rat) : List Rat := (List.range p.length).map fun i => avgs t (cf p) (p.length - 1 - i) i
theorem lefts_len (t : Rat) (p : List Rat) : (lefts t p).length = p.length := by unfold lefts; rw [List.length_map, List.length_range]
theorem rights_len (t : Rat) (p : List Rat) : (rights t p).length = p.length := by unfold rights; rw [List.length_map, List.length_range]
theorem cf_lefts {t : Rat} {p : List Rat} {i : Nat} (h : i < p.length) : cf (lefts t p) i = avgs t (cf p) i 0 := cf_map_range _ _ _ h
theorem cf_rights {t : Rat} {p : List Rat} {i : Nat} (h : i < p.length) : cf (rights t p) i = avgs t (cf p) (p.length - 1 - i) i := cf_map_range _ _ _ h
/-- a polynomial of a + b * x -/
def lin (p : List Rat) (a b : Rat) : List Rat := trim (comp p (trim [a, b]))
theorem pev_lin (p : List Rat) (a b x : Rat) : pev (lin p a b) x = pev p (a + b * x) := by
  unfold lin
  rw [pev_trim, pev_comp, pev_trim, pev_two]
theorem can_up (p : List Rat) : Can (up p) := can_fu _ _ _
theorem up_lefts {t : Rat} {p : List Rat} (h : 1 ≤ p.length) : up (lefts t p) = lin (up p) 0 t := by
  refine pev_can (can_up _) (can_trim _) fun x => ?_
  rw [pev_lin, up_pev _ (by rw [lefts_len]; exact h), up_pev _ h, lefts_len]
  rw [avgs_congr (N := p.length - 1) (g := fun j => avgs t (cf p) j 0) (fun i hi => cf_lefts (by omega)) _ _ (by omega), avgs_left]
  have e : x * t = 0 + t * x := by grind
  rw [e]; rfl
theorem up_rights {t : Rat} {p : List Rat} (h : 1 ≤ p.length) : up (rights t p) = lin (up p) t (1 - t) := by
  refine pev_can (can_up _) (can_trim _) fun x => ?_
  rw [pev_lin, up_pev _ (by rw [rights_len]; exact h), up_pev _ h, rights_len]
  rw [avgs_congr (N := p.length - 1) (g := fun i => avgs t (cf p) (p.length - 1 - i) i) (fun i hi => cf_rights (by omega)) _ _ (by omega), avgs_right t x (cf p) (p.length - 1) _ 0 (by omega)]
  rw [Nat.sub_self]; rfl
/-! ## a row is told by its polynomial -/
theorem hev_z {P : List Rat} {m : Nat} (hl : P.length ≤ m + 1) {z : Rat} (hz : 1 + z ≠ 0) : hev P m (z / (1 + z)) (1 - z / (1 + z)) * (1 + z) ^ m = pev P z := by
  unfold hev
  have e : ∀ n, n ≤ m + 1 → sums (fun i => cf P i * (z / (1 + z)) ^ i * (1 - z / (1 + z)) ^ (m - i)) n * (1 + z) ^ m = sums (fun k => cf P k * z ^ k) n := by
    intro n
    induction n with
    | zero => intro _; show (0 : Rat) * _ = 0; grind
    | succ n ih =>
      intro hn
      show (_ + _) * _ = _ + _
      have ih := ih (by omega)
      have e1 : (1 : Rat) - z / (1 + z) = 1 / (1 + z) := by grind
      have e2 : ∀ k : Nat, (z / (1 + z)) ^ k * (1 + z) ^ k = z ^ k := by
        intro k
        induction k with
        | zero => rw [Rat.pow_zero, Rat.pow_zero, Rat.pow_zero]; grind
        | succ k ih => rw [Rat.pow_succ, Rat.pow_succ, Rat.pow_succ, ← ih]; grind
      have e3 : ∀ k : Nat, (1 / (1 + z)) ^ k * (1 + z) ^ k = 1 := by
        intro k
        induction k with
        | zero => rw [Rat.pow_zero, Rat.pow_zero]; grind
        | succ k ih =>
          rw [Rat.pow_succ, Rat.pow_succ]
          have : (1 / (1 + z)) ^ k * (1 / (1 + z)) * ((1 + z) ^ k * (1 + z)) = ((1 / (1 + z)) ^ k * (1 + z) ^ k) * ((1 / (1 + z)) * (1 + z)) := by grind
          rw [this, ih]; grind
      have e4 : (1 + z) ^ m = (1 + z) ^ n * (1 + z) ^ (m - n) := by rw [← rpow_add, show n + (m - n) = m by omega]
      have h2 := e2 n
      have h3 := e3 (m - n)
      rw [Rat.add_mul, ih, e1]
      congr 1
      have : cf P n * (z / (1 + z)) ^ n * (1 / (1 + z)) ^ (m - n) * (1 + z) ^ m = cf P n * ((z / (1 + z)) ^ n * (1 + z) ^ n) * ((1 / (1 + z)) ^ (m - n) * (1 + z) ^ (m - n)) := by rw [e4]; grind
      rw [this, h2, h3]; grind
  rw [e (m + 1) (Nat.le_refl _), pev_sums]
  -- the sums of more places
  have f : ∀ k, sums (fun k => cf P k * z ^ k) (P.length + k) = sums (fun k => cf P k * z ^ k) P.length := by
    intro k
    induction k with
    | zero => rfl
    | succ k ih =>
      show sums (fun k => cf P k * z ^ k) (P.length + k) + cf P (P.length + k) * z ^ (P.length + k) = _
      rw [ih, cf_ge (by omega)]; grind
  have := f (m + 1 - P.length)
  rw [show P.length + (m + 1 - P.length) = m + 1 by omega] at this
  exact this
theorem cf_by_sum {P Q : List Rat} (h : ∀ n, cf (pmul [1, 1] P) n = cf (pmul [1, 1] Q) n) : ∀ n, cf P n = cf Q n
  | 0 => by
    have := h 0
    rw [pmul_comm_cf, pmul_comm_cf [1, 1] Q, cf_pmul_two, cf_pmul_two] at this
    grind
  | n + 1 => by
    have h1 := h (n + 1)
    have ih := cf_by_sum h n
    rw [pmul_comm_cf, pmul_comm_cf [1, 1] Q, cf_pmul_two, cf_pmul_two] at h1
    simp only at h1
    grind
theorem up_inj {p q : List Rat} (h0 : 1 ≤ p.length) (hl : p.length = q.length) (h : up p = up q) : p = q := by
  obtain ⟨d, hd⟩ : ∃ d, p.length = d + 1 := ⟨p.length - 1, by omega⟩
  have hb : ∀ n, cf (bin p) n = cf (bin q) n := cf_by_sum fun n => pev_inj (fun z => by
    rw [pev_pmul, pev_pmul, pev_two]
    by_cases hz : 1 + z = 0
    · have : (1 : Rat) + 1 * z = 0 := by grind
      rw [this]; grind
    · have e1 := hev_z (P := bin p) (m := d) (by rw [bin_len]; omega) hz
      have e2 := hev_z (P := bin q) (m := d) (by rw [bin_len]; omega) hz
      rw [← pev_hev hd] at e1
      rw [← pev_hev (p := q) (by omega)] at e2
      rw [← e1, ← e2, h]) n
  apply ext_cf hl
  intro n
  by_cases z : n < p.length
  · have := hb n
    rw [cf_bin z, cf_bin (by omega), ← hl] at this
    have c := nq_ne (chs_pos (p.length - 1) n (by omega))
    grind
  · rw [cf_ge (by omega), cf_ge (by omega)]
/-! ## the row of a polynomial, by blossoms -/
def pls (n : Nat) (lo hi u : Rat) (j i k : Nat) : Rat := if k < n - i - j then lo else if k < n - j then hi else u
theorem bls_avgs (P : List Rat) (n : Nat) (lo hi t : Rat) : ∀ j i, i + j ≤ n → avgs t (fun i => bls P (pls n lo hi (lo + t * (hi - lo)) 0 i) n) j i = bls P (pls n lo hi (lo + t * (hi - lo)) j i) n
  | 0, _, _ => rfl
  | j + 1, i, h => by
    rw [avgs, bls_avgs P n lo hi t j i (by omega), bls_avgs P n lo hi t j (i + 1) (by omega)]
    generalize hu : lo + t * (hi - lo) = u
    have hk : n - i - j = n - i - (j + 1) + 1 := by omega
    -- the places with u where the two differ
    have s1 : bls P (fun k => if k = n - i - (j + 1) then u else pls n lo hi u j i k) n = bls P (pls n lo hi u j i) n + t * (bls P (pls n lo hi u j (i + 1)) n - bls P (pls n lo hi u j i) n) := by
      refine bls_lin (a := n - i - (j + 1)) (by omega) ?_ ?_ ?_
      · show (if n - i - (j + 1) = n - i - (j + 1) then u else _) = pls n lo hi u j i _ + t * (pls n lo hi u j (i + 1) _ - pls n lo hi u j i _)
        rw [if_pos rfl]
        unfold pls
        rw [if_pos (by omega), if_neg (by omega), if_pos (by omega), ← hu]
      · intro k hk1 hk2
        unfold pls
        by_cases z : k < n - i - j
        · rw [if_pos z, if_pos (by omega)]
        · rw [if_neg z, if_neg (by omega)]
      · intro k hk1 hk2
        show (if k = n - i - (j + 1) then u else _) = _
        rw [if_neg hk2]
    rw [← s1]
    by_cases z : i = 0
    · subst z
      refine bls_congr fun zz => prg_congr fun k hk1 => ?_
      show 1 + (if k = n - 0 - (j + 1) then u else pls n lo hi u j 0 k) * zz = 1 + pls n lo hi u (j + 1) 0 k * zz
      have e : (if k = n - 0 - (j + 1) then u else pls n lo hi u j 0 k) = pls n lo hi u (j + 1) 0 k := by
        unfold pls
        by_cases z1 : k < n - 0 - (j + 1)
        · rw [if_neg (by omega), if_pos (by omega), if_pos z1]
        · rw [if_neg z1, if_neg (show ¬ k < n - (j + 1) by omega)]
          by_cases z2 : k = n - 0 - (j + 1)
          · rw [if_pos z2]
          · rw [if_neg z2, if_neg (by omega), if_neg (by omega)]
      rw [e]
    · refine bls_swap (a := n - i - (j + 1)) (b := n - (j + 1)) (by omega) (by omega) ?_ ?_ ?_
      · show (if n - i - (j + 1) = n - i - (j + 1) then u else _) = pls n lo hi u (j + 1) i _
        rw [if_pos rfl]
        unfold pls
        rw [if_neg (by omega), if_neg (by omega)]
      · show (if n - (j + 1) = n - i - (j + 1) then u else pls n lo hi u j i _) = pls n lo hi u (j + 1) i _
        unfold pls
        rw [if_neg (by omega), if_neg (by omega), if_pos (by omega), if_neg (by omega), if_pos (by omega)]
      · intro k hk1 hk2 hk3
        show (if k = n - i - (j + 1) then u else pls n lo hi u j i k) = pls n lo hi u (j + 1) i k
        rw [if_neg hk2]
        unfold pls
        by_cases z1 : k < n - i - (j + 1)
        · rw [if_pos (by omega), if_pos z1]
        · rw [if_neg (by omega), if_neg z1]
          by_cases z2 : k < n - (j + 1)
          · rw [if_pos (by omega), if_pos z2]
          · rw [if_neg (by omega), if_neg z2]
/-- the row that tells P from lo to hi -/
def tel (P : List Rat) (n : Nat) (lo hi : Rat) : List Rat := (List.range (n + 1)).map fun i => bls P (fun k => if k < n - i then lo else hi) n
theorem tel_len (P : List Rat) (n : Nat) (lo hi : Rat) : (tel P n lo hi).length = n + 1 := by unfold tel; rw [List.length_map, List.length_range]
theorem up_tel {P : List Rat} {n : Nat} (h : P.length ≤ n + 1) (lo hi : Rat) : up (tel P n lo hi) = lin P lo (hi - lo) := by
  refine pev_can (can_up _) (can_trim _) fun x => ?_
  rw [pev_lin, up_pev _ (by rw [tel_len]; omega), tel_len, Nat.add_sub_cancel]
  have e : ∀ i, i ≤ n → cf (tel P n lo hi) i = bls P (pls n lo hi (lo + x * (hi - lo)) 0 i) n := fun i hi' => by
    unfold tel
    rw [cf_map_range _ _ _ (by omega)]
    refine bls_congr fun z => prg_congr fun k hk => ?_
    show 1 + (if k < n - i then lo else hi) * z = 1 + pls n lo hi _ 0 i k * z
    unfold pls
    by_cases z1 : k < n - i
    · rw [if_pos z1, if_pos (by omega)]
    · rw [if_neg z1, if_neg (by omega), if_pos (by omega)]
  rw [avgs_congr (N := n) e n 0 (by omega), bls_avgs P n lo hi x n 0 (by omega)]
  rw [bls_diag (x := lo + x * (hi - lo)) (fun k hk => by unfold pls; rw [if_neg (by omega), if_neg (by omega)]) h]
  congr 1; grind
end Bc
namespace Bc
open PySem PySem.Spec PyProof.Rows L2 RZ RT
theorem up_slr {p : List Rat} (h : 1 ≤ p.length) : up (slr p) = dv (up p) := by
  unfold slr
  by_cases z : p.length = 1
  · rw [if_pos z]
    have h1 : (up p).length ≤ 1 := by
      have := fu_len p (p.length - 1) p.length
      unfold up; omega
    have h2 : dv (up p) = [] := List.eq_nil_of_length_eq_zero (by rw [dv_len]; omega)
    have h3 : up [0] = [] := by
      have e : Can (up [0]) := can_fu _ _ _
      refine can_ext e (show Can [] from rfl) fun n => pev_inj (fun x => ?_) n
      rw [up_pev _ (Nat.le_refl _)]; rfl
    rw [h2, h3]
  · rw [if_neg z]
    exact up_slp (d := p.length - 2) (by omega)
theorem slr_len {p : List Rat} (h : 1 ≤ p.length) : (slr p).length = if p.length = 1 then 1 else p.length - 1 := by
  unfold slr
  by_cases z : p.length = 1
  · rw [if_pos z, if_pos z]; rfl
  · rw [if_neg z, if_neg z, slp_len]
theorem sums_app {L M : List Rat} (h : ∀ i, i < L.length → cf L i = cf M i) : ls L = sums (cf M) L.length := sums_congr h
theorem ls_range (f : Nat → Rat) (n : Nat) : ls ((List.range n).map f) = sums f n := by
  unfold ls
  rw [List.length_map, List.length_range]
  exact sums_congr fun i hi => cf_map_range f n i hi
theorem mean_ls {p : List Rat} {d : Nat} (h : p.length = d + 1) : ls ((List.range (up p).length).map fun i => cf (up p) i * (1 / nq (i + 1))) = sums (cf p) p.length / nq p.length := by
  rw [ls_range, h, ← up_mean h, pev_sums, pev_sums]
  have wl : (wp (up p)).length = (up p).length + 1 := by unfold wp; rw [List.length_cons, ip_len]
  rw [wl, sums_front, sums_front]
  have e1 : sums (fun k => cf (wp (up p)) (k + 1) * 0 ^ (k + 1)) (up p).length = 0 := by
    have : ∀ n, sums (fun k => cf (wp (up p)) (k + 1) * (0 : Rat) ^ (k + 1)) n = 0 := by
      intro n
      induction n with
      | zero => rfl
      | succ n ih =>
        show _ + cf (wp (up p)) (n + 1) * (0 : Rat) ^ (n + 1) = 0
        rw [ih, Rat.pow_succ]; grind
    exact this _
  rw [e1]
  have e2 : sums (fun k => cf (wp (up p)) (k + 1) * 1 ^ (k + 1)) (up p).length = sums (fun i => cf (up p) i * (1 / nq (i + 1))) (up p).length := by
    refine sums_congr fun i hi => ?_
    rw [rone_pow]
    show cf (ip (up p)) i * 1 = _
    rw [cf_ip]
    have := nq_ne (Nat.succ_pos i)
    grind
  rw [e2]
  show _ = cf (wp (up p)) 0 * 1 ^ 0 + _ - (cf (wp (up p)) 0 * 0 ^ 0 + 0)
  rw [Rat.pow_zero, Rat.pow_zero]
  grind
theorem rpr_len (p q : List Rat) : (rpr p q).length = p.length - 1 + (q.length - 1) + 1 := by unfold rpr; rw [List.length_map, List.length_range]
theorem up_rpr {p q : List Rat} (h0 : 1 ≤ p.length) (h1 : 1 ≤ q.length) : up (rpr p q) = trim (pmul (up p) (up q)) := by
  refine up_prod (m := p.length - 1) (n := q.length - 1) (by omega) (by omega) (rpr_len p q) fun k hk => ?_
  unfold rpr
  rw [cf_map_range _ _ _ (by omega)]
  have := nq_ne (chs_pos (p.length - 1 + (q.length - 1)) k hk)
  grind
theorem chs_840 : ∀ d, d < 9 → ∀ k, k < d + 1 → ∃ c : Nat, c * chs d k = 840 := by
  intro d hd k hk
  have h : ∀ d, d < 9 → ∀ k, k < d + 1 → 840 / chs d k * chs d k = 840 := by decide +kernel
  exact ⟨_, h d hd k hk⟩
theorem bin_dn {p : List Rat} {m M : Nat} (h : ∀ i, Dn m M (cf p i)) (hl : p.length ≤ 5) (i : Nat) : Dn m (6 * M) (cf (bin p) i) := by
  by_cases z : i < p.length
  · rw [cf_bin z]
    have h6 : ∀ d, d < 5 → ∀ k, k < 5 → chs d k ≤ 6 := by decide +kernel
    have h7 := h6 (p.length - 1) (by omega) i (by omega)
    have e := (Dn.nat (chs (p.length - 1) i)).mul (h i)
    rw [Nat.one_mul] at e
    exact e.le (Nat.mul_le_mul_right _ h7)
  · rw [cf_ge (by rw [bin_len]; omega)]; exact (Dn.zero _).le (Nat.zero_le _)
theorem pmul_dn {p q : List Rat} {m M n N : Nat} (hp : ∀ i, Dn m M (cf p i)) (hq : ∀ i, Dn n N (cf q i)) (a : Nat) : ∀ j, j ≤ p.length → Dn (m * n) (j * (M * N)) (cf (pmul (p.take j) q) a)
  | 0, _ => by rw [Nat.zero_mul]; exact Dn.zero _
  | j + 1, h => by
    rw [take_next (by omega), cf_pmul_snoc, List.length_take, Nat.min_eq_left (by omega), ← cf_lt (show j < p.length by omega)]
    have ih := pmul_dn hp hq a j (by omega)
    have e : Dn (m * n) (M * N) (if j ≤ a then cf p j * cf q (a - j) else 0) := by
      by_cases z : j ≤ a
      · rw [if_pos z]; exact (hp j).mul (hq _)
      · rw [if_neg z]; exact (Dn.zero _).le (Nat.zero_le _)
    exact (ih.add e).le (by rw [Nat.succ_mul]; exact Nat.le_refl _)
theorem Dn.over {m M : Nat} {x : Rat} (h : Dn m M x) {c d : Nat} (hc : c * d = 840) : Dn (m * 840) (M * 840) (x / nq d) := by
  have hd : 0 < d := by
    rcases Nat.eq_zero_or_pos d with z | z
    · rw [z] at hc; simp at hc
    · exact z
  have hc' : c ≤ 840 := by
    have := Nat.le_mul_of_pos_right c hd
    omega
  have e : x / nq d = x * nq c / nq 840 := by
    rw [← hc, nq_mul]
    have := nq_ne hd
    have : 0 < c := by
      rcases Nat.eq_zero_or_pos c with z | z
      · rw [z] at hc; simp at hc
      · exact z
    have := nq_ne this
    grind
  rw [e]
  obtain ⟨z, e1, h1⟩ := h
  refine ⟨z * (c : Int), ?_, ?_⟩
  · rw [Rat.intCast_mul, ← e1, nq_mul]
    have := nq_ne (show 0 < 840 by decide)
    show _ = x * nq m * nq c
    grind
  · rw [Int.natAbs_mul]
    exact Nat.mul_le_mul h1 (by omega)
theorem rpr_dn {p q : List Rat} (h0 : 1 ≤ p.length) (h1 : 1 ≤ q.length) (hp5 : p.length ≤ 5) (hq5 : q.length ≤ 5) (hp : ∀ i, Dn 840 5880 (cf p i)) (hq : ∀ i, Dn 840 5880 (cf q i)) (i : Nat) : Dn (840 * 840 * 840) (5 * (6 * 5880 * (6 * 5880)) * 840) (cf (rpr p q) i) := by
  by_cases z : i < p.length - 1 + (q.length - 1) + 1
  · unfold rpr
    rw [cf_map_range _ _ _ z]
    obtain ⟨c, hc⟩ := chs_840 (p.length - 1 + (q.length - 1)) (by omega) i (by omega)
    have e := pmul_dn (bin_dn hp hp5) (bin_dn hq hq5) i p.length (by rw [bin_len]; omega)
    rw [List.take_of_length_le (by rw [bin_len]; omega)] at e
    exact (e.le (Nat.mul_le_mul_right _ hp5)).over hc
  · rw [cf_ge (by rw [rpr_len]; omega)]; exact (Dn.zero _).le (Nat.zero_le _)
theorem one_over (n : Nat) : (1 / nq (n + 1)).num = 1 ∧ (1 / nq (n + 1)).den = n + 1 := by
  have e : (1 : Rat) / nq (n + 1) = Rat.divInt 1 ((n + 1 : Nat) : Int) := by
    rw [divInt_eq (by omega)]; rfl
  have hg : Nat.gcd (1 : Int).natAbs (((n + 1 : Nat) : Int)).natAbs = 1 := Nat.gcd_one_left _
  rw [e]
  have h1 := low_num (t := 1) (l := ((n + 1 : Nat) : Int)) (by omega)
  have h2 := low_den (t := 1) (l := ((n + 1 : Nat) : Int)) (by omega)
  have hs : sg 1 ((n + 1 : Nat) : Int) = 1 := by
    unfold sg
    rw [if_neg (by omega), hg]; rfl
  rw [hs] at h1 h2
  rw [Int.fdiv_one] at h1 h2
  exact ⟨h1.symm, by omega⟩
theorem rt_over {K : PySem.W.Frag} {H : Hp} {a : Addr} {n : Nat} (h : SqT K H a [.int 1, .int ((n + 1 : Nat) : Int)]) : Rt K H (.ref a) (1 / nq (n + 1)) := by
  obtain ⟨h1, h2⟩ := one_over n
  exact ⟨a, rfl, by rw [h1, h2]; exact h⟩
theorem slr_dn {p : List Rat} (h : ∀ i, Dn 840 5880 (cf p i)) (hl : p.length ≤ 5) (i : Nat) : Dn 840 47040 (cf (slr p) i) := by
  unfold slr
  by_cases z : p.length = 1
  · rw [if_pos z]
    cases i with
    | zero => exact (Dn.zero _).le (Nat.zero_le _)
    | succ i => exact (Dn.zero _).le (Nat.zero_le _)
  · rw [if_neg z]
    by_cases y : i < p.length - 1
    · unfold slp
      rw [cf_map_range _ _ _ y]
      have e := (Dn.nat (p.length - 1)).mul ((h (i + 1)).sub (h i))
      rw [Nat.one_mul] at e
      refine e.le ?_
      have := Nat.mul_le_mul_right (5880 + 5880) (show p.length - 1 ≤ 4 by omega)
      omega
    · rw [cf_ge (by rw [slp_len]; omega)]; exact (Dn.zero _).le (Nat.zero_le _)
theorem up_bd {p : List Rat} {m M k : Nat} (h : ∀ i, Dn m M (cf p i)) (h0 : 1 ≤ p.length) (h9 : p.length ≤ 9) (m0 : 0 < m) (hm : m < 2 ^ k) (hM : 9 * (M * 17920) < 2 ^ k) : ∀ c ∈ up p, Bd k c := by
  unfold up
  refine dn_list (fu_dn h (by omega) p.length h9) m0 hm ?_
  have : p.length * (M * 17920) ≤ 9 * (M * 17920) := Nat.mul_le_mul_right _ h9
  omega
theorem up_len_le (p : List Rat) (h0 : 1 ≤ p.length) : (up p).length ≤ p.length := by
  have := fu_len p (p.length - 1) p.length
  unfold up
  omega
theorem one_bd (i : Nat) (h : i < 15) : Bd 4 (1 / nq (i + 1)) := by
  obtain ⟨h1, h2⟩ := one_over i
  unfold Bd
  rw [h1, h2]
  exact ⟨by decide, by show i + 1 < 16; omega⟩
theorem int_sum (f : Nat → Nat) : ∀ L : List Nat, (L.map fun j => ((f j : Nat) : Int)).sum = ((nsum (L.map f) : Nat) : Int)
  | [] => rfl
  | a :: L => by
    rw [List.map_cons, List.map_cons, List.sum_cons, int_sum f L]
    show _ = ((f a + nsum (L.map f) : Nat) : Int)
    omega
end Bc
namespace Bc
open PySem PySem.Spec PyProof.Rows L2 RZ RT
def spIsInterval (K : PySem.W.Frag) : Sp := fun vs H Q _ => ∃ (x : V) (lo hi : Rat), vs = [x] ∧ Pl K H x [lo, hi] ∧ lo < hi ∧ Bd kB lo ∧ Bd kB hi ∧ ∀ H', Same H H' → Q (.bl true) H'
def spCheckInterval (K : PySem.W.Frag) : Sp := fun vs H Q _ => ∃ (x : V) (lo hi : Rat), vs = [x] ∧ Pl K H x [lo, hi] ∧ lo < hi ∧ Bd kB lo ∧ Bd kB hi ∧ ∀ H', Same H H' → Q .non H'
/-- low up to a place, then high -/
def pk (lo hi : Rat) (c k : Nat) : Rat := if k < c then lo else hi
def spRowTelling (K : PySem.W.Frag) : Sp := fun vs H Q _ => ∃ (x y : V) (p : List Rat) (n : Nat) (lo hi : Rat) (k1 k : Nat), vs = [x, .int n, y] ∧ Pl K H x p ∧ Pl K H y [lo, hi] ∧ p.length ≤ n + 1 ∧ n ≤ 16 ∧ (∀ c ∈ p, Bd k1 c) ∧ Bd k lo ∧ Bd k hi ∧ (∀ c j i, j ≤ n → Bd k (cf (pe (pk lo hi c) j) i)) ∧
  2 * k + 18 ≤ kB ∧ 1 + p.length * (k1 + (k + 17) + 1) ≤ kB ∧ k1 ≤ kB ∧ k1 + k + 17 ≤ kB ∧ ∀ v H', Same H H' → Pl K H' v (tel p n lo hi) → Q v H'
def spRowOf (K : PySem.W.Frag) : Sp := fun vs H Q _ => ∃ (x y : V) (p : List Rat) (n : Nat) (lo hi : Rat) (k1 k : Nat), vs = [x, .int n, y] ∧ Pl K H x p ∧ Pl K H y [lo, hi] ∧ Can p ∧ lo < hi ∧ p.length ≤ n + 1 ∧ n ≤ 8 ∧ (∀ c ∈ p, Bd k1 c) ∧ Bd k lo ∧ Bd k hi ∧ (∀ c j i, j ≤ n → Bd k (cf (pe (pk lo hi c) j) i)) ∧
  2 * k + 18 ≤ kB ∧ 1 + p.length * (k1 + (k + 17) + 1) ≤ kB ∧ k1 ≤ kB ∧ k1 + k + 17 ≤ kB ∧ ∀ v H', Same H H' → Pl K H' v (tel p n lo hi) → Q v H'
def spSplit (K : PySem.W.Frag) : Sp := fun vs H Q _ => ∃ (x y : V) (p : List Rat) (t : Rat) (k : Nat), vs = [x, y] ∧ Pl K H x p ∧ Rt K H y t ∧ 1 ≤ p.length ∧ p.length ≤ 9 ∧ 3 * k + 1 ≤ kB ∧ Bd k t ∧ (∀ j i, j ≤ p.length → Bd k (avgs t (cf p) j i)) ∧
  ∀ a v1 v2 H', Same H H' → SqT K H' a [v1, v2] → Pl K H' v1 (lefts t p) → Pl K H' v2 (rights t p) → Q (.ref a) H'
/-- how often the sign changes -/
def ibs (ns : List Int) : List Bool := (ns.filter fun x => decide (x ≠ 0)).map fun x => decide (0 < x)
def spSignChanges (K : PySem.W.Frag) : Sp := fun vs H Q _ => ∃ (a : Addr) (ns : List Int), vs = [.ref a] ∧ SqL K H a (ns.map V.int) ∧ ns.length ≤ 1000 ∧ ∀ H', Same H H' → Q (.int (adj (ibs ns) : Nat)) H'
def spChanges (K : PySem.W.Frag) : Sp := fun vs H Q _ => ∃ (x : V) (p : List Rat), vs = [x] ∧ Pl K H x p ∧ 1 ≤ p.length ∧ p.length ≤ 9 ∧ ∀ H', Same H H' → Q (.int (vch p : Nat)) H'
def spSigns (K : PySem.W.Frag) : Sp := fun vs H Q _ => ∃ (x : V) (p : List Rat), vs = [x] ∧ Pl K H x p ∧ p.length ≤ 1000 ∧ ∀ H', Same H H' → Q (.int (vch p : Nat)) H'
def spMoved (K : PySem.W.Frag) : Sp := fun vs H Q _ => ∃ (x y z : V) (p : List Rat) (a b : Rat) (k1 k2 : Nat), vs = [x, y, z] ∧ Pl K H x p ∧ Rt K H y a ∧ Rt K H z b ∧ p.length ≤ 6 ∧ 0 < k1 ∧ 0 < k2 ∧ (∀ c ∈ p, Bd k1 c) ∧ Bd k2 a ∧ Bd k2 b ∧ k1 ≤ kB ∧ (∀ L, L ≤ 2 → ∀ i, i ≤ 6 → pbits k2 L i ≤ kB ∧ dbits k1 k2 L i ≤ kB) ∧
  ∀ v H', Same H H' → Pl K H' v (lin p a b) → Q v H'
/-! counting -/
def cnt (l : List Bool) : Nat → Nat
  | 0 => 0
  | i + 1 => cnt l i + (if l[i]? = l[i + 1]? then 0 else 1)
theorem cnt_cons (a b : Bool) (l : List Bool) : ∀ i, cnt (a :: b :: l) (i + 1) = (if a = b then 0 else 1) + cnt (b :: l) i
  | 0 => by
    show 0 + (if some a = some b then 0 else 1) = (if a = b then 0 else 1) + 0
    by_cases h : a = b
    · rw [if_pos h, if_pos (by rw [h])]
    · rw [if_neg h, if_neg (by intro z; exact h (Option.some.inj z))]
  | i + 1 => by
    rw [cnt, cnt_cons a b l i]
    show _ + (if (b :: l)[i]? = (b :: l)[i + 1]? then 0 else 1) = _ + (cnt (b :: l) i + _)
    omega
theorem adj_cnt : ∀ l : List Bool, adj l = cnt l (l.length - 1)
  | [] => rfl
  | [_] => rfl
  | a :: b :: l => by
    have := adj_cnt (b :: l)
    show (if a = b then 0 else 1) + adj (b :: l) = cnt (a :: b :: l) (l.length + 1)
    rw [cnt_cons, this]; rfl
theorem cnt_le (l : List Bool) : ∀ i, cnt l i ≤ i
  | 0 => Nat.le_refl _
  | i + 1 => by
    have := cnt_le l i
    rw [cnt]
    split <;> omega
theorem num_zero (q : Rat) : (q.num = 0) ↔ q = 0 := Rat.num_eq_zero
theorem num_pos' (q : Rat) : (0 < q.num) ↔ 0 < q := by
  rw [Rat.lt_iff]
  show 0 < q.num ↔ (0 : Int) * (q.den : Int) < q.num * 1
  omega
theorem ibs_num : ∀ p : List Rat, ibs (p.map fun q => q.num) = sgs p
  | [] => rfl
  | a :: p => by
    have ih := ibs_num p
    unfold ibs sgs at ih ⊢
    rw [List.map_cons, List.filter_cons, List.filter_cons]
    by_cases z : a = 0
    · rw [if_neg (by rw [decide_eq_true_iff]; exact fun y => y ((num_zero a).mpr z)), if_neg (by rw [decide_eq_true_iff]; exact fun y => y z)]
      exact ih
    · rw [if_pos (show decide (a.num ≠ 0) = true from decide_eq_true fun y => z ((num_zero a).mp y)), if_pos (show decide (a ≠ 0) = true from decide_eq_true z), List.map_cons, List.map_cons, ih]
      congr 1
      by_cases y : 0 < a
      · rw [decide_eq_true y, decide_eq_true ((num_pos' a).mpr y)]
      · rw [decide_eq_false y, decide_eq_false fun w => y ((num_pos' a).mp w)]
theorem pe_congr {f g : Nat → Rat} : ∀ {j : Nat}, (∀ i, i < j → f i = g i) → pe f j = pe g j
  | 0, _ => rfl
  | j + 1, h => by rw [pe, pe, pe_congr fun i hi => h i (by omega), h j (Nat.lt_succ_self _)]
/-! the numbers of both parts are not too long -/
theorem avgs_dn6 {t : Rat} (ht : Dn 840 5880 t) {f : Nat → Rat} (hf : ∀ i, Dn 840 5880 (f i)) (n i : Nat) (h : n ≤ 5) : Dn (840 ^ 6) (5880 * 12600 ^ 5) (avgs t f n i) := by
  have e := (avgs_dn ht hf n i).scale (840 ^ (5 - n))
  rw [← Nat.pow_add, show n + 1 + (5 - n) = 6 by omega] at e
  refine e.le ?_
  have h1 : 840 ^ (5 - n) ≤ 12600 ^ (5 - n) := Nat.pow_le_pow_left (by decide) _
  have h2 := Nat.mul_le_mul_left (5880 * 12600 ^ n) h1
  have h3 : 5880 * 12600 ^ n * 12600 ^ (5 - n) = 5880 * 12600 ^ 5 := by rw [Nat.mul_assoc, ← Nat.pow_add, show n + (5 - n) = 5 by omega]
  rw [← h3]
  exact h2
theorem avgs_bd96 {t : Rat} (ht : Dn 840 5880 t) {f : Nat → Rat} (hf : ∀ i, Dn 840 5880 (f i)) (n i : Nat) (h : n ≤ 6) : Bd 96 (avgs t f n i) := by
  have h1 : 840 ^ (n + 1) ≤ 840 ^ 7 := Nat.pow_le_pow_right (by decide) (by omega)
  have h2 : 12600 ^ n ≤ 12600 ^ 6 := Nat.pow_le_pow_right (by decide) h
  have h3 : 840 ^ 7 < 2 ^ 96 := by decide
  have h4 : 5880 * 12600 ^ 6 < 2 ^ 96 := by decide
  have h5 := Nat.mul_le_mul_left 5880 h2
  exact (avgs_dn ht hf n i).bd (Nat.pow_pos (by decide)) (by omega) (by omega)
theorem lefts_dn {t : Rat} (ht : Dn 840 5880 t) {p : List Rat} (hp : ∀ i, Dn 840 5880 (cf p i)) (h : p.length ≤ 6) (i : Nat) : Dn (840 ^ 6) (5880 * 12600 ^ 5) (cf (lefts t p) i) := by
  by_cases z : i < p.length
  · rw [cf_lefts z]; exact avgs_dn6 ht hp _ _ (by omega)
  · rw [cf_ge (by rw [lefts_len]; omega)]; exact (Dn.zero _).le (Nat.zero_le _)
theorem rights_dn {t : Rat} (ht : Dn 840 5880 t) {p : List Rat} (hp : ∀ i, Dn 840 5880 (cf p i)) (h : p.length ≤ 6) (i : Nat) : Dn (840 ^ 6) (5880 * 12600 ^ 5) (cf (rights t p) i) := by
  by_cases z : i < p.length
  · rw [cf_rights z]; exact avgs_dn6 ht hp _ _ (by omega)
  · rw [cf_ge (by rw [rights_len]; omega)]; exact (Dn.zero _).le (Nat.zero_le _)
theorem pk_bd {lo hi : Rat} (hl : Dn 840 5880 lo) (hh : Dn 840 5880 hi) (c j i : Nat) (h : j ≤ 5) : Bd 64 (cf (pe (pk lo hi c) j) i) := by
  have e := pe_dn (f := pk lo hi c) (fun k => by unfold pk; split <;> assumption) j i
  have h1 : 840 ^ j ≤ 840 ^ 5 := Nat.pow_le_pow_right (by decide) h
  have h2 : (840 + 5880) ^ j ≤ (840 + 5880) ^ 5 := Nat.pow_le_pow_right (by decide) h
  have h3 : 840 ^ 5 < 2 ^ 64 := by decide
  have h4 : (840 + 5880) ^ 5 < 2 ^ 64 := by decide
  exact e.bd (Nat.pow_pos (by decide)) (by omega) (by omega)
/-! no more changes of signs -/
def wv (t : Rat) : Rat → List Rat → List Rat
  | a, [] => [a]
  | a, b :: l => (a + t * (b - a)) :: wv t b l
theorem few_wv {t : Rat} (h0 : 0 < t) (h1 : t < 1) : ∀ (l : List Rat) (a b : Rat), Few (a :: wv t a (b :: l)) (a :: b :: l)
  | [], a, b => few_mid h0 h1
  | c :: l, a, b => by
    have ih := few_wv h0 h1 l b c
    have s1 : Few (a :: (a + t * (b - a)) :: wv t b (c :: l)) (a :: (a + t * (b - a)) :: b :: wv t b (c :: l)) := by
      have := (few_del b).ctx [a, a + t * (b - a)] (wv t b (c :: l))
      simpa using this
    have s2 : Few (a :: (a + t * (b - a)) :: b :: wv t b (c :: l)) (a :: b :: wv t b (c :: l)) := by
      have := (few_mid (a := a) (b := b) h0 h1).ctx [] (wv t b (c :: l))
      simpa using this
    have s3 : Few (a :: b :: wv t b (c :: l)) (a :: b :: c :: l) := by
      have := ih.ctx [a] []
      simpa using this
    exact (s1.trans s2).trans s3
def seg (g : Nat → Rat) (i : Nat) : Nat → List Rat
  | 0 => []
  | m + 1 => g i :: seg g (i + 1) m
theorem seg_snoc (g : Nat → Rat) : ∀ m i, seg g i (m + 1) = seg g i m ++ [g (i + m)]
  | 0, i => rfl
  | m + 1, i => by
    show g i :: seg g (i + 1) (m + 1) = g i :: (seg g (i + 1) m ++ [g (i + (m + 1))])
    rw [seg_snoc g m (i + 1), show i + 1 + m = i + (m + 1) by omega]
theorem seg_map (g : Nat → Rat) : ∀ m, (List.range m).map g = seg g 0 m
  | 0 => rfl
  | m + 1 => by rw [List.range_succ, List.map_append, seg_map g m, seg_snoc, List.map_singleton, Nat.zero_add]
theorem wv_seg (t : Rat) (g : Nat → Rat) : ∀ m i, wv t (g i) (seg g (i + 1) m) = seg (avg t g) i m ++ [g (i + m)]
  | 0, i => rfl
  | m + 1, i => by
    show (g i + t * (g (i + 1) - g i)) :: wv t (g (i + 1)) (seg g (i + 1 + 1) m) = avg t g i :: (seg (avg t g) (i + 1) m ++ [g (i + (m + 1))])
    rw [wv_seg t g m (i + 1), show i + 1 + m = i + (m + 1) by omega]; rfl
theorem few_seg {t : Rat} (h0 : 0 < t) (h1 : t < 1) (g : Nat → Rat) (m : Nat) : Few (g 0 :: (seg (avg t g) 0 (m + 1) ++ [g (m + 1)])) (seg g 0 (m + 2)) := by
  have h := few_wv h0 h1 (seg g 2 m) (g 0) (g 1)
  have e : wv t (g 0) (g 1 :: seg g 2 m) = seg (avg t g) 0 (m + 1) ++ [g (0 + (m + 1))] := wv_seg t g (m + 1) 0
  rw [e, Nat.zero_add] at h
  exact h
def zig (t : Rat) (f : Nat → Rat) (n j : Nat) : List Rat := seg (fun j => avgs t f j 0) 0 j ++ seg (avgs t f j) 0 (n - j + 1) ++ seg (fun i => avgs t f (n - i) i) (n - j + 1) j
theorem zig_next {t : Rat} (h0 : 0 < t) (h1 : t < 1) (f : Nat → Rat) {n j : Nat} (hj : j + 1 ≤ n) : Few (zig t f n (j + 1)) (zig t f n j) := by
  obtain ⟨m, hm⟩ : ∃ m, n - j + 1 = m + 2 := ⟨n - j - 1, by omega⟩
  have h := (few_seg h0 h1 (avgs t f j) m).ctx (seg (fun j => avgs t f j 0) 0 j) (seg (fun i => avgs t f (n - i) i) (n - j + 1) j)
  have e : zig t f n (j + 1) = seg (fun j => avgs t f j 0) 0 j ++ (avgs t f j 0 :: (seg (avg t (avgs t f j)) 0 (m + 1) ++ [avgs t f j (m + 1)])) ++ seg (fun i => avgs t f (n - i) i) (n - j + 1) j := by
    unfold zig
    rw [seg_snoc, show n - (j + 1) + 1 = m + 1 by omega, Nat.zero_add]
    have e1 : seg (fun i => avgs t f (n - i) i) (m + 1) (j + 1) = avgs t f j (m + 1) :: seg (fun i => avgs t f (n - i) i) (n - j + 1) j := by
      show avgs t f (n - (m + 1)) (m + 1) :: seg _ (m + 1 + 1) j = _
      rw [show n - (m + 1) = j by omega, hm]
    rw [e1]
    have e2 : avgs t f (j + 1) = avg t (avgs t f j) := rfl
    rw [e2]
    simp [List.append_assoc]
  rw [e]
  unfold zig
  rw [hm] at h ⊢
  exact h
theorem zig_few {t : Rat} (h0 : 0 < t) (h1 : t < 1) (f : Nat → Rat) (n : Nat) : ∀ j, j ≤ n → Few (zig t f n j) (zig t f n 0)
  | 0, _ => Few.refl _
  | j + 1, h => (zig_next h0 h1 f h).trans (zig_few h0 h1 f n j (by omega))
theorem map_cf (p : List Rat) : (List.range p.length).map (cf p) = p := by
  apply ext_cf (by rw [List.length_map, List.length_range])
  intro n
  by_cases z : n < p.length
  · rw [cf_map_range _ _ _ z]
  · rw [cf_ge (by rw [List.length_map, List.length_range]; omega), cf_ge (by omega)]
theorem split_changes {t : Rat} (h0 : 0 < t) (h1 : t < 1) {p : List Rat} (hp : 1 ≤ p.length) : vch (lefts t p) + vch (rights t p) ≤ vch p := by
  obtain ⟨n, hn⟩ : ∃ n, p.length = n + 1 := ⟨p.length - 1, by omega⟩
  have h := (zig_few h0 h1 (cf p) n n (Nat.le_refl _)).le
  have e0 : zig t (cf p) n 0 = p := by
    unfold zig
    show [] ++ seg (avgs t (cf p) 0) 0 (n - 0 + 1) ++ [] = p
    rw [List.nil_append, List.append_nil, Nat.sub_zero, ← seg_map, ← hn]
    exact map_cf p
  have e1 : zig t (cf p) n n = seg (fun j => avgs t (cf p) j 0) 0 n ++ [avgs t (cf p) n 0] ++ seg (fun i => avgs t (cf p) (n - i) i) 1 n := by
    unfold zig
    rw [Nat.sub_self]; rfl
  have e2 : lefts t p = seg (fun j => avgs t (cf p) j 0) 0 n ++ [avgs t (cf p) n 0] := by
    unfold lefts
    rw [seg_map, hn, seg_snoc, Nat.zero_add]
  have e3 : rights t p = avgs t (cf p) n 0 :: seg (fun i => avgs t (cf p) (n - i) i) 1 n := by
    unfold rights
    rw [seg_map, hn, Nat.add_sub_cancel]; rfl
  rw [e0, e1] at h
  rw [e2, e3]
  exact Nat.le_trans (vch_join _ _ _) h
theorem pl_two {K : PySem.W.Frag} {H : Hp} {x : V} {lo hi : Rat} (h : Pl K H x [lo, hi]) : ∃ a u v, x = .ref a ∧ SqT K H a [u, v] ∧ Rt K H u lo ∧ Rt K H v hi := by
  obtain ⟨a, xs, rfl, ha, rs, _⟩ := h.len
  cases rs with
  | cons h1 t => cases t with
    | cons h2 t => cases t; exact ⟨a, _, _, rfl, ha, h1, h2⟩
theorem cf_two {lo hi : Rat} {a b k : Nat} (h : k < a + b) : cf (List.replicate a lo ++ List.replicate b hi) k = pk lo hi a k := by
  unfold pk cf
  rw [List.getD_eq_getElem?_getD]
  by_cases z : k < a
  · rw [if_pos z, List.getElem?_append_left (by rw [List.length_replicate]; exact z), List.getElem?_replicate, if_pos z]; rfl
  · rw [if_neg z, List.getElem?_append_right (by rw [List.length_replicate]; omega), List.length_replicate, List.getElem?_replicate, if_pos (by omega)]; rfl
end Bc
namespace Bc
open PySem PySem.Spec PyProof.Rows L2 RZ RT
/-! ## the polynomial of a row, step by step -/
/-- the polynomials of the steps; R stands for t, F for 1 - t -/
def ptl (F R : List Rat) (p : List Rat) : Nat → Nat → List Rat
  | 0, i => trim [cf p i]
  | j + 1, i => trim (padd (trim (pmul F (ptl F R p j i))) (trim (pmul R (ptl F R p j (i + 1)))))
theorem ptl_can (F R p : List Rat) : ∀ j i, Can (ptl F R p j i)
  | 0, _ => can_trim _
  | _ + 1, _ => can_trim _
theorem ptl_pev {F R : List Rat} (p : List Rat) {x T : Rat} (hF : pev F x = 1 - T) (hR : pev R x = T) : ∀ j i, pev (ptl F R p j i) x = avgs T (cf p) j i
  | 0, i => by rw [ptl, pev_trim, pev_one]; rfl
  | j + 1, i => by
    rw [ptl, pev_trim, pev_padd, pev_trim, pev_trim, pev_pmul, pev_pmul, ptl_pev p hF hR j i, ptl_pev p hF hR j (i + 1), hF, hR, avgs]; grind
theorem ptl_len {F R : List Rat} (hF : F.length ≤ 2) (hR : R.length ≤ 2) (p : List Rat) : ∀ j i, (ptl F R p j i).length ≤ j + 1
  | 0, i => trim_len [cf p i]
  | j + 1, i => by
    have h1 := trim_len (padd (trim (pmul F (ptl F R p j i))) (trim (pmul R (ptl F R p j (i + 1)))))
    rw [padd_len] at h1
    have h2 := trim_len (pmul F (ptl F R p j i))
    have h3 := trim_len (pmul R (ptl F R p j (i + 1)))
    have h4 := ptl_len hF hR p j i
    have h5 := ptl_len hF hR p j (i + 1)
    have h6 : (pmul F (ptl F R p j i)).length ≤ j + 2 := plen hF h4
    have h7 : (pmul R (ptl F R p j (i + 1))).length ≤ j + 2 := plen hR h5
    rw [ptl]
    omega
where
  plen {U V : List Rat} {j : Nat} (hU : U.length ≤ 2) (hV : V.length ≤ j + 1) : (pmul U V).length ≤ j + 2 := by
    have := pmul_len U V
    omega
theorem pmul2_dn {U V : List Rat} {m M n N : Nat} (hl : U.length ≤ 2) (hU : ∀ i, Dn m M (cf U i)) (hV : ∀ i, Dn n N (cf V i)) (a : Nat) : Dn (m * n) (2 * (M * N)) (cf (trim (pmul U V)) a) := by
  have e := pmul_dn hU hV a U.length (Nat.le_refl _)
  rw [List.take_of_length_le (Nat.le_refl _)] at e
  rw [cf_trim]
  exact e.le (Nat.mul_le_mul_right _ hl)
theorem ptl_dn {F R p : List Rat} {m M m0 M0 : Nat} (hF2 : F.length ≤ 2) (hR2 : R.length ≤ 2) (hF : ∀ i, Dn m (m + M) (cf F i)) (hR : ∀ i, Dn m (m + M) (cf R i)) (hp : ∀ i, Dn m0 M0 (cf p i)) : ∀ j i n, Dn (m ^ j * m0) ((4 * (m + M)) ^ j * M0) (cf (ptl F R p j i) n)
  | 0, i, n => by
    rw [ptl, cf_trim, Nat.pow_zero, Nat.pow_zero, Nat.one_mul, Nat.one_mul]
    cases n with
    | zero => exact hp i
    | succ n => exact (Dn.zero _).le (Nat.zero_le _)
  | j + 1, i, n => by
    have e1 := pmul2_dn hF2 hF (ptl_dn hF2 hR2 hF hR hp j i) n
    have e2 := pmul2_dn hR2 hR (ptl_dn hF2 hR2 hF hR hp j (i + 1)) n
    rw [ptl, cf_trim, cf_padd]
    have h1 : m ^ (j + 1) * m0 = m * (m ^ j * m0) := by rw [Nat.pow_succ, Nat.mul_comm (m ^ j) m, Nat.mul_assoc]
    have h2 : (4 * (m + M)) ^ (j + 1) * M0 = 2 * ((m + M) * ((4 * (m + M)) ^ j * M0)) + 2 * ((m + M) * ((4 * (m + M)) ^ j * M0)) := by
      rw [Nat.pow_succ, Nat.mul_comm ((4 * (m + M)) ^ j), Nat.mul_assoc, Nat.mul_assoc]
      omega
    rw [h1, h2]
    exact e1.add e2
theorem ptl_end {p : List Rat} {n : Nat} (h : p.length = n + 1) (r0 r1 : Rat) : ptl (trim (padd [1] [-r0, -r1])) [r0, r1] p n 0 = lin (up p) r0 r1 := by
  refine pev_can (ptl_can _ _ _ _ _) (can_trim _) fun x => ?_
  rw [pev_lin, up_pev _ (by omega), h, Nat.add_sub_cancel]
  refine ptl_pev p ?_ ?_ n 0
  · rw [pev_trim, pev_padd, pev_one, pev_two]; grind
  · rw [pev_two]
def spOpp (K : PySem.W.Frag) : Sp := fun vs H Q _ => ∃ x a, vs = [x] ∧ Rt K H x a ∧ ∀ v H', Same H H' → Rt K H' v (-a) → Q v H'
def spPolyTold (K : PySem.W.Frag) : Sp := fun vs H Q _ => ∃ (x y : V) (p : List Rat) (r0 r1 : Rat) (m M m0 M0 k : Nat), vs = [x, y] ∧ Pl K H x p ∧ Pl K H y [r0, r1] ∧ 1 ≤ p.length ∧ p.length ≤ 9 ∧ (∀ i, Dn m0 M0 (cf p i)) ∧ Dn m M r0 ∧ Dn m M r1 ∧ 0 < m ∧ 0 < m0 ∧ m + M < 2 ^ k ∧
  (∀ j, j ≤ p.length → m ^ j * m0 < 2 ^ k ∧ (4 * (m + M)) ^ j * M0 < 2 ^ k) ∧ 1 + 2 * (k + k + 1) ≤ kB ∧ 0 < k ∧ ∀ v H', Same H H' → Pl K H' v (lin (up p) r0 r1) → Q v H'
/-- what is asked of an interval here -/
structure OkI (lo hi : Rat) : Prop where
  lt : lo < hi
  dl : Dn 4200 54600 lo
  dh : Dn 4200 54600 hi
  d0 : Dn 840 5880 lo
  di : Dn 60 300 (1 / (hi - lo))
  bl : Bd 20 lo
  bh : Bd 20 hi
def spPolyOf (K : PySem.W.Frag) : Sp := fun vs H Q _ => ∃ (x y : V) (p : List Rat) (lo hi : Rat) (m0 M0 k : Nat), vs = [x, y] ∧ Pl K H x p ∧ Pl K H y [lo, hi] ∧ OkI lo hi ∧ 1 ≤ p.length ∧ p.length ≤ 9 ∧ (∀ i, Dn m0 M0 (cf p i)) ∧ 0 < m0 ∧ 50400 + 1764000 < 2 ^ k ∧
  (∀ j, j ≤ p.length → 50400 ^ j * m0 < 2 ^ k ∧ (4 * (50400 + 1764000)) ^ j * M0 < 2 ^ k) ∧ 1 + 2 * (k + k + 1) ≤ kB ∧ 0 < k ∧ ∀ v H', Same H H' → Pl K H' v (lin (up p) (-lo / (hi - lo)) (1 / (hi - lo))) → Q v H'
def spInterval (K : PySem.W.Frag) : Sp := fun vs H Q _ => ∃ (r : Addr), vs = [.ref r] ∧ Row K H r ∧ ∀ v lo hi H', Pl K H' v [lo, hi] → OkI lo hi → Row K H' r → Ro r H H' → Q v H'
def spRowPoly (K : PySem.W.Frag) : Sp := fun vs H Q _ => ∃ (x y : V) (p : List Rat) (lo hi : Rat), vs = [x, y] ∧ Pl K H x p ∧ Pl K H y [lo, hi] ∧ OkI lo hi ∧ 1 ≤ p.length ∧ p.length ≤ 6 ∧ (∀ i, Dn 840 5880 (cf p i)) ∧ ∀ v H', Same H H' → Pl K H' v (lin (up p) (-lo / (hi - lo)) (1 / (hi - lo))) → Q v H'
/-- plus, the second one perhaps not in lowest terms -/
def spPlusRaw (K : PySem.W.Frag) : Sp := fun vs H Q _ => ∃ (x : V) (b : Addr) (a : Rat) (n d : Int), vs = [x, .ref b] ∧ Rt K H x a ∧ SqT K H b [.int n, .int d] ∧ Bd 3 a ∧ 0 < n ∧ n < 8 ∧ 0 < d ∧ d < 8 ∧ ∀ v H', Same H H' → Rt K H' v (a + Rat.divInt n d) → Q v H'
theorem add_raw (a : Rat) {n d : Int} (h : d ≠ 0) : Rat.divInt (a.num * d + n * a.den) (a.den * d) = a + Rat.divInt n d := by
  rw [divInt_eq h, divInt_eq (Int.mul_ne_zero (den_ne a) h), Rat.intCast_add, Rat.intCast_mul, Rat.intCast_mul, Rat.intCast_mul, num_den a]
  have h1 := int_ne (den_ne a)
  have h2 := int_ne h
  grind
theorem wide_ok : ∀ k : Nat, k < 6 → ∀ d : Nat, d = 1 ∨ d = 5 → 0 < Rat.divInt (1 + (k : Int)) d ∧ Rat.divInt (1 + (k : Int)) d * nq 5 = (((5 * (1 + k) / d : Nat) : Int) : Rat) ∧ 5 * (1 + k) / d ≤ 30 ∧ 1 / Rat.divInt (1 + (k : Int)) d * nq 60 = (((60 * d / (1 + k) : Nat) : Int) : Rat) ∧ 60 * d / (1 + k) ≤ 300 := by
  intro k hk d hd
  rcases hd with rfl | rfl
  · have h : ∀ k : Nat, k < 6 → 0 < Rat.divInt (1 + (k : Int)) 1 ∧ Rat.divInt (1 + (k : Int)) 1 * nq 5 = (((5 * (1 + k) / 1 : Nat) : Int) : Rat) ∧ 5 * (1 + k) / 1 ≤ 30 ∧ 1 / Rat.divInt (1 + (k : Int)) 1 * nq 60 = (((60 * 1 / (1 + k) : Nat) : Int) : Rat) ∧ 60 * 1 / (1 + k) ≤ 300 := by decide +kernel
    exact h k hk
  · have h : ∀ k : Nat, k < 6 → 0 < Rat.divInt (1 + (k : Int)) 5 ∧ Rat.divInt (1 + (k : Int)) 5 * nq 5 = (((5 * (1 + k) / 5 : Nat) : Int) : Rat) ∧ 5 * (1 + k) / 5 ≤ 30 ∧ 1 / Rat.divInt (1 + (k : Int)) 5 * nq 60 = (((60 * 5 / (1 + k) : Nat) : Int) : Rat) ∧ 60 * 5 / (1 + k) ≤ 300 := by decide +kernel
    exact h k hk
theorem okI_of {lo w : Rat} (b : Bd 3 lo) (h0 : 0 < w) (hw : Dn 5 30 w) (hi : Dn 60 300 (1 / w)) : OkI lo (lo + w) := by
  have d := Dn.of_bd b
  have e : lo + w - lo = w := by grind
  have dl := (d.scale 5).le (show 5880 * 5 ≤ 54600 by decide)
  have dh := (d.scale 5).add (hw.scale 840)
  refine ⟨by grind, dl, dh.le (by decide), d, by rw [e]; exact hi, ?_, ?_⟩
  · exact b.le (by decide)
  · exact dh.bd (by decide) (by decide) (by decide)
theorem OkI.ne {lo hi : Rat} (h : OkI lo hi) : hi - lo ≠ 0 := by have := h.lt; grind
theorem OkI.dr {lo hi : Rat} (h : OkI lo hi) : Dn 50400 1764000 (-lo / (hi - lo)) := by
  have e : -lo / (hi - lo) = (0 - lo) * (1 / (hi - lo)) := by
    have := h.ne
    grind
  rw [e]
  have z : Dn 840 0 (0 : Rat) := Dn.zero _
  exact ((z.sub h.d0).mul h.di).le (by decide)
theorem OkI.dw {lo hi : Rat} (h : OkI lo hi) : Dn 50400 1764000 (1 / (hi - lo)) := (h.di.scale 840).le (by decide)
theorem lin_back {P : List Rat} {lo hi : Rat} (hc : Can P) (h : OkI lo hi) : lin (lin P (-lo / (hi - lo)) (1 / (hi - lo))) lo (hi - lo) = P := by
  refine pev_can (can_trim _) hc fun x => ?_
  rw [pev_lin, pev_lin]
  have e : -lo / (hi - lo) + 1 / (hi - lo) * (lo + (hi - lo) * x) = x := by
    have := h.ne
    grind
  rw [e]
theorem lin_there {P : List Rat} {lo hi : Rat} (hc : Can P) (h : OkI lo hi) : lin (lin P lo (hi - lo)) (-lo / (hi - lo)) (1 / (hi - lo)) = P := by
  refine pev_can (can_trim _) hc fun x => ?_
  rw [pev_lin, pev_lin]
  have e : lo + (hi - lo) * (-lo / (hi - lo) + 1 / (hi - lo) * x) = x := by
    have := h.ne
    grind
  rw [e]
theorem lin_len (P : List Rat) (a b : Rat) : (lin P a b).length ≤ P.length := by
  have h := (comp_bd (q := trim [a, b]) (k1 := 1) (k2 := 1) (p := P))
  unfold lin
  have h1 := trim_len (comp P (trim [a, b]))
  have h2 : ∀ P : List Rat, (comp P (trim [a, b])).length ≤ P.length := by
    intro P
    induction P with
    | nil => exact Nat.le_refl _
    | cons c P ih =>
      have l2 : (trim [a, b]).length ≤ 2 := trim_len [a, b]
      have h3 := pmul_len (comp P (trim [a, b])) (trim [a, b])
      show (padd (pmul (comp P (trim [a, b])) (trim [a, b])) [c]).length ≤ P.length + 1
      rw [padd_len, List.length_singleton]
      omega
  have := h2 P
  omega
/-- the numbers of a polynomial's row -/
theorem tel_dn {P : List Rat} {lo hi : Rat} (h : OkI lo hi) {n : Nat} (hn : n ≤ 6) (hl : P.length ≤ 5) (hP : ∀ i, Dn 840 5880 (cf P i)) (i : Nat) : Dn (840 * 4200 ^ 6 * 840) (5 * (5880 * 58800 ^ 6 * 840)) (cf (tel P n lo hi) i) := by
  by_cases z : i < n + 1
  · unfold tel
    rw [cf_map_range _ _ _ z]
    obtain ⟨B, hB⟩ : ∃ B, B = 5880 * 58800 ^ 6 * 840 := ⟨_, rfl⟩
    obtain ⟨A, hA⟩ : ∃ A, A = 840 * 4200 ^ 6 * 840 := ⟨_, rfl⟩
    rw [← hA, ← hB]
    have s : ∀ m, m ≤ 5 → Dn A (m * B) (sums (fun k => cf P k * (cf (pe (fun k => if k < n - i then lo else hi) n) k / nq (chs n k))) m) := by
      intro m
      induction m with
      | zero => intro _; rw [Nat.zero_mul]; exact Dn.zero _
      | succ m ih =>
        intro hm
        rw [Nat.succ_mul]
        refine (ih (by omega)).add ?_
        have e := pe_dn (m := 4200) (M := 54600) (f := fun k => if k < n - i then lo else hi) (fun k => by
          show Dn 4200 54600 (if k < n - i then lo else hi)
          split
          · exact h.dl
          · exact h.dh) n m
        have e2 := e.scale (4200 ^ (6 - n))
        rw [← Nat.pow_add, show n + (6 - n) = 6 by omega] at e2
        have e3 : Dn (4200 ^ 6) (58800 ^ 6) (cf (pe (fun k => if k < n - i then lo else hi) n) m) := by
          refine e2.le ?_
          have h1 : 4200 ^ (6 - n) ≤ 58800 ^ (6 - n) := Nat.pow_le_pow_left (by decide) _
          have h2 := Nat.mul_le_mul_left ((4200 + 54600) ^ n) h1
          have h3 : (4200 + 54600) ^ n * 58800 ^ (6 - n) = 58800 ^ 6 := by
            show 58800 ^ n * 58800 ^ (6 - n) = 58800 ^ 6
            rw [← Nat.pow_add]
            congr 1; omega
          exact Nat.le_trans h2 (Nat.le_of_eq h3)
        by_cases y : m < n + 1
        · obtain ⟨c, hc⟩ := chs_840 n (by omega) m y
          have e4 := (hP m).mul (e3.over hc)
          have a1 : 840 * (4200 ^ 6 * 840) = A := by rw [hA, Nat.mul_assoc]
          have a2 : 5880 * (58800 ^ 6 * 840) = B := by rw [hB, Nat.mul_assoc]
          rw [a1, a2] at e4
          exact e4
        · show Dn A B (cf P m * (cf (pe (fun k => if k < n - i then lo else hi) n) m / nq (chs n m)))
          rw [cf_ge (show (pe (fun k => if k < n - i then lo else hi) n).length ≤ m by rw [pe_len]; omega)]
          have e5 : cf P m * (0 / nq (chs n m)) = 0 := by rw [Rat.div_def]; grind
          rw [e5]
          exact (Dn.zero _).le (Nat.zero_le _)
    exact (s P.length hl).le (Nat.mul_le_mul_right _ hl)
  · rw [cf_ge (by rw [tel_len]; omega)]; exact (Dn.zero _).le (Nat.zero_le _)
theorem pk_bd6 {lo hi : Rat} (h : OkI lo hi) (c j i : Nat) (hj : j ≤ 6) : Bd 96 (cf (pe (pk lo hi c) j) i) := by
  have e := pe_dn (m := 4200) (M := 54600) (f := pk lo hi c) (fun k => by
    unfold pk
    split
    · exact h.dl
    · exact h.dh) j i
  have h1 : 4200 ^ j ≤ 4200 ^ 6 := Nat.pow_le_pow_right (by decide) hj
  have h2 : (4200 + 54600) ^ j ≤ (4200 + 54600) ^ 6 := Nat.pow_le_pow_right (by decide) hj
  have h3 : 4200 ^ 6 < 2 ^ 96 := by decide
  have h4 : (4200 + 54600) ^ 6 < 2 ^ 96 := by decide
  exact e.bd (Nat.pow_pos (by decide)) (by omega) (by omega)
theorem cf_tel {P : List Rat} {n i : Nat} {lo hi : Rat} (h : i ≤ n) : cf (tel P n lo hi) i = bls P (fun k => if k < n - i then lo else hi) n := cf_map_range _ _ _ (by omega)
theorem tel_first {P : List Rat} {n : Nat} {lo hi : Rat} (h : P.length ≤ n + 1) : cf (tel P n lo hi) 0 = pev P lo := by
  rw [cf_tel (Nat.zero_le _)]
  exact bls_diag (fun k hk => by show (if k < n - 0 then lo else hi) = lo; rw [if_pos (by omega)]) h
theorem tel_last {P : List Rat} {n : Nat} {lo hi : Rat} (h : P.length ≤ n + 1) : cf (tel P n lo hi) n = pev P hi := by
  rw [cf_tel (Nat.le_refl _)]
  exact bls_diag (fun k hk => by show (if k < n - n then lo else hi) = hi; rw [if_neg (by omega)]) h
theorem tel_of_row {p : List Rat} {lo hi : Rat} {n : Nat} (hn : p.length = n + 1) (h : OkI lo hi) : tel (lin (up p) (-lo / (hi - lo)) (1 / (hi - lo))) n lo hi = p := by
  have l1 := up_len_le p (by omega)
  have l2 := lin_len (up p) (-lo / (hi - lo)) (1 / (hi - lo))
  refine up_inj (by rw [tel_len]; omega) (by rw [tel_len]; omega) ?_
  rw [up_tel (by omega), lin_back (can_up p) h]
theorem get_snoc {ws : List V} {w y : V} {j : Nat} (h : (ws ++ [w])[j]? = some y) : ws[j]? = some y ∨ (j = ws.length ∧ y = w) := by
  by_cases z : j < ws.length
  · rw [List.getElem?_append_left z] at h; exact .inl h
  · rw [List.getElem?_append_right (by omega)] at h
    rcases Nat.eq_zero_or_pos (j - ws.length) with e | e
    · rw [e] at h
      exact .inr ⟨by omega, (Option.some.inj h).symm⟩
    · rw [List.getElem?_eq_none (by simp; omega)] at h; cases h
theorem szm21 : ∀ L, L < 3 → ∀ i, i < 7 → pbits 21 L i ≤ 2250 ∧ dbits 30 21 L i ≤ 2250 := by decide +kernel
theorem fr_dn {m M : Nat} {r0 r1 : Rat} (d0 : Dn m M r0) (d1 : Dn m M r1) (i : Nat) : Dn m (m + M) (cf (trim (padd [1] [-r0, -r1])) i) := by
  have z0 : Dn m 0 (0 : Rat) := Dn.zero _
  rw [cf_trim, cf_padd]
  match i with
  | 0 =>
    have e := ((Dn.one.scale m).sub (show Dn (1 * m) M r0 by rw [Nat.one_mul]; exact d0))
    rw [Nat.one_mul] at e
    have e2 : cf [1] 0 + cf [-r0, -r1] 0 = 1 - r0 := by show (1 : Rat) + -r0 = _; grind
    rw [e2]; exact e
  | 1 =>
    have e := z0.sub d1
    have e2 : cf [1] 1 + cf [-r0, -r1] 1 = 0 - r1 := by show (0 : Rat) + -r1 = _; grind
    rw [e2]; exact e.le (by omega)
  | i + 2 =>
    have e2 : cf [1] (i + 2) + cf [-r0, -r1] (i + 2) = 0 := by show (0 : Rat) + 0 = _; grind
    rw [e2]; exact z0.le (Nat.zero_le _)
theorem fr2_dn {m M : Nat} {r0 r1 : Rat} (d0 : Dn m M r0) (d1 : Dn m M r1) (i : Nat) : Dn m (m + M) (cf [r0, r1] i) := by
  have z0 : Dn m 0 (0 : Rat) := Dn.zero _
  match i with
  | 0 => exact d0.le (by omega)
  | 1 => exact d1.le (by omega)
  | i + 2 => exact z0.le (Nat.zero_le _)
theorem lin_dn {p : List Rat} {m M m0 M0 n : Nat} {r0 r1 : Rat} (d0 : Dn m M r0) (d1 : Dn m M r1) (hp : ∀ i, Dn m0 M0 (cf p i)) (hn : p.length = n + 1) (i : Nat) : Dn (m ^ n * m0) ((4 * (m + M)) ^ n * M0) (cf (lin (up p) r0 r1) i) := by
  rw [← ptl_end hn]
  refine ptl_dn ?_ (Nat.le_refl _) (fr_dn d0 d1) (fr2_dn d0 d1) hp n 0 i
  have h := trim_len (padd [1] [-r0, -r1])
  rw [padd_len] at h
  exact h
theorem found_bd {p : List Rat} {lo hi : Rat} (ok : OkI lo hi) (hp : ∀ i, Dn 840 5880 (cf p i)) (h1 : 1 ≤ p.length) (h6 : p.length ≤ 6) : ∀ c ∈ lin (up p) (-lo / (hi - lo)) (1 / (hi - lo)), Bd 130 c := by
  obtain ⟨n, hn⟩ : ∃ n, p.length = n + 1 := ⟨p.length - 1, by omega⟩
  have s : ∀ n, n < 6 → 50400 ^ n * 840 < 2 ^ 130 ∧ (4 * (50400 + 1764000)) ^ n * 5880 < 2 ^ 130 := by decide +kernel
  obtain ⟨a, b⟩ := s n (by omega)
  exact dn_list (lin_dn ok.dr ok.dw hp hn) (Nat.mul_pos (Nat.pow_pos (by decide)) (by decide)) a b
theorem sz160 : ∀ j, j < 7 → 50400 ^ j * 840 < 2 ^ 160 ∧ (4 * (50400 + 1764000)) ^ j * 5880 < 2 ^ 160 := by decide +kernel
theorem sz290 : ∀ j, j < 8 → 50400 ^ j * (840 * 4200 ^ 6 * 840) < 2 ^ 290 ∧ (4 * (50400 + 1764000)) ^ j * (5 * (5880 * 58800 ^ 6 * 840)) < 2 ^ 290 := by decide +kernel
end Bc
namespace Bc
open PySem PySem.Spec PyProof.Rows L2 HT RZ RT
/-! defs with defaults -/
section
variable {P : Program} {w : World} {K : PySem.W.Frag} {mg : Str → Option Value} {base : Heap}
theorem fund_ok {x qual : Str} {st : Stmt} {dvs : List V} {kws : List (Str × V)} {f : Addr} {fd : FuncData} {N ps : List Str} {k : Nat} {sp : Sp} (F : FunD K x qual (defArgs st) (defBody st) (defScope st) dvs kws f fd) (S : FnScope N ps (defScope st)) (len : ∀ vs H Q E, sp vs H Q E → vs.length = ps.length)
    (hbody : ∀ (cdv : Value) (A : Around) (outer : List Env) (s : Shared) (H : Hp) (vs : List V) (Q : VK) (E : XK), Room k (A.deeper (envOfC qual (defScope st) s.heap.objs.size f cdv)) → sp vs H Q E →
      ∃ t, PSs (cxOf CX0 P w K mg base N qual (defScope st) f cdv A outer s H E).nox (defBody st) t ∧ t { nx := fun _ H' => Q .non H', rt := Q } (start N vs) H) : FnOk P w K mg base CX0 (k + 1) f fd ps sp := by
  refine F.ok S len fun cdv A outer s H vs Q E hr hsp => ?_
  obtain ⟨t, h, q⟩ := hbody cdv A outer s H vs Q E hr hsp
  exact ⟨t, h.nox, q⟩
theorem fund_mk {x qual : Str} {st : Stmt} {f : Addr} {oc : Value} {od an : Option Addr} {osl : Array (Option Value)} {kV doc pm cdv ct : Value} {Td : Addr} {oy : Value} {dy : Option Addr} {its : List Value} {ny : Nat} {sy : Array (Option Value)} {dvs : List V}
    (l : K.lookup f = some ⟨oc, od, .func (PySem.W.fnOf x qual (defArgs st) (defBody st) (defScope st) (.ref Td) kV doc pm an cdv ct), osl⟩) (c : PySem.W.codeIn K cdv qual = true) (k : PySem.W.keepIn K (.ref f) = true)
    (y : K.lookup Td = some ⟨oy, dy, .seq its.toArray ny, sy⟩) (hv : Vals dvs its) (hd : dvs ≠ []) : FunD K x qual (defArgs st) (defBody st) (defScope st) dvs [] f (PySem.W.fnOf x qual (defArgs st) (defBody st) (defScope st) (.ref Td) kV doc pm an cdv ct) :=
  ⟨⟨oc, od, .ref Td, kV, doc, pm, an, cdv, ct, osl, rfl, l, c, .inr ⟨hd, Td, _, its, ny, rfl, y, rfl, hv⟩, .inl rfl⟩, k⟩
end
end Bc
namespace Bc
open PySem PySem.Spec PyProof.Rows L2 RZ RT
def topS (i : Nat) : Stmt := PySem.Challenge.pw_blendcurves_k11_whole_control_rows.main.body.getD i (.Pass ⟨0, 0, 0, 0⟩)
abbrev s_is_whole : Stmt := topS 11
abbrev N_is_whole : List Str := ["value"]
abbrev P_is_whole : List Str := ["value"]
theorem sc_is_whole : FnScope N_is_whole P_is_whole (defScope s_is_whole) := ⟨rfl, rfl, rfl, by decide +kernel, rfl, by decide +kernel, by decide +kernel⟩
abbrev s_is_ratio : Stmt := topS 12
abbrev N_is_ratio : List Str := ["value"]
abbrev P_is_ratio : List Str := ["value"]
theorem sc_is_ratio : FnScope N_is_ratio P_is_ratio (defScope s_is_ratio) := ⟨rfl, rfl, rfl, by decide +kernel, rfl, by decide +kernel, by decide +kernel⟩
abbrev s_lowest : Stmt := topS 13
abbrev N_lowest : List Str := ["top", "low", "shared"]
abbrev P_lowest : List Str := ["top", "low"]
theorem sc_lowest : FnScope N_lowest P_lowest (defScope s_lowest) := ⟨rfl, rfl, rfl, by decide +kernel, rfl, by decide +kernel, by decide +kernel⟩
abbrev s_opposite : Stmt := topS 14
abbrev N_opposite : List Str := ["number"]
abbrev P_opposite : List Str := ["number"]
theorem sc_opposite : FnScope N_opposite P_opposite (defScope s_opposite) := ⟨rfl, rfl, rfl, by decide +kernel, rfl, by decide +kernel, by decide +kernel⟩
abbrev s_plus : Stmt := topS 15
abbrev N_plus : List Str := ["one", "other"]
abbrev P_plus : List Str := ["one", "other"]
theorem sc_plus : FnScope N_plus P_plus (defScope s_plus) := ⟨rfl, rfl, rfl, by decide +kernel, rfl, by decide +kernel, by decide +kernel⟩
abbrev s_minus : Stmt := topS 16
abbrev N_minus : List Str := ["one", "other"]
abbrev P_minus : List Str := ["one", "other"]
theorem sc_minus : FnScope N_minus P_minus (defScope s_minus) := ⟨rfl, rfl, rfl, by decide +kernel, rfl, by decide +kernel, by decide +kernel⟩
abbrev s_times : Stmt := topS 17
abbrev N_times : List Str := ["one", "other"]
abbrev P_times : List Str := ["one", "other"]
theorem sc_times : FnScope N_times P_times (defScope s_times) := ⟨rfl, rfl, rfl, by decide +kernel, rfl, by decide +kernel, by decide +kernel⟩
abbrev s_over : Stmt := topS 18
abbrev N_over : List Str := ["one", "other"]
abbrev P_over : List Str := ["one", "other"]
theorem sc_over : FnScope N_over P_over (defScope s_over) := ⟨rfl, rfl, rfl, by decide +kernel, rfl, by decide +kernel, by decide +kernel⟩
abbrev s_is_below : Stmt := topS 19
abbrev N_is_below : List Str := ["one", "other"]
abbrev P_is_below : List Str := ["one", "other"]
theorem sc_is_below : FnScope N_is_below P_is_below (defScope s_is_below) := ⟨rfl, rfl, rfl, by decide +kernel, rfl, by decide +kernel, by decide +kernel⟩
abbrev s_total_of : Stmt := topS 20
abbrev N_total_of : List Str := ["numbers", "total", "number"]
abbrev P_total_of : List Str := ["numbers"]
theorem sc_total_of : FnScope N_total_of P_total_of (defScope s_total_of) := ⟨rfl, rfl, rfl, by decide +kernel, rfl, by decide +kernel, by decide +kernel⟩
abbrev s_are_ratios : Stmt := topS 24
abbrev N_are_ratios : List Str := ["value", "many", "item"]
abbrev P_are_ratios : List Str := ["value", "many"]
theorem sc_are_ratios : FnScope N_are_ratios P_are_ratios (defScope s_are_ratios) := ⟨rfl, rfl, rfl, by decide +kernel, rfl, by decide +kernel, by decide +kernel⟩
abbrev s_is_interval : Stmt := topS 25
abbrev N_is_interval : List Str := ["value"]
abbrev P_is_interval : List Str := ["value"]
theorem sc_is_interval : FnScope N_is_interval P_is_interval (defScope s_is_interval) := ⟨rfl, rfl, rfl, by decide +kernel, rfl, by decide +kernel, by decide +kernel⟩
abbrev s_has_length : Stmt := topS 26
abbrev N_has_length : List Str := ["value", "least", "most"]
abbrev P_has_length : List Str := ["value", "least", "most"]
theorem sc_has_length : FnScope N_has_length P_has_length (defScope s_has_length) := ⟨rfl, rfl, rfl, by decide +kernel, rfl, by decide +kernel, by decide +kernel⟩
abbrev s_is_polynomial : Stmt := topS 27
abbrev N_is_polynomial : List Str := ["value"]
abbrev P_is_polynomial : List Str := ["value"]
theorem sc_is_polynomial : FnScope N_is_polynomial P_is_polynomial (defScope s_is_polynomial) := ⟨rfl, rfl, rfl, by decide +kernel, rfl, by decide +kernel, by decide +kernel⟩
abbrev s_is_integer : Stmt := topS 28
abbrev N_is_integer : List Str := ["value", "least", "most"]
abbrev P_is_integer : List Str := ["value", "least", "most"]
theorem sc_is_integer : FnScope N_is_integer P_is_integer (defScope s_is_integer) := ⟨rfl, rfl, rfl, by decide +kernel, rfl, by decide +kernel, by decide +kernel⟩
abbrev s_check_polynomial : Stmt := topS 29
abbrev N_check_polynomial : List Str := ["value"]
abbrev P_check_polynomial : List Str := ["value"]
theorem sc_check_polynomial : FnScope N_check_polynomial P_check_polynomial (defScope s_check_polynomial) := ⟨rfl, rfl, rfl, by decide +kernel, rfl, by decide +kernel, by decide +kernel⟩
abbrev s_check_degree : Stmt := topS 30
abbrev N_check_degree : List Str := ["value", "least", "most"]
abbrev P_check_degree : List Str := ["value", "least", "most"]
theorem sc_check_degree : FnScope N_check_degree P_check_degree (defScope s_check_degree) := ⟨rfl, rfl, rfl, by decide +kernel, rfl, by decide +kernel, by decide +kernel⟩
abbrev s_check_degree_of : Stmt := topS 31
abbrev N_check_degree_of : List Str := ["poly", "value", "most"]
abbrev P_check_degree_of : List Str := ["poly", "value", "most"]
theorem sc_check_degree_of : FnScope N_check_degree_of P_check_degree_of (defScope s_check_degree_of) := ⟨rfl, rfl, rfl, by decide +kernel, rfl, by decide +kernel, by decide +kernel⟩
abbrev s_check_places : Stmt := topS 32
abbrev N_check_places : List Str := ["value", "many"]
abbrev P_check_places : List Str := ["value", "many"]
theorem sc_check_places : FnScope N_check_places P_check_places (defScope s_check_places) := ⟨rfl, rfl, rfl, by decide +kernel, rfl, by decide +kernel, by decide +kernel⟩
abbrev s_check_row : Stmt := topS 33
abbrev N_check_row : List Str := ["value", "most", "at", "item"]
abbrev P_check_row : List Str := ["value", "most"]
theorem sc_check_row : FnScope N_check_row P_check_row (defScope s_check_row) := ⟨rfl, rfl, rfl, by decide +kernel, rfl, by decide +kernel, by decide +kernel⟩
abbrev s_check_interval : Stmt := topS 34
abbrev N_check_interval : List Str := ["value"]
abbrev P_check_interval : List Str := ["value"]
theorem sc_check_interval : FnScope N_check_interval P_check_interval (defScope s_check_interval) := ⟨rfl, rfl, rfl, by decide +kernel, rfl, by decide +kernel, by decide +kernel⟩
abbrev s_blossom : Stmt := topS 36
abbrev N_blossom : List Str := ["poly", "degree", "places"]
abbrev P_blossom : List Str := ["poly", "degree", "places"]
theorem sc_blossom : FnScope N_blossom P_blossom (defScope s_blossom) := ⟨rfl, rfl, rfl, by decide +kernel, rfl, by decide +kernel, by decide +kernel⟩
abbrev s_blossom_at : Stmt := topS 37
abbrev N_blossom_at : List Str := ["poly", "places", "products", "means", "many", "item", "number", "mean"]
abbrev P_blossom_at : List Str := ["poly", "places"]
theorem sc_blossom_at : FnScope N_blossom_at P_blossom_at (defScope s_blossom_at) := ⟨rfl, rfl, rfl, by decide +kernel, rfl, by decide +kernel, by decide +kernel⟩
abbrev s_place_products : Stmt := topS 38
abbrev N_place_products : List Str := ["places", "sums", "place", "longer", "item", "one", "other"]
abbrev P_place_products : List Str := ["places"]
theorem sc_place_products : FnScope N_place_products P_place_products (defScope s_place_products) := ⟨rfl, rfl, rfl, by decide +kernel, rfl, by decide +kernel, by decide +kernel⟩
abbrev s_trimmed : Stmt := topS 40
abbrev N_trimmed : List Str := ["numbers", "many"]
abbrev P_trimmed : List Str := ["numbers"]
theorem sc_trimmed : FnScope N_trimmed P_trimmed (defScope s_trimmed) := ⟨rfl, rfl, rfl, by decide +kernel, rfl, by decide +kernel, by decide +kernel⟩
abbrev s_sum_of : Stmt := topS 41
abbrev N_sum_of : List Str := ["one", "other", "numbers", "at", "number"]
abbrev P_sum_of : List Str := ["one", "other"]
theorem sc_sum_of : FnScope N_sum_of P_sum_of (defScope s_sum_of) := ⟨rfl, rfl, rfl, by decide +kernel, rfl, by decide +kernel, by decide +kernel⟩
abbrev s_product_of : Stmt := topS 42
abbrev N_product_of : List Str := ["one", "other", "numbers", "at", "number", "after", "factor"]
abbrev P_product_of : List Str := ["one", "other"]
theorem sc_product_of : FnScope N_product_of P_product_of (defScope s_product_of) := ⟨rfl, rfl, rfl, by decide +kernel, rfl, by decide +kernel, by decide +kernel⟩
abbrev s_row_of : Stmt := topS 44
abbrev N_row_of : List Str := ["poly", "degree", "interval"]
abbrev P_row_of : List Str := ["poly", "degree", "interval"]
theorem sc_row_of : FnScope N_row_of P_row_of (defScope s_row_of) := ⟨rfl, rfl, rfl, by decide +kernel, rfl, by decide +kernel, by decide +kernel⟩
abbrev s_poly_of : Stmt := topS 45
abbrev N_poly_of : List Str := ["row", "interval", "low", "high", "wide", "rising"]
abbrev P_poly_of : List Str := ["row", "interval"]
theorem sc_poly_of : FnScope N_poly_of P_poly_of (defScope s_poly_of) := ⟨rfl, rfl, rfl, by decide +kernel, rfl, by decide +kernel, by decide +kernel⟩
abbrev s_row_telling : Stmt := topS 46
abbrev N_row_telling : List Str := ["poly", "degree", "interval", "low", "high", "at"]
abbrev P_row_telling : List Str := ["poly", "degree", "interval"]
theorem sc_row_telling : FnScope N_row_telling P_row_telling (defScope s_row_telling) := ⟨rfl, rfl, rfl, by decide +kernel, rfl, by decide +kernel, by decide +kernel⟩
abbrev s_poly_told : Stmt := topS 47
abbrev N_poly_told : List Str := ["row", "rising", "falling", "step", "number", "one", "after"]
abbrev P_poly_told : List Str := ["row", "rising"]
theorem sc_poly_told : FnScope N_poly_told P_poly_told (defScope s_poly_told) := ⟨rfl, rfl, rfl, by decide +kernel, rfl, by decide +kernel, by decide +kernel⟩
abbrev s_law_taken : Stmt := topS 49
abbrev N_law_taken : List Str := ["row", "many", "found", "cell"]
abbrev P_law_taken : List Str := ["row", "many"]
theorem sc_law_taken : FnScope N_law_taken P_law_taken (defScope s_law_taken) := ⟨rfl, rfl, rfl, by decide +kernel, rfl, by decide +kernel, by decide +kernel⟩
abbrev s_law_pick : Stmt := topS 50
abbrev N_law_pick : List Str := ["row", "things"]
abbrev P_law_pick : List Str := ["row", "things"]
theorem sc_law_pick : FnScope N_law_pick P_law_pick (defScope s_law_pick) := ⟨rfl, rfl, rfl, by decide +kernel, rfl, by decide +kernel, by decide +kernel⟩
abbrev s_law_alike : Stmt := topS 51
abbrev N_law_alike : List Str := ["found", "due", "k"]
abbrev P_law_alike : List Str := ["found", "due"]
theorem sc_law_alike : FnScope N_law_alike P_law_alike (defScope s_law_alike) := ⟨rfl, rfl, rfl, by decide +kernel, rfl, by decide +kernel, by decide +kernel⟩
abbrev s_law_made : Stmt := topS 52
abbrev N_law_made : List Str := ["top", "low", "one", "other", "turn"]
abbrev P_law_made : List Str := ["top", "low"]
theorem sc_law_made : FnScope N_law_made P_law_made (defScope s_law_made) := ⟨rfl, rfl, rfl, by decide +kernel, rfl, by decide +kernel, by decide +kernel⟩
abbrev s_law_plus : Stmt := topS 53
abbrev N_law_plus : List Str := ["one", "other"]
abbrev P_law_plus : List Str := ["one", "other"]
theorem sc_law_plus : FnScope N_law_plus P_law_plus (defScope s_law_plus) := ⟨rfl, rfl, rfl, by decide +kernel, rfl, by decide +kernel, by decide +kernel⟩
abbrev s_law_minus : Stmt := topS 54
abbrev N_law_minus : List Str := ["one", "other"]
abbrev P_law_minus : List Str := ["one", "other"]
theorem sc_law_minus : FnScope N_law_minus P_law_minus (defScope s_law_minus) := ⟨rfl, rfl, rfl, by decide +kernel, rfl, by decide +kernel, by decide +kernel⟩
abbrev s_law_times : Stmt := topS 55
abbrev N_law_times : List Str := ["one", "other"]
abbrev P_law_times : List Str := ["one", "other"]
theorem sc_law_times : FnScope N_law_times P_law_times (defScope s_law_times) := ⟨rfl, rfl, rfl, by decide +kernel, rfl, by decide +kernel, by decide +kernel⟩
abbrev s_law_over : Stmt := topS 56
abbrev N_law_over : List Str := ["one", "other"]
abbrev P_law_over : List Str := ["one", "other"]
theorem sc_law_over : FnScope N_law_over P_law_over (defScope s_law_over) := ⟨rfl, rfl, rfl, by decide +kernel, rfl, by decide +kernel, by decide +kernel⟩
abbrev s_law_draw : Stmt := topS 57
abbrev N_law_draw : List Str := ["row", "low"]
abbrev P_law_draw : List Str := ["row"]
theorem sc_law_draw : FnScope N_law_draw P_law_draw (defScope s_law_draw) := ⟨rfl, rfl, rfl, by decide +kernel, rfl, by decide +kernel, by decide +kernel⟩
abbrev s_law_trim : Stmt := topS 58
abbrev N_law_trim : List Str := ["some", "found", "turn"]
abbrev P_law_trim : List Str := ["some"]
theorem sc_law_trim : FnScope N_law_trim P_law_trim (defScope s_law_trim) := ⟨rfl, rfl, rfl, by decide +kernel, rfl, by decide +kernel, by decide +kernel⟩
abbrev s_law_poly : Stmt := topS 59
abbrev N_law_poly : List Str := ["row", "most", "at"]
abbrev P_law_poly : List Str := ["row", "most"]
theorem sc_law_poly : FnScope N_law_poly P_law_poly (defScope s_law_poly) := ⟨rfl, rfl, rfl, by decide +kernel, rfl, by decide +kernel, by decide +kernel⟩
abbrev s_law_at : Stmt := topS 60
abbrev N_law_at : List Str := ["poly", "x", "found", "one"]
abbrev P_law_at : List Str := ["poly", "x"]
theorem sc_law_at : FnScope N_law_at P_law_at (defScope s_law_at) := ⟨rfl, rfl, rfl, by decide +kernel, rfl, by decide +kernel, by decide +kernel⟩
abbrev s_law_p_plus : Stmt := topS 61
abbrev N_law_p_plus : List Str := ["one", "other", "size", "first", "second", "x", "y"]
abbrev P_law_p_plus : List Str := ["one", "other"]
theorem sc_law_p_plus : FnScope N_law_p_plus P_law_p_plus (defScope s_law_p_plus) := ⟨rfl, rfl, rfl, by decide +kernel, rfl, by decide +kernel, by decide +kernel⟩
abbrev s_law_p_times : Stmt := topS 62
abbrev N_law_p_times : List Str := ["one", "other", "found", "i", "j"]
abbrev P_law_p_times : List Str := ["one", "other"]
theorem sc_law_p_times : FnScope N_law_p_times P_law_p_times (defScope s_law_p_times) := ⟨rfl, rfl, rfl, by decide +kernel, rfl, by decide +kernel, by decide +kernel⟩
abbrev s_law_scaled : Stmt := topS 63
abbrev N_law_scaled : List Str := ["poly", "number", "one"]
abbrev P_law_scaled : List Str := ["poly", "number"]
theorem sc_law_scaled : FnScope N_law_scaled P_law_scaled (defScope s_law_scaled) := ⟨rfl, rfl, rfl, by decide +kernel, rfl, by decide +kernel, by decide +kernel⟩
abbrev s_law_choose : Stmt := topS 64
abbrev N_law_choose : List Str := ["many", "few", "found", "turn"]
abbrev P_law_choose : List Str := ["many", "few"]
theorem sc_law_choose : FnScope N_law_choose P_law_choose (defScope s_law_choose) := ⟨rfl, rfl, rfl, by decide +kernel, rfl, by decide +kernel, by decide +kernel⟩
abbrev s_law_row : Stmt := topS 65
abbrev N_law_row : List Str := ["row", "most", "at"]
abbrev P_law_row : List Str := ["row", "most"]
theorem sc_law_row : FnScope N_law_row P_law_row (defScope s_law_row) := ⟨rfl, rfl, rfl, by decide +kernel, rfl, by decide +kernel, by decide +kernel⟩
abbrev s_law_interval : Stmt := topS 66
abbrev N_law_interval : List Str := ["row", "low"]
abbrev P_law_interval : List Str := ["row"]
theorem sc_law_interval : FnScope N_law_interval P_law_interval (defScope s_law_interval) := ⟨rfl, rfl, rfl, by decide +kernel, rfl, by decide +kernel, by decide +kernel⟩
abbrev s_law_unit_poly : Stmt := topS 67
abbrev N_law_unit_poly : List Str := ["some", "degree", "found", "at", "part", "turn"]
abbrev P_law_unit_poly : List Str := ["some"]
theorem sc_law_unit_poly : FnScope N_law_unit_poly P_law_unit_poly (defScope s_law_unit_poly) := ⟨rfl, rfl, rfl, by decide +kernel, rfl, by decide +kernel, by decide +kernel⟩
abbrev s_law_moved : Stmt := topS 68
abbrev N_law_moved : List Str := ["poly", "start", "factor", "found", "power", "number"]
abbrev P_law_moved : List Str := ["poly", "start", "factor"]
theorem sc_law_moved : FnScope N_law_moved P_law_moved (defScope s_law_moved) := ⟨rfl, rfl, rfl, by decide +kernel, rfl, by decide +kernel, by decide +kernel⟩
abbrev s_law_row_poly : Stmt := topS 69
abbrev N_law_row_poly : List Str := ["some", "interval", "wide", "back"]
abbrev P_law_row_poly : List Str := ["some", "interval"]
theorem sc_law_row_poly : FnScope N_law_row_poly P_law_row_poly (defScope s_law_row_poly) := ⟨rfl, rfl, rfl, by decide +kernel, rfl, by decide +kernel, by decide +kernel⟩
abbrev s_law : Stmt := topS 70
abbrev N_law : List Str := ["script", "row", "some", "interval", "found", "degree", "at", "places", "poly", "told"]
abbrev P_law : List Str := ["script"]
theorem sc_law : FnScope N_law P_law (defScope s_law) := ⟨rfl, rfl, rfl, by decide +kernel, rfl, by decide +kernel, by decide +kernel⟩
structure Txt (K : PySem.W.Frag) (mg : Str → Option Value) where
  f_is_whole : Addr
  d_is_whole : FuncData
  F_is_whole : Fun K "is_whole" "is_whole" s_is_whole f_is_whole d_is_whole
  g_is_whole : mg "is_whole" = some (.ref f_is_whole)
  f_is_ratio : Addr
  d_is_ratio : FuncData
  F_is_ratio : Fun K "is_ratio" "is_ratio" s_is_ratio f_is_ratio d_is_ratio
  g_is_ratio : mg "is_ratio" = some (.ref f_is_ratio)
  f_lowest : Addr
  d_lowest : FuncData
  F_lowest : Fun K "lowest" "lowest" s_lowest f_lowest d_lowest
  g_lowest : mg "lowest" = some (.ref f_lowest)
  f_opposite : Addr
  d_opposite : FuncData
  F_opposite : Fun K "opposite" "opposite" s_opposite f_opposite d_opposite
  g_opposite : mg "opposite" = some (.ref f_opposite)
  f_plus : Addr
  d_plus : FuncData
  F_plus : Fun K "plus" "plus" s_plus f_plus d_plus
  g_plus : mg "plus" = some (.ref f_plus)
  f_minus : Addr
  d_minus : FuncData
  F_minus : Fun K "minus" "minus" s_minus f_minus d_minus
  g_minus : mg "minus" = some (.ref f_minus)
  f_times : Addr
  d_times : FuncData
  F_times : Fun K "times" "times" s_times f_times d_times
  g_times : mg "times" = some (.ref f_times)
  f_over : Addr
  d_over : FuncData
  F_over : Fun K "over" "over" s_over f_over d_over
  g_over : mg "over" = some (.ref f_over)
  f_is_below : Addr
  d_is_below : FuncData
  F_is_below : Fun K "is_below" "is_below" s_is_below f_is_below d_is_below
  g_is_below : mg "is_below" = some (.ref f_is_below)
  f_total_of : Addr
  d_total_of : FuncData
  F_total_of : Fun K "total_of" "total_of" s_total_of f_total_of d_total_of
  g_total_of : mg "total_of" = some (.ref f_total_of)
  f_are_ratios : Addr
  d_are_ratios : FuncData
  F_are_ratios : Fun K "are_ratios" "are_ratios" s_are_ratios f_are_ratios d_are_ratios
  g_are_ratios : mg "are_ratios" = some (.ref f_are_ratios)
  f_is_interval : Addr
  d_is_interval : FuncData
  F_is_interval : Fun K "is_interval" "is_interval" s_is_interval f_is_interval d_is_interval
  g_is_interval : mg "is_interval" = some (.ref f_is_interval)
  f_has_length : Addr
  d_has_length : FuncData
  F_has_length : Fun K "has_length" "has_length" s_has_length f_has_length d_has_length
  g_has_length : mg "has_length" = some (.ref f_has_length)
  f_is_polynomial : Addr
  d_is_polynomial : FuncData
  F_is_polynomial : Fun K "is_polynomial" "is_polynomial" s_is_polynomial f_is_polynomial d_is_polynomial
  g_is_polynomial : mg "is_polynomial" = some (.ref f_is_polynomial)
  f_is_integer : Addr
  d_is_integer : FuncData
  F_is_integer : Fun K "is_integer" "is_integer" s_is_integer f_is_integer d_is_integer
  g_is_integer : mg "is_integer" = some (.ref f_is_integer)
  f_check_polynomial : Addr
  d_check_polynomial : FuncData
  F_check_polynomial : Fun K "check_polynomial" "check_polynomial" s_check_polynomial f_check_polynomial d_check_polynomial
  g_check_polynomial : mg "check_polynomial" = some (.ref f_check_polynomial)
  f_check_degree : Addr
  d_check_degree : FuncData
  F_check_degree : Fun K "check_degree" "check_degree" s_check_degree f_check_degree d_check_degree
  g_check_degree : mg "check_degree" = some (.ref f_check_degree)
  f_check_degree_of : Addr
  d_check_degree_of : FuncData
  F_check_degree_of : Fun K "check_degree_of" "check_degree_of" s_check_degree_of f_check_degree_of d_check_degree_of
  g_check_degree_of : mg "check_degree_of" = some (.ref f_check_degree_of)
  f_check_places : Addr
  d_check_places : FuncData
  F_check_places : Fun K "check_places" "check_places" s_check_places f_check_places d_check_places
  g_check_places : mg "check_places" = some (.ref f_check_places)
  f_check_row : Addr
  d_check_row : FuncData
  F_check_row : FunD K "check_row" "check_row" (defArgs s_check_row) (defBody s_check_row) (defScope s_check_row) [.int 8] [] f_check_row d_check_row
  g_check_row : mg "check_row" = some (.ref f_check_row)
  f_check_interval : Addr
  d_check_interval : FuncData
  F_check_interval : Fun K "check_interval" "check_interval" s_check_interval f_check_interval d_check_interval
  g_check_interval : mg "check_interval" = some (.ref f_check_interval)
  f_blossom : Addr
  d_blossom : FuncData
  F_blossom : Fun K "blossom" "blossom" s_blossom f_blossom d_blossom
  g_blossom : mg "blossom" = some (.ref f_blossom)
  f_blossom_at : Addr
  d_blossom_at : FuncData
  F_blossom_at : Fun K "blossom_at" "blossom_at" s_blossom_at f_blossom_at d_blossom_at
  g_blossom_at : mg "blossom_at" = some (.ref f_blossom_at)
  f_place_products : Addr
  d_place_products : FuncData
  F_place_products : Fun K "place_products" "place_products" s_place_products f_place_products d_place_products
  g_place_products : mg "place_products" = some (.ref f_place_products)
  f_trimmed : Addr
  d_trimmed : FuncData
  F_trimmed : Fun K "trimmed" "trimmed" s_trimmed f_trimmed d_trimmed
  g_trimmed : mg "trimmed" = some (.ref f_trimmed)
  f_sum_of : Addr
  d_sum_of : FuncData
  F_sum_of : Fun K "sum_of" "sum_of" s_sum_of f_sum_of d_sum_of
  g_sum_of : mg "sum_of" = some (.ref f_sum_of)
  f_product_of : Addr
  d_product_of : FuncData
  F_product_of : Fun K "product_of" "product_of" s_product_of f_product_of d_product_of
  g_product_of : mg "product_of" = some (.ref f_product_of)
  f_row_of : Addr
  d_row_of : FuncData
  F_row_of : Fun K "row_of" "row_of" s_row_of f_row_of d_row_of
  g_row_of : mg "row_of" = some (.ref f_row_of)
  f_poly_of : Addr
  d_poly_of : FuncData
  F_poly_of : Fun K "poly_of" "poly_of" s_poly_of f_poly_of d_poly_of
  g_poly_of : mg "poly_of" = some (.ref f_poly_of)
  f_row_telling : Addr
  d_row_telling : FuncData
  F_row_telling : Fun K "row_telling" "row_telling" s_row_telling f_row_telling d_row_telling
  g_row_telling : mg "row_telling" = some (.ref f_row_telling)
  f_poly_told : Addr
  d_poly_told : FuncData
  F_poly_told : Fun K "poly_told" "poly_told" s_poly_told f_poly_told d_poly_told
  g_poly_told : mg "poly_told" = some (.ref f_poly_told)
  f__law_taken : Addr
  d__law_taken : FuncData
  F__law_taken : Fun K "_law_taken" "_law_taken" s_law_taken f__law_taken d__law_taken
  g__law_taken : mg "_law_taken" = some (.ref f__law_taken)
  f__law_pick : Addr
  d__law_pick : FuncData
  F__law_pick : Fun K "_law_pick" "_law_pick" s_law_pick f__law_pick d__law_pick
  g__law_pick : mg "_law_pick" = some (.ref f__law_pick)
  f__law_alike : Addr
  d__law_alike : FuncData
  F__law_alike : Fun K "_law_alike" "_law_alike" s_law_alike f__law_alike d__law_alike
  g__law_alike : mg "_law_alike" = some (.ref f__law_alike)
  f__law_made : Addr
  d__law_made : FuncData
  F__law_made : Fun K "_law_made" "_law_made" s_law_made f__law_made d__law_made
  g__law_made : mg "_law_made" = some (.ref f__law_made)
  f__law_plus : Addr
  d__law_plus : FuncData
  F__law_plus : Fun K "_law_plus" "_law_plus" s_law_plus f__law_plus d__law_plus
  g__law_plus : mg "_law_plus" = some (.ref f__law_plus)
  f__law_minus : Addr
  d__law_minus : FuncData
  F__law_minus : Fun K "_law_minus" "_law_minus" s_law_minus f__law_minus d__law_minus
  g__law_minus : mg "_law_minus" = some (.ref f__law_minus)
  f__law_times : Addr
  d__law_times : FuncData
  F__law_times : Fun K "_law_times" "_law_times" s_law_times f__law_times d__law_times
  g__law_times : mg "_law_times" = some (.ref f__law_times)
  f__law_over : Addr
  d__law_over : FuncData
  F__law_over : Fun K "_law_over" "_law_over" s_law_over f__law_over d__law_over
  g__law_over : mg "_law_over" = some (.ref f__law_over)
  f__law_draw : Addr
  d__law_draw : FuncData
  F__law_draw : Fun K "_law_draw" "_law_draw" s_law_draw f__law_draw d__law_draw
  g__law_draw : mg "_law_draw" = some (.ref f__law_draw)
  f__law_trim : Addr
  d__law_trim : FuncData
  F__law_trim : Fun K "_law_trim" "_law_trim" s_law_trim f__law_trim d__law_trim
  g__law_trim : mg "_law_trim" = some (.ref f__law_trim)
  f__law_poly : Addr
  d__law_poly : FuncData
  F__law_poly : Fun K "_law_poly" "_law_poly" s_law_poly f__law_poly d__law_poly
  g__law_poly : mg "_law_poly" = some (.ref f__law_poly)
  f__law_at : Addr
  d__law_at : FuncData
  F__law_at : Fun K "_law_at" "_law_at" s_law_at f__law_at d__law_at
  g__law_at : mg "_law_at" = some (.ref f__law_at)
  f__law_p_plus : Addr
  d__law_p_plus : FuncData
  F__law_p_plus : Fun K "_law_p_plus" "_law_p_plus" s_law_p_plus f__law_p_plus d__law_p_plus
  g__law_p_plus : mg "_law_p_plus" = some (.ref f__law_p_plus)
  f__law_p_times : Addr
  d__law_p_times : FuncData
  F__law_p_times : Fun K "_law_p_times" "_law_p_times" s_law_p_times f__law_p_times d__law_p_times
  g__law_p_times : mg "_law_p_times" = some (.ref f__law_p_times)
  f__law_scaled : Addr
  d__law_scaled : FuncData
  F__law_scaled : Fun K "_law_scaled" "_law_scaled" s_law_scaled f__law_scaled d__law_scaled
  g__law_scaled : mg "_law_scaled" = some (.ref f__law_scaled)
  f__law_choose : Addr
  d__law_choose : FuncData
  F__law_choose : Fun K "_law_choose" "_law_choose" s_law_choose f__law_choose d__law_choose
  g__law_choose : mg "_law_choose" = some (.ref f__law_choose)
  f__law_row : Addr
  d__law_row : FuncData
  F__law_row : Fun K "_law_row" "_law_row" s_law_row f__law_row d__law_row
  g__law_row : mg "_law_row" = some (.ref f__law_row)
  f__law_interval : Addr
  d__law_interval : FuncData
  F__law_interval : Fun K "_law_interval" "_law_interval" s_law_interval f__law_interval d__law_interval
  g__law_interval : mg "_law_interval" = some (.ref f__law_interval)
  f__law_unit_poly : Addr
  d__law_unit_poly : FuncData
  F__law_unit_poly : Fun K "_law_unit_poly" "_law_unit_poly" s_law_unit_poly f__law_unit_poly d__law_unit_poly
  g__law_unit_poly : mg "_law_unit_poly" = some (.ref f__law_unit_poly)
  f__law_moved : Addr
  d__law_moved : FuncData
  F__law_moved : Fun K "_law_moved" "_law_moved" s_law_moved f__law_moved d__law_moved
  g__law_moved : mg "_law_moved" = some (.ref f__law_moved)
  f__law_row_poly : Addr
  d__law_row_poly : FuncData
  F__law_row_poly : Fun K "_law_row_poly" "_law_row_poly" s_law_row_poly f__law_row_poly d__law_row_poly
  g__law_row_poly : mg "_law_row_poly" = some (.ref f__law_row_poly)
  f_law : Addr
  d_law : FuncData
  F_law : Fun K "law" "law" s_law f_law d_law
  g_law : mg "law" = some (.ref f_law)
  a_ZERO : Addr
  g_ZERO : mg "ZERO" = some (.ref a_ZERO)
  k_ZERO : ∀ H : Hp, SqT K H a_ZERO [.int (0), .int (1)]
  a_ONE : Addr
  g_ONE : mg "ONE" = some (.ref a_ONE)
  k_ONE : ∀ H : Hp, SqT K H a_ONE [.int (1), .int (1)]
  t_HIGHEST_POWER : Tok
  g_HIGHEST_POWER : mg "HIGHEST_POWER" = some (.int 12 t_HIGHEST_POWER)
  t_ROW_DEGREE : Tok
  g_ROW_DEGREE : mg "ROW_DEGREE" = some (.int 8 t_ROW_DEGREE)
  g_comb : mg "comb" = some (.builtin "math.comb")
  g_gcd : mg "gcd" = some (.builtin "math.gcd")
  n_type : mg "type" = none
  n_int : mg "int" = none
  n_tuple : mg "tuple" = none
  n_len : mg "len" = none
  n_all : mg "all" = none
  n_max : mg "max" = none
  n_enumerate : mg "enumerate" = none
  n_zip : mg "zip" = none
  n_range : mg "range" = none
  n_isinstance : mg "isinstance" = none
  n_list : mg "list" = none
  n_str : mg "str" = none
  n_bool : mg "bool" = none
  n_abs : mg "abs" = none
section
variable {K : PySem.W.Frag} {mg : Str → Option Value}
theorem b_is_whole (T : Txt K mg) : Binds K T.d_is_whole P_is_whole [] := T.F_is_whole.binds fun _ _ _ _ _ _ us hl => match us, hl with | [_], _ => rfl
theorem b_is_ratio (T : Txt K mg) : Binds K T.d_is_ratio P_is_ratio [] := T.F_is_ratio.binds fun _ _ _ _ _ _ us hl => match us, hl with | [_], _ => rfl
theorem b_lowest (T : Txt K mg) : Binds K T.d_lowest P_lowest [] := T.F_lowest.binds fun _ _ _ _ _ _ us hl => match us, hl with | [_, _], _ => rfl
theorem b_opposite (T : Txt K mg) : Binds K T.d_opposite P_opposite [] := T.F_opposite.binds fun _ _ _ _ _ _ us hl => match us, hl with | [_], _ => rfl
theorem b_plus (T : Txt K mg) : Binds K T.d_plus P_plus [] := T.F_plus.binds fun _ _ _ _ _ _ us hl => match us, hl with | [_, _], _ => rfl
theorem b_minus (T : Txt K mg) : Binds K T.d_minus P_minus [] := T.F_minus.binds fun _ _ _ _ _ _ us hl => match us, hl with | [_, _], _ => rfl
theorem b_times (T : Txt K mg) : Binds K T.d_times P_times [] := T.F_times.binds fun _ _ _ _ _ _ us hl => match us, hl with | [_, _], _ => rfl
theorem b_over (T : Txt K mg) : Binds K T.d_over P_over [] := T.F_over.binds fun _ _ _ _ _ _ us hl => match us, hl with | [_, _], _ => rfl
theorem b_is_below (T : Txt K mg) : Binds K T.d_is_below P_is_below [] := T.F_is_below.binds fun _ _ _ _ _ _ us hl => match us, hl with | [_, _], _ => rfl
theorem b_total_of (T : Txt K mg) : Binds K T.d_total_of P_total_of [] := T.F_total_of.binds fun _ _ _ _ _ _ us hl => match us, hl with | [_], _ => rfl
theorem b_are_ratios (T : Txt K mg) : Binds K T.d_are_ratios P_are_ratios [] := T.F_are_ratios.binds fun _ _ _ _ _ _ us hl => match us, hl with | [_, _], _ => rfl
theorem b_is_interval (T : Txt K mg) : Binds K T.d_is_interval P_is_interval [] := T.F_is_interval.binds fun _ _ _ _ _ _ us hl => match us, hl with | [_], _ => rfl
theorem b_has_length (T : Txt K mg) : Binds K T.d_has_length P_has_length [] := T.F_has_length.binds fun _ _ _ _ _ _ us hl => match us, hl with | [_, _, _], _ => rfl
theorem b_is_polynomial (T : Txt K mg) : Binds K T.d_is_polynomial P_is_polynomial [] := T.F_is_polynomial.binds fun _ _ _ _ _ _ us hl => match us, hl with | [_], _ => rfl
theorem b_is_integer (T : Txt K mg) : Binds K T.d_is_integer P_is_integer [] := T.F_is_integer.binds fun _ _ _ _ _ _ us hl => match us, hl with | [_, _, _], _ => rfl
theorem b_check_polynomial (T : Txt K mg) : Binds K T.d_check_polynomial P_check_polynomial [] := T.F_check_polynomial.binds fun _ _ _ _ _ _ us hl => match us, hl with | [_], _ => rfl
theorem b_check_degree (T : Txt K mg) : Binds K T.d_check_degree P_check_degree [] := T.F_check_degree.binds fun _ _ _ _ _ _ us hl => match us, hl with | [_, _, _], _ => rfl
theorem b_check_degree_of (T : Txt K mg) : Binds K T.d_check_degree_of P_check_degree_of [] := T.F_check_degree_of.binds fun _ _ _ _ _ _ us hl => match us, hl with | [_, _, _], _ => rfl
theorem b_check_places (T : Txt K mg) : Binds K T.d_check_places P_check_places [] := T.F_check_places.binds fun _ _ _ _ _ _ us hl => match us, hl with | [_, _], _ => rfl
theorem b_check_row_1 (T : Txt K mg) : ∃ ds, Vals [.int 8] ds ∧ Binds K T.d_check_row P_check_row ds := T.F_check_row.binds1 1 0 (List.cons_ne_nil _ _) rfl fun _ _ _ _ _ _ _ us its hl hi => match us, hl, its, hi with | [_], _, [_], _ => ⟨_, rfl, rfl⟩
theorem b_check_row (T : Txt K mg) : Binds K T.d_check_row P_check_row [] := by
  obtain ⟨ds, v, b⟩ := T.F_check_row.binds1 (ps := P_check_row) 2 1 (List.cons_ne_nil _ _) rfl fun _ _ _ _ _ _ _ us its hl hi => match us, hl, its, hi with | [_, _], _, [_], _ => ⟨_, rfl, rfl⟩
  cases v
  exact b
theorem b_check_interval (T : Txt K mg) : Binds K T.d_check_interval P_check_interval [] := T.F_check_interval.binds fun _ _ _ _ _ _ us hl => match us, hl with | [_], _ => rfl
theorem b_blossom (T : Txt K mg) : Binds K T.d_blossom P_blossom [] := T.F_blossom.binds fun _ _ _ _ _ _ us hl => match us, hl with | [_, _, _], _ => rfl
theorem b_blossom_at (T : Txt K mg) : Binds K T.d_blossom_at P_blossom_at [] := T.F_blossom_at.binds fun _ _ _ _ _ _ us hl => match us, hl with | [_, _], _ => rfl
theorem b_place_products (T : Txt K mg) : Binds K T.d_place_products P_place_products [] := T.F_place_products.binds fun _ _ _ _ _ _ us hl => match us, hl with | [_], _ => rfl
theorem b_trimmed (T : Txt K mg) : Binds K T.d_trimmed P_trimmed [] := T.F_trimmed.binds fun _ _ _ _ _ _ us hl => match us, hl with | [_], _ => rfl
theorem b_sum_of (T : Txt K mg) : Binds K T.d_sum_of P_sum_of [] := T.F_sum_of.binds fun _ _ _ _ _ _ us hl => match us, hl with | [_, _], _ => rfl
theorem b_product_of (T : Txt K mg) : Binds K T.d_product_of P_product_of [] := T.F_product_of.binds fun _ _ _ _ _ _ us hl => match us, hl with | [_, _], _ => rfl
theorem b_row_of (T : Txt K mg) : Binds K T.d_row_of P_row_of [] := T.F_row_of.binds fun _ _ _ _ _ _ us hl => match us, hl with | [_, _, _], _ => rfl
theorem b_poly_of (T : Txt K mg) : Binds K T.d_poly_of P_poly_of [] := T.F_poly_of.binds fun _ _ _ _ _ _ us hl => match us, hl with | [_, _], _ => rfl
theorem b_row_telling (T : Txt K mg) : Binds K T.d_row_telling P_row_telling [] := T.F_row_telling.binds fun _ _ _ _ _ _ us hl => match us, hl with | [_, _, _], _ => rfl
theorem b_poly_told (T : Txt K mg) : Binds K T.d_poly_told P_poly_told [] := T.F_poly_told.binds fun _ _ _ _ _ _ us hl => match us, hl with | [_, _], _ => rfl
theorem b__law_taken (T : Txt K mg) : Binds K T.d__law_taken P_law_taken [] := T.F__law_taken.binds fun _ _ _ _ _ _ us hl => match us, hl with | [_, _], _ => rfl
theorem b__law_pick (T : Txt K mg) : Binds K T.d__law_pick P_law_pick [] := T.F__law_pick.binds fun _ _ _ _ _ _ us hl => match us, hl with | [_, _], _ => rfl
theorem b__law_alike (T : Txt K mg) : Binds K T.d__law_alike P_law_alike [] := T.F__law_alike.binds fun _ _ _ _ _ _ us hl => match us, hl with | [_, _], _ => rfl
theorem b__law_made (T : Txt K mg) : Binds K T.d__law_made P_law_made [] := T.F__law_made.binds fun _ _ _ _ _ _ us hl => match us, hl with | [_, _], _ => rfl
theorem b__law_plus (T : Txt K mg) : Binds K T.d__law_plus P_law_plus [] := T.F__law_plus.binds fun _ _ _ _ _ _ us hl => match us, hl with | [_, _], _ => rfl
theorem b__law_minus (T : Txt K mg) : Binds K T.d__law_minus P_law_minus [] := T.F__law_minus.binds fun _ _ _ _ _ _ us hl => match us, hl with | [_, _], _ => rfl
theorem b__law_times (T : Txt K mg) : Binds K T.d__law_times P_law_times [] := T.F__law_times.binds fun _ _ _ _ _ _ us hl => match us, hl with | [_, _], _ => rfl
theorem b__law_over (T : Txt K mg) : Binds K T.d__law_over P_law_over [] := T.F__law_over.binds fun _ _ _ _ _ _ us hl => match us, hl with | [_, _], _ => rfl
theorem b__law_draw (T : Txt K mg) : Binds K T.d__law_draw P_law_draw [] := T.F__law_draw.binds fun _ _ _ _ _ _ us hl => match us, hl with | [_], _ => rfl
theorem b__law_trim (T : Txt K mg) : Binds K T.d__law_trim P_law_trim [] := T.F__law_trim.binds fun _ _ _ _ _ _ us hl => match us, hl with | [_], _ => rfl
theorem b__law_poly (T : Txt K mg) : Binds K T.d__law_poly P_law_poly [] := T.F__law_poly.binds fun _ _ _ _ _ _ us hl => match us, hl with | [_, _], _ => rfl
theorem b__law_at (T : Txt K mg) : Binds K T.d__law_at P_law_at [] := T.F__law_at.binds fun _ _ _ _ _ _ us hl => match us, hl with | [_, _], _ => rfl
theorem b__law_p_plus (T : Txt K mg) : Binds K T.d__law_p_plus P_law_p_plus [] := T.F__law_p_plus.binds fun _ _ _ _ _ _ us hl => match us, hl with | [_, _], _ => rfl
theorem b__law_p_times (T : Txt K mg) : Binds K T.d__law_p_times P_law_p_times [] := T.F__law_p_times.binds fun _ _ _ _ _ _ us hl => match us, hl with | [_, _], _ => rfl
theorem b__law_scaled (T : Txt K mg) : Binds K T.d__law_scaled P_law_scaled [] := T.F__law_scaled.binds fun _ _ _ _ _ _ us hl => match us, hl with | [_, _], _ => rfl
theorem b__law_choose (T : Txt K mg) : Binds K T.d__law_choose P_law_choose [] := T.F__law_choose.binds fun _ _ _ _ _ _ us hl => match us, hl with | [_, _], _ => rfl
theorem b__law_row (T : Txt K mg) : Binds K T.d__law_row P_law_row [] := T.F__law_row.binds fun _ _ _ _ _ _ us hl => match us, hl with | [_, _], _ => rfl
theorem b__law_interval (T : Txt K mg) : Binds K T.d__law_interval P_law_interval [] := T.F__law_interval.binds fun _ _ _ _ _ _ us hl => match us, hl with | [_], _ => rfl
theorem b__law_unit_poly (T : Txt K mg) : Binds K T.d__law_unit_poly P_law_unit_poly [] := T.F__law_unit_poly.binds fun _ _ _ _ _ _ us hl => match us, hl with | [_], _ => rfl
theorem b__law_moved (T : Txt K mg) : Binds K T.d__law_moved P_law_moved [] := T.F__law_moved.binds fun _ _ _ _ _ _ us hl => match us, hl with | [_, _, _], _ => rfl
theorem b__law_row_poly (T : Txt K mg) : Binds K T.d__law_row_poly P_law_row_poly [] := T.F__law_row_poly.binds fun _ _ _ _ _ _ us hl => match us, hl with | [_, _], _ => rfl
theorem b_law (T : Txt K mg) : Binds K T.d_law P_law [] := T.F_law.binds fun _ _ _ _ _ _ us hl => match us, hl with | [_], _ => rfl
end
end Bc
namespace Bc
open PySem PySem.Spec PyProof.Rows L2 RZ RT
section
variable {P : Program} {w : World} {K : PySem.W.Frag} {mg : Str → Option Value} {base : Heap}
theorem ok_is_whole (T : Txt K mg) : FnOk P w K mg base CX0 1 T.f_is_whole T.d_is_whole P_is_whole (spWhole K) := by
  refine T.F_is_whole.ok sc_is_whole (fun vs H Q E h => ?_) (fun cdv A outer s H vs Q E hr h => ?_)
  · obtain ⟨x, t, rfl, _⟩ := h; rfl
  obtain ⟨x, t, rfl, ht, q⟩ := h
  refine ⟨_, (pss_one (ps_ret (pe_cmpR op_isTy (pe_callTy call_type1 (by rfl) T.n_type (by decide +kernel) (pa_cons (pv 0) pa_nil)) (pe_bltn (v := .ty "int") (by rfl) T.n_int (by decide +kernel) rfl) (nomark _)))), ?_⟩
  exact ⟨x, rfl, x, t, rfl, ht, _, _, rfl, rfl, q⟩
theorem ok_lowest (T : Txt K mg) : FnOk P w K mg base CX0 1 T.f_lowest T.d_lowest P_lowest (spLowest K) := by
  refine T.F_lowest.ok sc_lowest (fun vs H Q E h => ?_) (fun cdv A outer s H vs Q E hr h => ?_)
  · obtain ⟨x, t, rfl, _⟩ := h; rfl
  obtain ⟨t, l, rfl, h0, h1, h2, q⟩ := h
  refine ⟨_, (pss_cons (ps_set (i := 2) sc_lowest.nd rfl (.inl rfl) (pe_callBfun cr_gcd (by rfl) T.g_gcd (pa_cons (pv 0) (pa_cons (pv 1) pa_nil))))
      (pss_cons (ps_if (pt_cmpR op_lt (pv 1) pe_int (nomark _)) (pss_one (ps_set (i := 2) sc_lowest.nd rfl (.inl rfl) (pe_un un_neg (pv 2)))) pss_nil)
      (pss_one (ps_ret (pe_tup (pa_cons (pe_op op_fdivZ (pv 0) (pv 2)) (pa_cons (pe_op op_fdivZ (pv 1) (pv 2)) pa_nil))))))), ?_⟩
  have hs := sg_lt (t := t) h0 h2
  have fin : ∀ z : Int, z = sg t l → tRet (tTup (tCons (tOp (rI CDivZ fun i j => .int (i.fdiv j)) (tVar 0) (tVar 2)) (tCons (tOp (rI CDivZ fun i j => .int (i.fdiv j)) (tVar 1) (tVar 2)) tNil))) { nx := fun _ H' => Q .non H', rt := Q } [some (.int t), some (.int l), some (.int z)] H := by
    rintro _ rfl
    exact ⟨_, rfl, _, rfl, t, sg t l, rfl, rfl, cdivz (sg_ne h0) hs (by decide) (by decide), _, rfl, _, rfl, l, sg t l, rfl, rfl, cdivz (sg_ne h0) hs (by decide) (by decide), sz_of (by show 2 ≤ 100000; decide), made_end h0 q⟩
  refine ⟨_, rfl, _, rfl, t, l, rfl, _, rfl, _, _, rfl, rfl, _, rfl, ite2 (fun c => ?_) (fun c => ?_)⟩
  · have c' : l < 0 := of_decide_eq_true c
    refine ⟨_, rfl, _, rfl, ?_⟩
    have e : -((Nat.gcd t.natAbs l.natAbs : Nat) : Int) = sg t l := by unfold sg; rw [if_pos c']
    exact fin _ e
  · have c' : ¬ l < 0 := fun z => c (decide_eq_true z)
    have e : ((Nat.gcd t.natAbs l.natAbs : Nat) : Int) = sg t l := by unfold sg; rw [if_neg c']
    exact fin _ e
theorem ok_has_length (T : Txt K mg) : FnOk P w K mg base CX0 1 T.f_has_length T.d_has_length P_has_length (spHasLen K) := by
  refine T.F_has_length.ok sc_has_length (fun vs H Q E h => ?_) (fun cdv A outer s H vs Q E hr h => ?_)
  · obtain ⟨x, t, _, _, rfl, _⟩ := h; rfl
  obtain ⟨a, xs, i, j, rfl, ha, q⟩ := h
  refine ⟨_, (pss_one (ps_ret (pe_and (pe_cmpR op_isTy (pe_callTy call_type1 (by rfl) T.n_type (by decide +kernel) (pa_cons (pv 0) pa_nil)) (pe_bltn (v := .ty "tuple") (by rfl) T.n_tuple (by decide +kernel) rfl) (nomark _)) (pe_one (pe_chain op_le op_le (pv 1) (pe_callB call_len_seq (by rfl) T.n_len PySem.boot_len (pa_cons (pv 0) pa_nil)) (pv 2)))))), ?_⟩
  refine ⟨_, rfl, _, "tuple", rfl, .tup ha, _, _, rfl, rfl, true, rfl, iteT ?_⟩
  refine ⟨_, rfl, _, rfl, a, xs, rfl, .inr ha, _, _, rfl, rfl, _, rfl, ?_⟩
  refine ite2 (fun c => ?_) (fun c => ?_)
  · have c' : i ≤ (xs.length : Int) := of_decide_eq_true c
    refine ⟨_, rfl, _, _, rfl, rfl, ?_⟩
    rw [decide_eq_true c', Bool.true_and] at q
    exact q
  · have c' : ¬ i ≤ (xs.length : Int) := fun z => c (decide_eq_true z)
    rw [decide_eq_false c', Bool.false_and] at q
    exact q
theorem ok_trimmed (T : Txt K mg) : FnOk P w K mg base CX0 1 T.f_trimmed T.d_trimmed P_trimmed (spTrim K) := by
  refine T.F_trimmed.ok sc_trimmed (fun vs H Q E h => ?_) (fun cdv A outer s H vs Q E hr h => ?_)
  · obtain ⟨x, t, _, rfl, _⟩ := h; rfl
  obtain ⟨a, xs, p, rfl, ha, rs, hz, q⟩ := h
  have hl := rs.length
  refine ⟨_, (pss_cons (ps_set (i := 1) sc_trimmed.nd rfl (.inl rfl) (pe_callB call_len_seq (by rfl) T.n_len PySem.boot_len (pa_cons (pv 0) pa_nil)))
      (pss_cons (ps_while PassesOwn.never (PW.pt (pw_and (pt_cmpR op_gt (pv 1) pe_int (nomark _)) (pw_and1 (pt_cmpR (op_eqD hr.units) (pe_ix ix_list (pv 0) (pe_op op_sub (pv 1) pe_int) (fun _ _ => rfl)) (pe_glob (v := .ref T.a_ZERO) (by rfl) T.g_ZERO rfl) (nomark _))))) (pss_one (ps_aug (i := 1) sc_trimmed.nd rfl (.inl rfl) pe_int ip_sub)))
      (pss_one (ps_ret (pe_callTy call_tuple_of (by rfl) T.n_tuple (by decide +kernel) (pa_cons (pe_slice sl_list (pv 0) po_none (po_some (pv 1))) pa_nil)))))), ?_⟩
  have fin : ∀ n : Nat, n ≤ xs.length → trim p = p.take n → tRet (tCB (fun xs H Q => ∃ p ys, xs = [.ref p] ∧ ((SqL K H p ys ∧ ∀ l, H l = none → Q (.ref l) (upd H l (.tup ys))) ∨ (SqT K H p ys ∧ Q (.ref p) H))) (tCons (tSl (rSlL K) (tVar 0) tNoPart (tPart (tVar 1))) tNil)) { nx := fun _ H' => Q .non H', rt := Q } [some (.ref a), some (.int (n : Int))] H := by
    intro n hn e
    refine ⟨_, rfl, _, rfl, (n : Int), rfl, a, xs, rfl, sl_of ha, fun c hc => ⟨c, _, rfl, .inl ⟨sl_of upd_same, fun l hl' => ?_⟩⟩⟩
    rw [cut_to hn] at hl' ⊢
    refine q _ _ ((same_upd hc).trans (same_upd hl')) ⟨l, _, rfl, st_of upd_same, ?_⟩
    rw [e]
    exact Rts.sm (pr_take n rs) ((same_upd hc).trans (same_upd hl'))
  refine ⟨_, rfl, a, xs, rfl, .inl (sl_of ha), ?_⟩
  refine ⟨fun m σ H' => H' = H ∧ m ≤ xs.length ∧ σ = [some (.ref a), some (.int (m : Int))] ∧ trim (p.take m) = trim p, ⟨xs.length, rfl, Nat.le_refl _, rfl, by rw [hl, List.take_length]⟩, ?_⟩
  rintro m σ H' ⟨rfl, hm, rfl, ht⟩
  refine ⟨_, rfl, _, _, rfl, rfl, _, rfl, ite2 (fun c => ?_) (fun c => ?_)⟩
  · have c' : (m : Int) > 0 := of_decide_eq_true c
    obtain ⟨k, rfl⟩ : ∃ k, m = k + 1 := ⟨m - 1, by omega⟩
    have hk : k < p.length := by omega
    obtain ⟨v, hv1, hv2⟩ := pr_get rs (List.getElem?_eq_getElem hk)
    have e1 : ((k + 1 : Nat) : Int) - 1 = (k : Int) := by omega
    refine ⟨_, rfl, _, rfl, _, _, rfl, rfl, a, xs, _, v, rfl, rfl, sl_of ha, by rw [e1]; exact atI_nat hv1, ?_⟩
    refine eq_rc hv2 (rt_zero (T.k_ZERO _)) ?_
    refine ⟨_, rfl, ite2 (fun d => ?_) (fun d => ?_)⟩
    · refine ⟨fun σ' H2 => H2 = H' ∧ σ' = [some (.ref a), some (.int (k : Int))], fun σ' H2 h2 => ⟨k, Nat.lt_succ_self _, h2.1, by omega, h2.2, take_trim (List.getElem?_eq_getElem hk) (of_decide_eq_true d) ht⟩, ?_⟩
      refine ⟨_, rfl, _, _, rfl, rfl, rfl, ?_⟩
      show [some (V.ref a), some (V.int (((k + 1 : Nat) : Int) - 1))] = _
      rw [e1]
    · exact fin (k + 1) hm (take_can (List.getElem?_eq_getElem hk) (fun z => d (decide_eq_true z)) ht)
  · have c' : m = 0 := by
      have : ¬ (m : Int) > 0 := fun z => c (decide_eq_true z)
      omega
    subst c'
    exact fin 0 hm (by rw [← ht] <;> rfl)
theorem ok__law_made (T : Txt K mg) : FnOk P w K mg base CX0 1 T.f__law_made T.d__law_made P_law_made (spLowest K) := by
  refine T.F__law_made.ok sc_law_made (fun vs H Q E h => ?_) (fun cdv A outer s H vs Q E hr h => ?_)
  · obtain ⟨x, t, rfl, _⟩ := h; rfl
  obtain ⟨t, l, rfl, h0, h1, h2, q⟩ := h
  refine ⟨_, (pss_cons (ps_par (i := 2) (j := 3) rfl sc_law_made.nd rfl rfl (by decide) rfl rfl (pa_cons (pe_callB call_abs (by rfl) T.n_abs (by decide +kernel) (pa_cons (pv 0) pa_nil)) (pa_cons (pe_callB call_abs (by rfl) T.n_abs (by decide +kernel) (pa_cons (pv 1) pa_nil)) pa_nil)) (by rfl))
      (pss_cons (ps_for PassesOwn.never rfl (pi_range1 (by rfl) T.n_range (pa_cons pe_int pa_nil)) (pg_name (i := 4) sc_law_made.nd rfl (.inl rfl)) (pss_cons (ps_if (pt_cmpR op_eq (pv 3) pe_int (nomark _)) (pss_one ps_break) pss_nil)
      (pss_one (ps_par (i := 2) (j := 3) rfl sc_law_made.nd rfl rfl (by decide) rfl rfl (pa_cons (pv 3) (pa_cons (pe_op op_modN (pv 2) (pv 3)) pa_nil)) (by rfl)))))
      (pss_cons (ps_set (i := 2) sc_law_made.nd rfl (.inl rfl) (pe_ifExp (pt_cmpR op_lt (pv 1) pe_int (nomark _)) (pe_op op_sub pe_int (pv 2)) (pv 2)))
      (pss_one (ps_ret (pe_tup (pa_cons (pe_op op_fdivZ (pv 0) (pv 2)) (pa_cons (pe_op op_fdivZ (pv 1) (pv 2)) pa_nil)))))))), ?_⟩
  have hs := sg_lt (t := t) h0 h2
  have fin : ∀ (x3 x4 : Option V), tSeq (tAsg (tIf (tTest (tOp (rI0 fun i j => .bl (decide (i < j))) (tVar 1) (tC (.int 0)))) (tOp (rI0 fun i j => .int (i - j)) (tC (.int 0)) (tVar 2)) (tVar 2)) (gName 2))
      (tRet (tTup (tCons (tOp (rI CDivZ fun i j => .int (i.fdiv j)) (tVar 0) (tVar 2)) (tCons (tOp (rI CDivZ fun i j => .int (i.fdiv j)) (tVar 1) (tVar 2)) tNil)))) { nx := fun _ H' => Q .non H', rt := Q } [some (.int t), some (.int l), some (.int ((Nat.gcd t.natAbs l.natAbs : Nat) : Int)), x3, x4] H := by
    intro x3 x4
    have fin2 : ∀ z : Int, z = sg t l → tRet (tTup (tCons (tOp (rI CDivZ fun i j => .int (i.fdiv j)) (tVar 0) (tVar 2)) (tCons (tOp (rI CDivZ fun i j => .int (i.fdiv j)) (tVar 1) (tVar 2)) tNil))) { nx := fun _ H' => Q .non H', rt := Q } [some (.int t), some (.int l), some (.int z), x3, x4] H := by
      rintro _ rfl
      exact ⟨_, rfl, _, rfl, t, sg t l, rfl, rfl, cdivz (sg_ne h0) hs (by decide) (by decide), _, rfl, _, rfl, l, sg t l, rfl, rfl, cdivz (sg_ne h0) hs (by decide) (by decide), sz_of (by show 2 ≤ 100000; decide), made_end h0 q⟩
    refine ⟨_, rfl, _, _, rfl, rfl, _, rfl, ite2 (fun c => ?_) (fun c => ?_)⟩
    · have c' : l < 0 := of_decide_eq_true c
      refine ⟨_, rfl, _, _, rfl, rfl, ?_⟩
      exact fin2 _ (by unfold sg; rw [if_pos c', Int.zero_sub])
    · have c' : ¬ l < 0 := fun z => c (decide_eq_true z)
      exact ⟨_, rfl, fin2 _ (by unfold sg; rw [if_neg c'])⟩
  refine ⟨_, rfl, _, rfl, _, rfl, _, rfl, _, _, rfl, ?_⟩
  rw [abs_if, abs_if]
  refine ⟨10000, rfl, by decide, by decide, for_range (lo := 0) (n := 10000) (fun i σ H' => H' = H ∧ ∃ (u v : Nat) (z : Option V), Eu (kL + kL + 1) i u v (Nat.gcd t.natAbs l.natAbs) ∧ σ = [some (.int t), some (.int l), some (.int (u : Int)), some (.int (v : Int)), z]) ⟨rfl, _, _, none, Eu.start h0 h1 h2, rfl⟩ ?_ ?_⟩
  · rintro i σ H' hi ⟨rfl, u, v, z, he, rfl⟩
    refine ⟨_, rfl, rfl, _, rfl, ite2 (fun c => ?_) (fun c => ?_)⟩
    · have c' : v = 0 := by
        have := V.int.inj (of_decide_eq_true c)
        omega
      subst c'
      have := he.done
      subst this
      exact fin _ _
    · have c' : 0 < v := by
        rcases Nat.eq_zero_or_pos v with z | z
        · subst z; exact absurd (decide_eq_true rfl) c
        · exact z
      refine ⟨_, rfl, _, rfl, _, rfl, _, _, rfl, rfl, by omega, _, _, rfl, rfl, v, u % v, some (.int (0 + (i : Int))), he.next c', ?_⟩
      show [_, _, _, some (V.int ((u : Int).fmod (v : Int))), _] = _
      rw [fmod_nat]
  · rintro σ H' ⟨rfl, u, v, z, he, rfl⟩
    have hv := he.last (by decide) (by decide)
    subst hv
    have := he.done
    subst this
    exact fin _ _
theorem ok__law_taken (T : Txt K mg) : FnOk P w K mg base CX0 1 T.f__law_taken T.d__law_taken P_law_taken (spTaken K) := by
  refine T.F__law_taken.ok sc_law_taken (fun vs H Q E h => ?_) (fun cdv A outer s H vs Q E hr h => ?_)
  · obtain ⟨x, t, rfl, _⟩ := h; rfl
  obtain ⟨r, n, rfl, ⟨sc, ns, i, m, t, hR, hS', hi, hm, hm2⟩, hn, hn2, q⟩ := h
  have hS := hS'.sl
  refine ⟨_, (pss_cons (ps_if (pt_cmpR op_gt (pe_ix ix_list (pv 0) pe_int (fun _ _ => rfl)) pe_int (nomark _)) (pss_cons (ps_set (i := 2) sc_law_taken.nd rfl (.inl rfl) (pe_op op_modN (pe_callTy call_int1 (by rfl) T.n_int (by decide +kernel) (pa_cons (pe_ix ix_list (pv 0) pe_int (fun _ _ => rfl)) pa_nil)) (pv 1)))
      (pss_cons (ps_asg (pe_op op_fdivZ (pe_ix ix_list (pv 0) pe_int (fun _ _ => rfl)) (pv 1)) (pg_sub (pv 0) pe_int set_list))
      (pss_one (ps_ret (pv 2))))) pss_nil)
      (pss_cons (ps_asg (pe_op op_add (pe_ix ix_list (pv 0) pe_int (fun _ _ => rfl)) pe_int) (pg_sub (pv 0) pe_int set_list))
      (pss_cons (ps_if (pt_cmpR op_gt (pe_ix ix_list (pv 0) pe_int (fun _ _ => rfl)) (pe_callB call_len_seq (by rfl) T.n_len PySem.boot_len (pa_cons (pe_ix ix_list (pv 0) pe_int (fun _ _ => rfl)) pa_nil)) (nomark _)) (pss_cons (ps_asg (pe_op op_modN (pe_callTy call_int1 (by rfl) T.n_int (by decide +kernel) (pa_cons (pe_op op_add (pe_op op_mulW (pe_ix ix_list (pv 0) pe_int (fun _ _ => rfl)) pe_int) pe_int) pa_nil)) pe_int) (pg_sub (pv 0) pe_int set_list))
      (pss_one (ps_ret (pe_op op_modN (pe_callTy call_int1 (by rfl) T.n_int (by decide +kernel) (pa_cons (pe_op op_fdivZ (pe_ix ix_list (pv 0) pe_int (fun _ _ => rfl)) pe_int) pa_nil)) (pv 1))))) pss_nil)
      (pss_cons (ps_set (i := 3) sc_law_taken.nd rfl (.inl rfl) (pe_ix ix_list (pe_ix ix_list (pv 0) pe_int (fun _ _ => rfl)) (pe_op op_sub (pe_ix ix_list (pv 0) pe_int (fun _ _ => rfl)) pe_int) (fun _ _ => rfl)))
      (pss_cons (ps_asg (pe_op op_modN (pe_callTy call_int1 (by rfl) T.n_int (by decide +kernel) (pa_cons (pe_op op_add (pe_op op_add (pe_op op_mulW (pe_ix ix_list (pv 0) pe_int (fun _ _ => rfl)) pe_int) (pv 3)) pe_int) pa_nil)) pe_int) (pg_sub (pv 0) pe_int set_list))
      (pss_cons (ps_if (pt_cmpR op_ge (pv 3) (pe_op op_pow pe_int pe_int) (nomark _)) (pss_one (ps_asg (pe_op op_fdivZ (pv 3) (pv 1)) (pg_sub (pv 0) pe_int set_list))) pss_nil)
      (pss_one (ps_ret (pe_op op_modN (pe_callTy call_int1 (by rfl) T.n_int (by decide +kernel) (pa_cons (pv 3) pa_nil)) (pv 1)))))))))), ?_⟩
  have dn : ∀ a : Int, CDivZ a n := fun a => cdivz (by omega) hn2 (by decide) (by decide)
  have row : ∀ {H' : Hp} {i m t : Int}, H' r = some (.lst [.ref sc, .int i, .int m, .int t]) → Ro r H H' → 0 ≤ i → 0 ≤ m → m < 2147483647 → Row K H' r := fun h1 h2 h3 h4 h5 => ⟨sc, ns, _, _, _, h1, hS'.kp (h2.kp hR), h3, h4, h5⟩
  refine ⟨_, rfl, r, _, _, _, rfl, rfl, sl_of hR, rfl, _, _, rfl, rfl, _, rfl, ite2 (fun c => ?_) (fun c => ?_)⟩
  · -- a rest stands
    obtain ⟨b1, b2⟩ := fmod_bd (a := t) hn
    refine ⟨_, rfl, r, _, _, _, rfl, rfl, sl_of hR, rfl, .inl ⟨_, rfl, _, rfl, _, _, rfl, rfl, by omega, ?_⟩⟩
    refine ⟨_, rfl, r, _, _, _, rfl, rfl, sl_of hR, rfl, _, rfl, _, _, rfl, rfl, dn _, _, rfl, r, _, _, 3, rfl, rfl, hR, rfl, ?_⟩
    exact ⟨_, rfl, q _ _ b1 b2 (row upd_same ro_upd hi hm hm2) ro_upd⟩
  · refine ⟨_, rfl, r, _, _, _, rfl, rfl, sl_of hR, rfl, _, _, rfl, rfl, _, rfl, r, _, _, 1, rfl, rfl, hR, rfl, ?_⟩
    have hR1 : (upd H r (.lst [.ref sc, .int (i + 1), .int m, .int t])) r = some (.lst [.ref sc, .int (i + 1), .int m, .int t]) := upd_same
    have hS1 : SqL K (upd H r (.lst [.ref sc, .int (i + 1), .int m, .int t])) sc (ns.map V.int) := (hS'.kp (ro_upd.kp hR)).sl
    have hro : Ro r H (upd H r (.lst [.ref sc, .int (i + 1), .int m, .int t])) := ro_upd
    have mb : ∀ a : Int, 0 ≤ a.fmod 2147483647 ∧ a.fmod 2147483647 < 2147483647 := fun a => fmod_bd (by decide)
    have mw : CMulW m 48271 := wide_mul (a := 31) (b := 16) (by omega) (by decide) (by decide) (by decide) (by decide)
    refine ⟨_, rfl, r, _, _, _, rfl, rfl, sl_of hR1, rfl, _, rfl, r, _, _, _, rfl, rfl, sl_of hR1, rfl, sc, _, rfl, .inl hS1, _, _, rfl, rfl, _, rfl, ite2 (fun d => ?_) (fun d => ?_)⟩
    · -- beyond the script
      refine ⟨_, rfl, r, _, _, _, rfl, rfl, sl_of hR1, rfl, _, _, rfl, rfl, mw, _, _, rfl, rfl, .inl ⟨_, rfl, _, _, rfl, rfl, (show (2147483647 : Int) ≠ 0 by decide), _, rfl, r, _, _, 2, rfl, rfl, hR1, rfl, ?_⟩⟩
      obtain ⟨m1, m2⟩ := mb (m * 48271 + 11)
      have hR2 : (upd (upd H r (.lst [.ref sc, .int (i + 1), .int m, .int t])) r (.lst [.ref sc, .int (i + 1), .int ((m * 48271 + 11).fmod 2147483647), .int t])) r = some (.lst [.ref sc, .int (i + 1), .int ((m * 48271 + 11).fmod 2147483647), .int t]) := upd_same
      have hro2 := hro.trans (ro_upd (o := .lst [.ref sc, .int (i + 1), .int ((m * 48271 + 11).fmod 2147483647), .int t]))
      obtain ⟨b1, b2⟩ := fmod_bd (a := ((m * 48271 + 11).fmod 2147483647).fdiv 7) hn
      exact ⟨_, rfl, r, _, _, _, rfl, rfl, sl_of hR2, rfl, _, _, rfl, rfl, cdivz (b := 3) (by decide) (by decide) (by decide) (by decide), .inl ⟨_, rfl, _, rfl, _, _, rfl, rfl, by omega, q _ _ b1 b2 (row hR2 hro2 (by omega) m1 m2) hro2⟩⟩
    · have d' : i < (ns.length : Int) := by
        have z : ¬ (i + 1 > (((ns.map V.int).length : Nat) : Int)) := fun z => d (decide_eq_true z)
        rw [List.length_map] at z
        omega
      have hat : atI (ns.map V.int) (i + 1 - 1) = some (.int ns[i.toNat]) := by
        have e : i + 1 - 1 = ((i.toNat : Nat) : Int) := by omega
        rw [e]
        refine atI_nat ?_
        rw [List.getElem?_map, List.getElem?_eq_getElem (by omega)]
        rfl
      generalize hcell : ns[i.toNat] = cell at hat
      refine ⟨_, rfl, r, _, _, _, rfl, rfl, sl_of hR1, rfl, _, rfl, r, _, _, _, rfl, rfl, sl_of hR1, rfl, _, _, rfl, rfl, sc, _, _, _, rfl, rfl, hS1, hat, ?_⟩
      refine ⟨_, rfl, r, _, _, _, rfl, rfl, sl_of hR1, rfl, _, _, rfl, rfl, mw, _, rfl, _, _, rfl, rfl, _, _, rfl, rfl, .inl ⟨_, rfl, _, _, rfl, rfl, (show (2147483647 : Int) ≠ 0 by decide), _, rfl, r, _, _, 2, rfl, rfl, hR1, rfl, ?_⟩⟩
      obtain ⟨m1, m2⟩ := mb (m * 48271 + cell + 11)
      have hR2 : (upd (upd H r (.lst [.ref sc, .int (i + 1), .int m, .int t])) r (.lst [.ref sc, .int (i + 1), .int ((m * 48271 + cell + 11).fmod 2147483647), .int t])) r = some (.lst [.ref sc, .int (i + 1), .int ((m * 48271 + cell + 11).fmod 2147483647), .int t]) := upd_same
      have hro2 := hro.trans (ro_upd (o := .lst [.ref sc, .int (i + 1), .int ((m * 48271 + cell + 11).fmod 2147483647), .int t]))
      obtain ⟨b1, b2⟩ := fmod_bd (a := cell) hn
      refine ⟨_, rfl, _, _, rfl, rfl, ⟨by decide, by decide, by decide⟩, _, _, rfl, rfl, _, rfl, ite2 (fun f => ?_) (fun f => ?_)⟩
      · refine ⟨_, rfl, _, rfl, _, _, rfl, rfl, dn _, _, rfl, r, _, _, 3, rfl, rfl, hR2, rfl, ?_⟩
        exact ⟨_, rfl, .inl ⟨_, rfl, _, rfl, _, _, rfl, rfl, by omega, q _ _ b1 b2 (row upd_same (hro2.trans ro_upd) (by omega) m1 m2) (hro2.trans ro_upd)⟩⟩
      · exact ⟨_, rfl, .inl ⟨_, rfl, _, rfl, _, _, rfl, rfl, by omega, q _ _ b1 b2 (row hR2 hro2 (by omega) m1 m2) hro2⟩⟩
theorem ok__law_trim (T : Txt K mg) : FnOk P w K mg base CX0 1 T.f__law_trim T.d__law_trim P_law_trim (spTrim K) := by
  refine T.F__law_trim.ok sc_law_trim (fun vs H Q E h => ?_) (fun cdv A outer s H vs Q E hr h => ?_)
  · obtain ⟨x, t, _, rfl, _⟩ := h; rfl
  obtain ⟨a, xs, p, rfl, ha, rs, hz, q⟩ := h
  have hl := rs.length
  refine ⟨_, (pss_cons (ps_set (i := 1) sc_law_trim.nd rfl (.inl rfl) (pe_callTy call_tuple_of (by rfl) T.n_tuple (by decide +kernel) (pa_cons (pv 0) pa_nil)))
      (pss_cons (ps_for PassesOwn.never rfl (pi_range1 (by rfl) T.n_range (pa_cons (pe_callB call_len_seq (by rfl) T.n_len PySem.boot_len (pa_cons (pv 0) pa_nil)) pa_nil)) (pg_name (i := 2) sc_law_trim.nd rfl (.inl rfl)) (pss_cons (ps_if (pt_cmpR (op_neD hr.units) (pe_ix ix_tup (pv 1) (pe_un un_neg pe_int) (fun _ _ => rfl)) (pe_tup (pa_cons pe_int (pa_cons pe_int pa_nil))) (nomark _)) (pss_one ps_break) pss_nil)
      (pss_one (ps_set (i := 1) sc_law_trim.nd rfl (.inl rfl) (pe_slice sl_tupA (pv 1) po_none (po_some (pe_un un_neg pe_int)))))))
      (pss_one (ps_ret (pv 1))))), ?_⟩
  refine ⟨_, rfl, a, xs, rfl, .inl ⟨sl_of ha, fun f hf => ?_⟩⟩
  have e1 : Same H (upd H f (.tup xs)) := same_upd hf
  have hf1 : SqT K (upd H f (.tup xs)) f xs := st_of upd_same
  generalize upd H f (.tup xs) = H1 at e1 hf1
  refine ⟨_, rfl, a, xs, rfl, .inl (sl_of (e1 _ _ ha)), xs.length, rfl, by omega, by omega, ?_⟩
  rw [Int.toNat_natCast]
  have fin : ∀ (k : Nat) (H' : Hp) (g : Addr) (z : Option V), Same H H' → SqT K H' g (xs.take k) → trim p = p.take k → tRet (tVar 1) { nx := fun _ H' => Q .non H', rt := Q } [some (.ref a), some (.ref g), z] H' := by
    intro k H' g z e hg et
    exact ⟨_, rfl, q _ _ e ⟨g, _, rfl, hg, by rw [et]; exact Rts.sm (pr_take k rs) e⟩⟩
  refine for_range (lo := 0) (n := xs.length) (fun i σ H' => i ≤ xs.length ∧ Same H H' ∧ ∃ g z, SqT K H' g (xs.take (xs.length - i)) ∧ trim (p.take (xs.length - i)) = trim p ∧ σ = [some (.ref a), some (.ref g), z]) ⟨Nat.zero_le _, e1, f, none, by rw [Nat.sub_zero, List.take_length]; exact hf1, by rw [Nat.sub_zero, hl, List.take_length], rfl⟩ ?_ ?_
  · rintro i σ H' hi ⟨_, e, g, z, hg, ht, rfl⟩
    obtain ⟨k, hk⟩ : ∃ k, xs.length - i = k + 1 := ⟨xs.length - i - 1, by omega⟩
    have hk' : xs.length - (i + 1) = k := by omega
    rw [hk] at hg ht
    have hkp : k < p.length := by omega
    obtain ⟨v, hv1, hv2⟩ := pr_get rs (List.getElem?_eq_getElem hkp)
    obtain ⟨ys, hy1, hy2⟩ := last_of hv1
    refine ⟨_, rfl, 1, rfl, g, _, _, v, rfl, rfl, hg, by rw [hy1]; exact atI_last ys v, sz_of (by show 2 ≤ 100000; decide), fun t ht' => ?_⟩
    have e2 := e.trans (same_upd (o := .tup [.int 0, .int 1]) ht')
    refine ne_rr (hv2.sm e2) (rt_zero (st_of upd_same)) ?_
    refine ⟨_, rfl, ite2 (fun d => ?_) (fun d => ?_)⟩
    · -- the last one is not 0: the loop is left
      have d' : ¬ p[k] = 0 := by simpa using d
      exact fin (k + 1) _ g _ e2 (kp_t (kp_same (same_upd ht')) hg) (take_can (List.getElem?_eq_getElem hkp) d' ht)
    · have d' : p[k] = 0 := by simpa using d
      have hlen : (xs.take (k + 1)).length = k + 1 := by rw [List.length_take]; omega
      refine ⟨_, rfl, ?_⟩
      refine ⟨_, rfl, _, rfl, g, _, rfl, kp_t (kp_same (same_upd ht')) hg, ?_, ?_⟩
      · intro z; rw [hlen] at z; have := z.2; rw [six_m1] at this; omega
      intro _ u hu
      have e3 := e2.trans (same_upd (o := .tup (cutV (xs.take (k + 1)) none (some (-1)))) hu)
      refine ⟨by omega, e3, u, _, ?_, ?_, rfl⟩
      · rw [hk']
        refine st_of ?_
        rw [show xs.take k = cutV (xs.take (k + 1)) none (some (-1)) by rw [cut_m1 hlen, List.take_take, Nat.min_eq_left (by omega)]]
        exact upd_same
      · rw [hk']
        exact take_trim (List.getElem?_eq_getElem hkp) d' ht
  · rintro σ H' ⟨_, e, g, z, hg, ht, rfl⟩
    rw [Nat.sub_self] at hg ht
    exact fin 0 H' g z e hg ht.symm
theorem ok__law_choose (T : Txt K mg) : FnOk P w K mg base CX0 1 T.f__law_choose T.d__law_choose P_law_choose (spChoose K) := by
  refine T.F__law_choose.ok sc_law_choose (fun vs H Q E h => ?_) (fun cdv A outer s H vs Q E hr h => ?_)
  · obtain ⟨n, k, rfl, _⟩ := h; rfl
  obtain ⟨n, k, rfl, hk, hn, q⟩ := h
  refine ⟨_, (pss_cons (ps_set (i := 2) sc_law_choose.nd rfl (.inl rfl) pe_int)
      (pss_cons (ps_for PassesOwn.never rfl (pi_range1 (by rfl) T.n_range (pa_cons (pv 1) pa_nil)) (pg_name (i := 3) sc_law_choose.nd rfl (.inl rfl)) (pss_one (ps_set (i := 2) sc_law_choose.nd rfl (.inl rfl) (pe_op op_fdivZ (pe_op op_mulW (pv 2) (pe_op op_sub (pv 0) (pv 3))) (pe_op op_add (pv 3) pe_int)))))
      (pss_one (ps_ret (pv 2))))), ?_⟩
  refine ⟨_, rfl, (k : Int), rfl, by omega, by omega, ?_⟩
  rw [Int.toNat_natCast]
  refine for_range (lo := 0) (n := k) (fun i σ H' => H' = H ∧ ∃ z, σ = [some (.int n), some (.int k), some (.int (chs n i : Nat)), z]) ⟨rfl, none, by cases n <;> rfl⟩ ?_ ?_
  · rintro i σ H' hi ⟨rfl, z, rfl⟩
    have ei : (0 : Int) + (i : Int) = (i : Int) := Int.zero_add _
    rw [ei]
    have hd := chs_div (show i < n by omega)
    have hb := chs_bd (n := n) (k := i) hn
    have e1 : (((chs n i : Nat) : Int) * ((n : Int) - (i : Int))).fdiv ((i : Int) + 1) = ((chs n (i + 1) : Nat) : Int) := by
      rw [hd]
      exact Int.mul_fdiv_cancel _ (by omega)
    refine ⟨_, rfl, _, rfl, _, rfl, _, _, rfl, rfl, _, _, rfl, rfl, wide_mul (a := 31) (b := 5) (by omega) (by omega) (by decide) (by decide) (by decide), ?_⟩
    refine ⟨_, rfl, _, _, rfl, rfl, _, _, rfl, rfl, cdivz (b := 5) (by omega) (by omega) (by decide) (by decide), ?_⟩
    refine ⟨rfl, some (.int (i : Int)), ?_⟩
    show [_, _, some (V.int ((((chs n i : Nat) : Int) * ((n : Int) - (i : Int))).fdiv ((i : Int) + 1))), _] = _
    rw [e1]
  · rintro σ H' ⟨rfl, z, rfl⟩
    exact ⟨_, rfl, q⟩
theorem ok_is_below (T : Txt K mg) : FnOk P w K mg base CX0 1 T.f_is_below T.d_is_below P_is_below (spBelow K) := by
  refine T.F_is_below.ok sc_is_below (fun vs H Q E h => ?_) (fun cdv A outer s H vs Q E hr h => ?_)
  · obtain ⟨x, t, _, _, rfl, _⟩ := h; rfl
  obtain ⟨_, _, a, b, rfl, ⟨x, rfl, ha⟩, ⟨y, rfl, hb⟩, ka, kb, q⟩ := h
  refine ⟨_, (pss_one (ps_ret (pe_cmpR op_lt (pe_op op_mulW (pe_ix ix_tup (pv 0) pe_int (fun _ _ => rfl)) (pe_ix ix_tup (pv 1) pe_int (fun _ _ => rfl))) (pe_op op_mulW (pe_ix ix_tup (pv 1) pe_int (fun _ _ => rfl)) (pe_ix ix_tup (pv 0) pe_int (fun _ _ => rfl))) (nomark _)))), ?_⟩
  refine ⟨_, rfl, _, _, _, _, rfl, rfl, ha, rfl, _, rfl, _, _, _, _, rfl, rfl, hb, rfl, _, _, rfl, rfl, wide_mul ka.1 kb.dn (by decide) (by decide) (by decide), ?_⟩
  refine ⟨_, rfl, _, _, _, _, rfl, rfl, hb, rfl, _, rfl, _, _, _, _, rfl, rfl, ha, rfl, _, _, rfl, rfl, wide_mul kb.1 ka.dn (by decide) (by decide) (by decide), _, _, rfl, rfl, ?_⟩
  show Q (.bl (decide (a.num * (b.den : Int) < b.num * (a.den : Int)))) H
  rw [lt_top]
  exact q
theorem ok_opposite (T : Txt K mg) : FnOk P w K mg base CX0 1 T.f_opposite T.d_opposite P_opposite (spOpp K) := by
  refine T.F_opposite.ok sc_opposite (fun vs H Q E h => ?_) (fun cdv A outer s H vs Q E hr h => ?_)
  · obtain ⟨x, t, rfl, _⟩ := h; rfl
  obtain ⟨_, a, rfl, ⟨x, rfl, ha⟩, q⟩ := h
  refine ⟨_, (pss_one (ps_ret (pe_tup (pa_cons (pe_un un_neg (pe_ix ix_tup (pv 0) pe_int (fun _ _ => rfl))) (pa_cons (pe_ix ix_tup (pv 0) pe_int (fun _ _ => rfl)) pa_nil))))), ?_⟩
  refine ⟨_, rfl, x, _, _, _, rfl, rfl, ha, rfl, _, rfl, _, rfl, x, _, _, _, rfl, rfl, ha, rfl, sz_of (by show 2 ≤ 100000; decide), fun u hu => q _ _ (same_upd hu) ⟨u, rfl, ?_⟩⟩
  rw [Rat.neg_num, Rat.neg_den]
  exact st_of upd_same
theorem ok_is_ratio (T : Txt K mg) : FnOk P w K mg base CX0 2 T.f_is_ratio T.d_is_ratio P_is_ratio (spIsRatio K) := by
  refine T.F_is_ratio.ok sc_is_ratio (fun vs H Q E h => ?_) (fun cdv A outer s H vs Q E hr h => ?_)
  · obtain ⟨x, t, rfl, _⟩ := h; rfl
  obtain ⟨x, r, rfl, ⟨a, rfl, ha⟩, q⟩ := h
  refine ⟨_, (pss_cons (ps_if (PW.pt (pw_or (pt_cmpR op_isNotTy (pe_callTy call_type1 (by rfl) T.n_type (by decide +kernel) (pa_cons (pv 0) pa_nil)) (pe_bltn (v := .ty "tuple") (by rfl) T.n_tuple (by decide +kernel) rfl) (nomark _)) (pw_or1 (pt_cmpR op_ne (pe_callB call_len_seq (by rfl) T.n_len PySem.boot_len (pa_cons (pv 0) pa_nil)) pe_int (nomark _))))) (pss_one (ps_ret pe_bl)) pss_nil)
      (pss_cons (ps_if (PW.pt (pw_or (pt_not (pt_val (pe_call (ok_is_whole T) (hr.mono (by decide)) (by rfl) T.g_is_whole T.F_is_whole.kp (b_is_whole T) .nil pass0 (pa_cons (pe_ix ix_tup (pv 0) pe_int (fun _ _ => rfl)) pa_nil)))) (pw_or1 (pt_not (pt_val (pe_call (ok_is_whole T) (hr.mono (by decide)) (by rfl) T.g_is_whole T.F_is_whole.kp (b_is_whole T) .nil pass0 (pa_cons (pe_ix ix_tup (pv 0) pe_int (fun _ _ => rfl)) pa_nil))))))) (pss_one (ps_ret pe_bl)) pss_nil)
      (pss_one (ps_ret (pe_and (pe_cmpR op_gt (pe_ix ix_tup (pv 0) pe_int (fun _ _ => rfl)) pe_int (nomark _)) (pe_one (pe_cmpR op_eq (pe_callBfun cr_gcd (by rfl) T.g_gcd (pa_cons (pe_ix ix_tup (pv 0) pe_int (fun _ _ => rfl)) (pa_cons (pe_ix ix_tup (pv 0) pe_int (fun _ _ => rfl)) pa_nil))) pe_int (nomark _)))))))), ?_⟩
  refine ⟨_, rfl, _, _, rfl, .tup ha, _, _, rfl, rfl, _, rfl, iteF ?_⟩
  refine ⟨_, rfl, a, _, rfl, .inr ha, rfl, _, rfl, iteF ?_⟩
  refine ⟨_, rfl, a, _, _, _, rfl, rfl, ha, rfl, _, "int", rfl, .int _, _, rfl, iteF ?_⟩
  refine ⟨_, rfl, a, _, _, _, rfl, rfl, ha, rfl, _, "int", rfl, .int _, _, rfl, iteF ?_⟩
  refine ⟨_, rfl, a, _, _, _, rfl, rfl, ha, rfl, _, _, rfl, rfl, _, rfl, ?_⟩
  have hd : decide ((r.den : Int) > 0) = true := decide_eq_true (by have := den_pos r; omega)
  rw [hd]
  refine iteT ⟨_, rfl, a, _, _, _, rfl, rfl, ha, rfl, _, rfl, a, _, _, _, rfl, rfl, ha, rfl, _, _, rfl, rfl, ?_⟩
  have e : V.bl (decide (V.int ((Nat.gcd r.num.natAbs (r.den : Int).natAbs : Nat) : Int) = V.int 1)) = V.bl true := by rw [gcd_one] <;> rfl
  show Q _ _
  rw [e]
  exact q
theorem ok_plus (T : Txt K mg) : FnOk P w K mg base CX0 2 T.f_plus T.d_plus P_plus (spTwo K (· + ·)) := by
  refine T.F_plus.ok sc_plus (fun vs H Q E h => ?_) (fun cdv A outer s H vs Q E hr h => ?_)
  · obtain ⟨x, t, _, _, rfl, _⟩ := h; rfl
  obtain ⟨_, _, a, b, rfl, ⟨x, rfl, ha⟩, ⟨y, rfl, hb⟩, ka, kb, q⟩ := h
  refine ⟨_, (pss_one (ps_ret (pe_call (ok_lowest T) (hr.mono (by decide)) (by rfl) T.g_lowest T.F_lowest.kp (b_lowest T) .nil pass0 (pa_cons (pe_op op_add (pe_op op_mulW (pe_ix ix_tup (pv 0) pe_int (fun _ _ => rfl)) (pe_ix ix_tup (pv 1) pe_int (fun _ _ => rfl))) (pe_op op_mulW (pe_ix ix_tup (pv 1) pe_int (fun _ _ => rfl)) (pe_ix ix_tup (pv 0) pe_int (fun _ _ => rfl)))) (pa_cons (pe_op op_mulW (pe_ix ix_tup (pv 0) pe_int (fun _ _ => rfl)) (pe_ix ix_tup (pv 1) pe_int (fun _ _ => rfl))) pa_nil))))), ?_⟩
  have m1 := abs_mul_lt ka.1 kb.dn
  have m2 := abs_mul_lt kb.1 ka.dn
  refine ⟨_, rfl, _, _, _, _, rfl, rfl, ha, rfl, _, rfl, _, _, _, _, rfl, rfl, hb, rfl, _, _, rfl, rfl, wide_mul ka.1 kb.dn (by decide) (by decide) (by decide), ?_⟩
  refine ⟨_, rfl, _, _, _, _, rfl, rfl, hb, rfl, _, rfl, _, _, _, _, rfl, rfl, ha, rfl, _, _, rfl, rfl, wide_mul kb.1 ka.dn (by decide) (by decide) (by decide), _, _, rfl, rfl, ?_⟩
  refine ⟨_, rfl, _, _, _, _, rfl, rfl, ha, rfl, _, rfl, _, _, _, _, rfl, rfl, hb, rfl, _, _, rfl, rfl, wide_mul ka.dn kb.dn (by decide) (by decide) (by decide), ?_⟩
  refine ⟨_, _, rfl, dd_ne a b, pow_mono (add_top ka kb) (by decide), pow_mono (dd_lt ka kb) (by decide), ?_⟩
  rw [add_div]
  exact q
theorem ok_times (T : Txt K mg) : FnOk P w K mg base CX0 2 T.f_times T.d_times P_times (spTwo K (· * ·)) := by
  refine T.F_times.ok sc_times (fun vs H Q E h => ?_) (fun cdv A outer s H vs Q E hr h => ?_)
  · obtain ⟨x, t, _, _, rfl, _⟩ := h; rfl
  obtain ⟨_, _, a, b, rfl, ⟨x, rfl, ha⟩, ⟨y, rfl, hb⟩, ka, kb, q⟩ := h
  refine ⟨_, (pss_one (ps_ret (pe_call (ok_lowest T) (hr.mono (by decide)) (by rfl) T.g_lowest T.F_lowest.kp (b_lowest T) .nil pass0 (pa_cons (pe_op op_mulW (pe_ix ix_tup (pv 0) pe_int (fun _ _ => rfl)) (pe_ix ix_tup (pv 1) pe_int (fun _ _ => rfl))) (pa_cons (pe_op op_mulW (pe_ix ix_tup (pv 0) pe_int (fun _ _ => rfl)) (pe_ix ix_tup (pv 1) pe_int (fun _ _ => rfl))) pa_nil))))), ?_⟩
  refine ⟨_, rfl, _, _, _, _, rfl, rfl, ha, rfl, _, rfl, _, _, _, _, rfl, rfl, hb, rfl, _, _, rfl, rfl, wide_mul ka.1 kb.1 (by decide) (by decide) (by decide), ?_⟩
  refine ⟨_, rfl, _, _, _, _, rfl, rfl, ha, rfl, _, rfl, _, _, _, _, rfl, rfl, hb, rfl, _, _, rfl, rfl, wide_mul ka.dn kb.dn (by decide) (by decide) (by decide), ?_⟩
  refine ⟨_, _, rfl, dd_ne a b, pow_mono (abs_mul_lt ka.1 kb.1) (by decide), pow_mono (dd_lt ka kb) (by decide), ?_⟩
  rw [mul_div]
  exact q
theorem ok__law_plus (T : Txt K mg) : FnOk P w K mg base CX0 2 T.f__law_plus T.d__law_plus P_law_plus (spTwo K (· + ·)) := by
  refine T.F__law_plus.ok sc_law_plus (fun vs H Q E h => ?_) (fun cdv A outer s H vs Q E hr h => ?_)
  · obtain ⟨x, t, _, _, rfl, _⟩ := h; rfl
  obtain ⟨_, _, a, b, rfl, ⟨x, rfl, ha⟩, ⟨y, rfl, hb⟩, ka, kb, q⟩ := h
  refine ⟨_, (pss_one (ps_ret (pe_call (ok__law_made T) (hr.mono (by decide)) (by rfl) T.g__law_made T.F__law_made.kp (b__law_made T) .nil pass0 (pa_cons (pe_op op_add (pe_op op_mulW (pe_ix ix_tup (pv 0) pe_int (fun _ _ => rfl)) (pe_ix ix_tup (pv 1) pe_int (fun _ _ => rfl))) (pe_op op_mulW (pe_ix ix_tup (pv 1) pe_int (fun _ _ => rfl)) (pe_ix ix_tup (pv 0) pe_int (fun _ _ => rfl)))) (pa_cons (pe_op op_mulW (pe_ix ix_tup (pv 0) pe_int (fun _ _ => rfl)) (pe_ix ix_tup (pv 1) pe_int (fun _ _ => rfl))) pa_nil))))), ?_⟩
  refine ⟨_, rfl, _, _, _, _, rfl, rfl, ha, rfl, _, rfl, _, _, _, _, rfl, rfl, hb, rfl, _, _, rfl, rfl, wide_mul ka.1 kb.dn (by decide) (by decide) (by decide), ?_⟩
  refine ⟨_, rfl, _, _, _, _, rfl, rfl, hb, rfl, _, rfl, _, _, _, _, rfl, rfl, ha, rfl, _, _, rfl, rfl, wide_mul kb.1 ka.dn (by decide) (by decide) (by decide), _, _, rfl, rfl, ?_⟩
  refine ⟨_, rfl, _, _, _, _, rfl, rfl, ha, rfl, _, rfl, _, _, _, _, rfl, rfl, hb, rfl, _, _, rfl, rfl, wide_mul ka.dn kb.dn (by decide) (by decide) (by decide), ?_⟩
  refine ⟨_, _, rfl, dd_ne a b, pow_mono (add_top ka kb) (by decide), pow_mono (dd_lt ka kb) (by decide), ?_⟩
  rw [add_div]
  exact q
theorem ok__law_times (T : Txt K mg) : FnOk P w K mg base CX0 2 T.f__law_times T.d__law_times P_law_times (spTwo K (· * ·)) := by
  refine T.F__law_times.ok sc_law_times (fun vs H Q E h => ?_) (fun cdv A outer s H vs Q E hr h => ?_)
  · obtain ⟨x, t, _, _, rfl, _⟩ := h; rfl
  obtain ⟨_, _, a, b, rfl, ⟨x, rfl, ha⟩, ⟨y, rfl, hb⟩, ka, kb, q⟩ := h
  refine ⟨_, (pss_one (ps_ret (pe_call (ok__law_made T) (hr.mono (by decide)) (by rfl) T.g__law_made T.F__law_made.kp (b__law_made T) .nil pass0 (pa_cons (pe_op op_mulW (pe_ix ix_tup (pv 0) pe_int (fun _ _ => rfl)) (pe_ix ix_tup (pv 1) pe_int (fun _ _ => rfl))) (pa_cons (pe_op op_mulW (pe_ix ix_tup (pv 0) pe_int (fun _ _ => rfl)) (pe_ix ix_tup (pv 1) pe_int (fun _ _ => rfl))) pa_nil))))), ?_⟩
  refine ⟨_, rfl, _, _, _, _, rfl, rfl, ha, rfl, _, rfl, _, _, _, _, rfl, rfl, hb, rfl, _, _, rfl, rfl, wide_mul ka.1 kb.1 (by decide) (by decide) (by decide), ?_⟩
  refine ⟨_, rfl, _, _, _, _, rfl, rfl, ha, rfl, _, rfl, _, _, _, _, rfl, rfl, hb, rfl, _, _, rfl, rfl, wide_mul ka.dn kb.dn (by decide) (by decide) (by decide), ?_⟩
  refine ⟨_, _, rfl, dd_ne a b, pow_mono (abs_mul_lt ka.1 kb.1) (by decide), pow_mono (dd_lt ka kb) (by decide), ?_⟩
  rw [mul_div]
  exact q
theorem ok__law_pick (T : Txt K mg) : FnOk P w K mg base CX0 2 T.f__law_pick T.d__law_pick P_law_pick (spPick K) := by
  refine T.F__law_pick.ok sc_law_pick (fun vs H Q E h => ?_) (fun cdv A outer s H vs Q E hr h => ?_)
  · obtain ⟨x, t, _, rfl, _⟩ := h; rfl
  obtain ⟨r, b, ws, rfl, hR, hb, hne, h0, h1, q⟩ := h
  refine ⟨_, (pss_one (ps_ret (pe_ix ix_list (pv 1) (pe_call (ok__law_taken T) (hr.mono (by decide)) (by rfl) T.g__law_taken T.F__law_taken.kp (b__law_taken T) .nil pass0 (pa_cons (pv 0) (pa_cons (pe_callB call_len_seq (by rfl) T.n_len PySem.boot_len (pa_cons (pv 1) pa_nil)) pa_nil))) (fun _ _ => rfl)))), ?_⟩
  refine ⟨_, rfl, _, rfl, _, rfl, b, ws, rfl, .inl (sl_of hb), r, _, rfl, hR, by omega, by omega, fun k H1 k0 k1 hR1 hro => ?_⟩
  obtain ⟨j, rfl⟩ : ∃ j : Nat, k = (j : Int) := ⟨k.toNat, by omega⟩
  have hk : j < ws.length := by omega
  exact ⟨b, ws, _, ws[j], rfl, rfl, sl_of (hro _ _ hne hb), atI_nat (List.getElem?_eq_getElem hk), q _ _ (List.getElem_mem hk) hR1 hro⟩
theorem ok_minus (T : Txt K mg) : FnOk P w K mg base CX0 2 T.f_minus T.d_minus P_minus (spTwo K (· - ·)) := by
  refine T.F_minus.ok sc_minus (fun vs H Q E h => ?_) (fun cdv A outer s H vs Q E hr h => ?_)
  · obtain ⟨x, t, _, _, rfl, _⟩ := h; rfl
  obtain ⟨_, _, a, b, rfl, ⟨x, rfl, ha⟩, ⟨y, rfl, hb⟩, ka, kb, q⟩ := h
  refine ⟨_, (pss_one (ps_ret (pe_call (ok_lowest T) (hr.mono (by decide)) (by rfl) T.g_lowest T.F_lowest.kp (b_lowest T) .nil pass0 (pa_cons (pe_op op_sub (pe_op op_mulW (pe_ix ix_tup (pv 0) pe_int (fun _ _ => rfl)) (pe_ix ix_tup (pv 1) pe_int (fun _ _ => rfl))) (pe_op op_mulW (pe_ix ix_tup (pv 1) pe_int (fun _ _ => rfl)) (pe_ix ix_tup (pv 0) pe_int (fun _ _ => rfl)))) (pa_cons (pe_op op_mulW (pe_ix ix_tup (pv 0) pe_int (fun _ _ => rfl)) (pe_ix ix_tup (pv 1) pe_int (fun _ _ => rfl))) pa_nil))))), ?_⟩
  refine ⟨_, rfl, _, _, _, _, rfl, rfl, ha, rfl, _, rfl, _, _, _, _, rfl, rfl, hb, rfl, _, _, rfl, rfl, wide_mul ka.1 kb.dn (by decide) (by decide) (by decide), ?_⟩
  refine ⟨_, rfl, _, _, _, _, rfl, rfl, hb, rfl, _, rfl, _, _, _, _, rfl, rfl, ha, rfl, _, _, rfl, rfl, wide_mul kb.1 ka.dn (by decide) (by decide) (by decide), _, _, rfl, rfl, ?_⟩
  refine ⟨_, rfl, _, _, _, _, rfl, rfl, ha, rfl, _, rfl, _, _, _, _, rfl, rfl, hb, rfl, _, _, rfl, rfl, wide_mul ka.dn kb.dn (by decide) (by decide) (by decide), ?_⟩
  refine ⟨_, _, rfl, dd_ne a b, pow_mono (sub_top ka kb) (by decide), pow_mono (dd_lt ka kb) (by decide), ?_⟩
  rw [sub_div]
  exact q
theorem ok__law_minus (T : Txt K mg) : FnOk P w K mg base CX0 2 T.f__law_minus T.d__law_minus P_law_minus (spTwo K (· - ·)) := by
  refine T.F__law_minus.ok sc_law_minus (fun vs H Q E h => ?_) (fun cdv A outer s H vs Q E hr h => ?_)
  · obtain ⟨x, t, _, _, rfl, _⟩ := h; rfl
  obtain ⟨_, _, a, b, rfl, ⟨x, rfl, ha⟩, ⟨y, rfl, hb⟩, ka, kb, q⟩ := h
  refine ⟨_, (pss_one (ps_ret (pe_call (ok__law_made T) (hr.mono (by decide)) (by rfl) T.g__law_made T.F__law_made.kp (b__law_made T) .nil pass0 (pa_cons (pe_op op_sub (pe_op op_mulW (pe_ix ix_tup (pv 0) pe_int (fun _ _ => rfl)) (pe_ix ix_tup (pv 1) pe_int (fun _ _ => rfl))) (pe_op op_mulW (pe_ix ix_tup (pv 1) pe_int (fun _ _ => rfl)) (pe_ix ix_tup (pv 0) pe_int (fun _ _ => rfl)))) (pa_cons (pe_op op_mulW (pe_ix ix_tup (pv 0) pe_int (fun _ _ => rfl)) (pe_ix ix_tup (pv 1) pe_int (fun _ _ => rfl))) pa_nil))))), ?_⟩
  refine ⟨_, rfl, _, _, _, _, rfl, rfl, ha, rfl, _, rfl, _, _, _, _, rfl, rfl, hb, rfl, _, _, rfl, rfl, wide_mul ka.1 kb.dn (by decide) (by decide) (by decide), ?_⟩
  refine ⟨_, rfl, _, _, _, _, rfl, rfl, hb, rfl, _, rfl, _, _, _, _, rfl, rfl, ha, rfl, _, _, rfl, rfl, wide_mul kb.1 ka.dn (by decide) (by decide) (by decide), _, _, rfl, rfl, ?_⟩
  refine ⟨_, rfl, _, _, _, _, rfl, rfl, ha, rfl, _, rfl, _, _, _, _, rfl, rfl, hb, rfl, _, _, rfl, rfl, wide_mul ka.dn kb.dn (by decide) (by decide) (by decide), ?_⟩
  refine ⟨_, _, rfl, dd_ne a b, pow_mono (sub_top ka kb) (by decide), pow_mono (dd_lt ka kb) (by decide), ?_⟩
  rw [sub_div]
  exact q
theorem ok_over (T : Txt K mg) : FnOk P w K mg base CX0 2 T.f_over T.d_over P_over (spOver K) := by
  refine T.F_over.ok sc_over (fun vs H Q E h => ?_) (fun cdv A outer s H vs Q E hr h => ?_)
  · obtain ⟨x, t, _, _, rfl, _⟩ := h; rfl
  obtain ⟨_, _, a, b, rfl, ⟨x, rfl, ha⟩, ⟨y, rfl, hb⟩, ka, kb, h0, q⟩ := h
  refine ⟨_, (pss_one (ps_ret (pe_call (ok_lowest T) (hr.mono (by decide)) (by rfl) T.g_lowest T.F_lowest.kp (b_lowest T) .nil pass0 (pa_cons (pe_op op_mulW (pe_ix ix_tup (pv 0) pe_int (fun _ _ => rfl)) (pe_ix ix_tup (pv 1) pe_int (fun _ _ => rfl))) (pa_cons (pe_op op_mulW (pe_ix ix_tup (pv 0) pe_int (fun _ _ => rfl)) (pe_ix ix_tup (pv 1) pe_int (fun _ _ => rfl))) pa_nil))))), ?_⟩
  refine ⟨_, rfl, _, _, _, _, rfl, rfl, ha, rfl, _, rfl, _, _, _, _, rfl, rfl, hb, rfl, _, _, rfl, rfl, wide_mul ka.1 kb.dn (by decide) (by decide) (by decide), ?_⟩
  refine ⟨_, rfl, _, _, _, _, rfl, rfl, ha, rfl, _, rfl, _, _, _, _, rfl, rfl, hb, rfl, _, _, rfl, rfl, wide_mul ka.dn kb.1 (by decide) (by decide) (by decide), ?_⟩
  refine ⟨_, _, rfl, Int.mul_ne_zero (den_ne a) (num_ne h0), pow_mono (abs_mul_lt ka.1 kb.dn) (by decide), pow_mono (abs_mul_lt ka.dn kb.1) (by decide), ?_⟩
  rw [div_div a b h0]
  exact q
theorem ok__law_over (T : Txt K mg) : FnOk P w K mg base CX0 2 T.f__law_over T.d__law_over P_law_over (spOver K) := by
  refine T.F__law_over.ok sc_law_over (fun vs H Q E h => ?_) (fun cdv A outer s H vs Q E hr h => ?_)
  · obtain ⟨x, t, _, _, rfl, _⟩ := h; rfl
  obtain ⟨_, _, a, b, rfl, ⟨x, rfl, ha⟩, ⟨y, rfl, hb⟩, ka, kb, h0, q⟩ := h
  refine ⟨_, (pss_one (ps_ret (pe_call (ok__law_made T) (hr.mono (by decide)) (by rfl) T.g__law_made T.F__law_made.kp (b__law_made T) .nil pass0 (pa_cons (pe_op op_mulW (pe_ix ix_tup (pv 0) pe_int (fun _ _ => rfl)) (pe_ix ix_tup (pv 1) pe_int (fun _ _ => rfl))) (pa_cons (pe_op op_mulW (pe_ix ix_tup (pv 0) pe_int (fun _ _ => rfl)) (pe_ix ix_tup (pv 1) pe_int (fun _ _ => rfl))) pa_nil))))), ?_⟩
  refine ⟨_, rfl, _, _, _, _, rfl, rfl, ha, rfl, _, rfl, _, _, _, _, rfl, rfl, hb, rfl, _, _, rfl, rfl, wide_mul ka.1 kb.dn (by decide) (by decide) (by decide), ?_⟩
  refine ⟨_, rfl, _, _, _, _, rfl, rfl, ha, rfl, _, rfl, _, _, _, _, rfl, rfl, hb, rfl, _, _, rfl, rfl, wide_mul ka.dn kb.1 (by decide) (by decide) (by decide), ?_⟩
  refine ⟨_, _, rfl, Int.mul_ne_zero (den_ne a) (num_ne h0), pow_mono (abs_mul_lt ka.1 kb.dn) (by decide), pow_mono (abs_mul_lt ka.dn kb.1) (by decide), ?_⟩
  rw [div_div a b h0]
  exact q
theorem ok_is_integer (T : Txt K mg) : FnOk P w K mg base CX0 2 T.f_is_integer T.d_is_integer P_is_integer (spInteger K) := by
  refine T.F_is_integer.ok sc_is_integer (fun vs H Q E h => ?_) (fun cdv A outer s H vs Q E hr h => ?_)
  · obtain ⟨x, t, _, rfl, _⟩ := h; rfl
  obtain ⟨v, l, m, rfl, h1, h2, q⟩ := h
  refine ⟨_, (pss_one (ps_ret (pe_and (pe_call (ok_is_whole T) (hr.mono (by decide)) (by rfl) T.g_is_whole T.F_is_whole.kp (b_is_whole T) .nil pass0 (pa_cons (pv 0) pa_nil)) (pe_one (pe_chain op_le op_le (pv 1) (pv 0) (pv 2)))))), ?_⟩
  refine ⟨_, rfl, _, "int", rfl, .int _, true, rfl, iteT ?_⟩
  refine ⟨_, rfl, _, rfl, _, _, rfl, rfl, _, rfl, ite2 (fun c => ?_) (fun c => absurd (decide_eq_true h1) c)⟩
  refine ⟨_, rfl, _, _, rfl, rfl, ?_⟩
  show Q (.bl (decide (v ≤ m))) H
  rw [decide_eq_true h2]
  exact q
theorem ok_are_ratios (T : Txt K mg) : FnOk P w K mg base CX0 3 T.f_are_ratios T.d_are_ratios P_are_ratios (spAreRatios K) := by
  refine T.F_are_ratios.ok sc_are_ratios (fun vs H Q E h => ?_) (fun cdv A outer s H vs Q E hr h => ?_)
  · obtain ⟨x, t, _, rfl, _⟩ := h; rfl
  obtain ⟨_, p, n, rfl, hp, hz, hn, q⟩ := h
  obtain ⟨a, xs, rfl, ha, rs, hl⟩ := hp.len
  refine ⟨_, (pss_one (ps_ret (pe_and (pe_cmpR op_isTy (pe_callTy call_type1 (by rfl) T.n_type (by decide +kernel) (pa_cons (pv 0) pa_nil)) (pe_bltn (v := .ty "tuple") (by rfl) T.n_tuple (by decide +kernel) rfl) (nomark _)) (pe_and (pe_cmpR op_eq (pe_callB call_len_seq (by rfl) T.n_len PySem.boot_len (pa_cons (pv 0) pa_nil)) (pv 1) (nomark _)) (pe_one (pe_callB (cr_all rfl) (by rfl) T.n_all (by decide +kernel) (pa_cons (pe_lc (own := [("item", 2)]) (g := gName 2) (tt := tYes) rfl sc_are_ratios.nd (pi_tup (pv 0)) (blkOk_by (own := [("item", 2)]) (N := N_are_ratios) (sc := defScope s_are_ratios) (by decide +kernel)) (fun _ _ _ _ _ => (pg_name (i := 2) sc_are_ratios.nd rfl (Or.inl rfl))) (fun _ _ _ _ _ => pts_nil) (fun _ _ _ _ _ => (pe_call (ok_is_ratio T) (hr.mono (by decide)) (by rfl) T.g_is_ratio T.F_is_ratio.kp (b_is_ratio T) .nil pass0 (pa_cons (pv 2) pa_nil)))) pa_nil))))))), ?_⟩
  refine ⟨_, rfl, _, "tuple", rfl, .tup ha, _, _, rfl, rfl, true, rfl, iteT ?_⟩
  refine ⟨_, rfl, a, xs, rfl, .inr ha, _, rfl, rfl, true, congrArg V.bl (decide_eq_true (by rw [hl, hn])), iteT ?_⟩
  refine ⟨_, rfl, a, rfl, ⟨_, ha⟩, fun D hD => lc_tup (xs := xs) (fun i H' => Lc H D ((List.replicate i true).map V.bl) H') (Lc.start hD) (fun i H' _ l => kp_t (kp_same l.2.1) ha) (fun i x H' hx l => ?_) (fun H' l => ?_)⟩
  · obtain ⟨r, hr1, hr2⟩ := pr_get' rs hx
    refine ⟨rfl, ?_⟩
    show tCall (spIsRatio K) [] E0 (tCons (tVar 2) tNil) _ _ _
    refine ⟨_, rfl, x, r, rfl, hr2.sm l.2.1, _, l.2.2, ?_, l.next (Same.refl _) ?_⟩
    · rw [List.length_map, List.length_replicate]
      have := (List.getElem?_eq_some_iff.mp hx).1
      exact sz_lt (by omega)
    · rw [List.replicate_succ', List.map_append] <;> rfl
  · refine ⟨D, _, rfl, sl_of l.2.2, ?_⟩
    have e : (List.replicate xs.length true).all id = true := by simp
    rw [e]
    exact q _ l.2.1
theorem ok_sum_of (T : Txt K mg) : FnOk P w K mg base CX0 3 T.f_sum_of T.d_sum_of P_sum_of (spSumOf K) := by
  refine T.F_sum_of.ok sc_sum_of (fun vs H Q E h => ?_) (fun cdv A outer s H vs Q E hr h => ?_)
  · obtain ⟨x, t, _, _, rfl, _⟩ := h; rfl
  obtain ⟨_, _, p, r, rfl, hp, hq, hz1, hz2, hb1, hb2, q⟩ := h
  obtain ⟨a, xs, rfl, ha, rs, hl⟩ := hp.len
  obtain ⟨b, ys, rfl, hb, ss, hm⟩ := hq.len
  refine ⟨_, (pss_cons (ps_set (i := 2) sc_sum_of.nd rfl (.inl rfl) (pe_op op_rep (pe_lst (pa_cons (pe_glob (v := .ref T.a_ZERO) (by rfl) T.g_ZERO rfl) pa_nil)) (pe_callB (call_max2 rfl) (by rfl) T.n_max (by decide +kernel) (pa_cons (pe_callB call_len_seq (by rfl) T.n_len PySem.boot_len (pa_cons (pv 0) pa_nil)) (pa_cons (pe_callB call_len_seq (by rfl) T.n_len PySem.boot_len (pa_cons (pv 1) pa_nil)) pa_nil)))))
      (pss_cons (ps_for PassesOwn.never rfl (pi_enumT (by rfl) T.n_enumerate (pa_cons (pv 0) pa_nil)) (pg_tup rfl (pgs_cons (pg_name (i := 3) sc_sum_of.nd rfl (.inl rfl)) (pgs_cons (pg_name (i := 4) sc_sum_of.nd rfl (.inl rfl)) pgs_nil))) (pss_one (ps_asg (pv 4) (pg_sub (pv 2) (pv 3) set_list))))
      (pss_cons (ps_for PassesOwn.never rfl (pi_enumT (by rfl) T.n_enumerate (pa_cons (pv 1) pa_nil)) (pg_tup rfl (pgs_cons (pg_name (i := 3) sc_sum_of.nd rfl (.inl rfl)) (pgs_cons (pg_name (i := 4) sc_sum_of.nd rfl (.inl rfl)) pgs_nil))) (pss_one (ps_asg (pe_call (ok_plus T) (hr.mono (by decide)) (by rfl) T.g_plus T.F_plus.kp (b_plus T) .nil pass0 (pa_cons (pe_ix ix_list (pv 2) (pv 3) (fun _ _ => rfl)) (pa_cons (pv 4) pa_nil))) (pg_sub (pv 2) (pv 3) set_list))))
      (pss_one (ps_ret (pe_call (ok_trimmed T) (hr.mono (by decide)) (by rfl) T.g_trimmed T.F_trimmed.kp (b_trimmed T) .nil pass0 (pa_cons (pv 2) pa_nil))))))), ?_⟩
  -- numbers
  refine ⟨sz_of (by show 1 ≤ 100000; decide), fun l hl' => ?_⟩
  have e1 : Same H (upd H l (.lst [.ref T.a_ZERO])) := same_upd hl'
  refine ⟨_, rfl, a, xs, rfl, .inr (kp_t (kp_same e1) ha), _, rfl, b, ys, rfl, .inr (kp_t (kp_same e1) hb), _, _, rfl, ?_⟩
  have hN : (if (ys.length : Int) > (xs.length : Int) then (ys.length : Int) else (xs.length : Int)) = ((max xs.length ys.length : Nat) : Int) := by
    by_cases z : (ys.length : Int) > (xs.length : Int)
    · rw [if_pos z]; omega
    · rw [if_neg z]; omega
  rw [hN]
  generalize hNN : max xs.length ys.length = N
  refine ⟨l, (N : Int), _, rfl, rfl, upd_same, by omega, by omega, sz_of (by show 1 * _ ≤ 100000; omega), fun D hD => ?_⟩
  rw [Int.toNat_natCast, rep_flat]
  have e2 := e1.trans (same_upd (o := .lst (List.replicate N (.ref T.a_ZERO))) hD)
  have f0 : Fi K H D (List.replicate N 0) (upd (upd H l (.lst [.ref T.a_ZERO])) D (.lst (List.replicate N (.ref T.a_ZERO)))) :=
    ⟨e1.free hD, e2, _, upd_same, pr_rep (rt_zero (T.k_ZERO _)) N⟩
  generalize upd (upd H l (.lst [.ref T.a_ZERO])) D (.lst (List.replicate N (.ref T.a_ZERO))) = H2 at f0
  -- the first loop
  refine ⟨_, rfl, a, xs, rfl, kp_t (kp_same f0.sm) ha, for_it walk_enumT (fun i σ H' => ∃ L z1 z2, Fi K H D L H' ∧ L.length = N ∧ (∀ n, cf L n = if n < i then cf p n else 0) ∧ σ = [some (.ref a), some (.ref b), some (.ref D), z1, z2]) ⟨_, none, none, f0, List.length_replicate .., fun n => by rw [cf_rep, if_neg (by omega)], rfl⟩ (fun i σ H' _ ⟨L, z1, z2, f, _⟩ => kp_t (kp_same f.sm) ha) ?_ ?_⟩
  · rintro i x σ H3 H4 hi ⟨L, z1, z2, f, hL, hc, rfl⟩ ⟨t, x1, y1, rfl, ht, rfl, e3, e4⟩
    cases e3
    have f' := f.sm' (same_upd (o := .tup [.int (i : Nat), y1]) ht)
    refine ⟨t, _, rfl, st_of upd_same, rfl, _, _, rfl, _, _, rfl, rfl, ?_⟩
    obtain ⟨c, hc1, hc2⟩ := pr_get' rs e4
    obtain ⟨vs, hv1, hv2⟩ := f'.li
    have hvl : vs.length = N := by rw [hv2.length, hL]
    refine ⟨_, rfl, _, rfl, _, rfl, D, vs, _, i, rfl, rfl, hv1, ixN_at (by omega), ?_⟩
    refine ⟨_, _, _, f'.set hv1 hv2 (hc2.sm f'.sm) i, by rw [List.length_set]; exact hL, fun n => ?_, rfl⟩
    rw [cf_set (by omega), hc n]
    by_cases z : n = i
    · subst z; rw [if_pos rfl, if_pos (by omega), cf_at hc1]
    · rw [if_neg z]
      by_cases z2 : n < i
      · rw [if_pos z2, if_pos (by omega)]
      · rw [if_neg z2, if_neg (by omega)]
  rintro σ H3 ⟨L, z1, z2, f, hL, hc, rfl⟩
  -- the second loop
  refine ⟨_, rfl, b, ys, rfl, kp_t (kp_same f.sm) hb, for_it walk_enumT (fun i σ H' => ∃ L z1 z2, Fi K H D L H' ∧ L.length = N ∧ (∀ n, cf L n = cf p n + if n < i then cf r n else 0) ∧ σ = [some (.ref a), some (.ref b), some (.ref D), z1, z2]) ⟨_, z1, z2, f, hL, fun n => ?_, rfl⟩ (fun i σ H' _ ⟨L, z1, z2, f, _⟩ => kp_t (kp_same f.sm) hb) ?_ ?_⟩
  · rw [hc n, if_neg (show ¬ n < 0 by omega)]
    by_cases z : n < xs.length
    · rw [if_pos z]; grind
    · rw [if_neg z, cf_ge (p := p) (by omega)]; grind
  · rintro i x σ H4 H5 hi ⟨L, z1, z2, f, hL, hc, rfl⟩ ⟨t, x1, y1, rfl, ht, rfl, e3, e4⟩
    cases e3
    have f' := f.sm' (same_upd (o := .tup [.int (i : Nat), y1]) ht)
    refine ⟨t, _, rfl, st_of upd_same, rfl, _, _, rfl, _, _, rfl, rfl, ?_⟩
    obtain ⟨c, hc1, hc2⟩ := pr_get' ss e4
    obtain ⟨vs, hv1, hv2⟩ := f'.li
    have hvl : vs.length = N := by rw [hv2.length, hL]
    have hiL : i < L.length := by omega
    obtain ⟨v, hv3, hv4⟩ := pr_get hv2 (List.getElem?_eq_getElem hiL)
    have eL : L[i] = cf p i := by
      rw [← cf_lt hiL, hc i, if_neg (by omega)]; grind
    rw [eL] at hv4
    refine ⟨_, rfl, _, rfl, D, vs, _, v, rfl, rfl, sl_of hv1, atI_nat hv3, _, rfl, _, _, _, _, rfl, hv4, hc2.sm f'.sm, bd_cf hb1 (by decide) i, hb2 c (List.mem_of_getElem? hc1), fun u H6 e6 hu => ?_⟩
    have f2 := f'.sm' e6
    refine ⟨_, rfl, _, rfl, D, vs, _, i, rfl, rfl, e6 _ _ hv1, ixN_at (by omega), ?_⟩
    refine ⟨_, _, _, f2.set (e6 _ _ hv1) (hv2.sm e6) hu i, by rw [List.length_set]; exact hL, fun n => ?_, rfl⟩
    rw [cf_set hiL, hc n]
    by_cases z : n = i
    · subst z; rw [if_pos rfl, if_pos (by omega), cf_at hc1]
    · rw [if_neg z]
      by_cases z2 : n < i
      · rw [if_pos z2, if_pos (by omega)]
      · rw [if_neg z2, if_neg (by omega)]
  rintro σ H4 ⟨L, z1, z2, f, hL, hc, rfl⟩
  obtain ⟨vs, hv1, hv2⟩ := f.li
  refine ⟨_, rfl, D, vs, L, rfl, hv1, hv2, by omega, fun u H5 e5 hu => q _ _ (f.sm.trans e5) ?_⟩
  have e : trim L = trim (padd p r) := trim_ext fun n => by
    rw [hc n, cf_padd]
    by_cases z : n < ys.length
    · rw [if_pos z]
    · rw [if_neg z, cf_ge (p := r) (by omega)]
  rw [← e]
  exact hu
theorem ok_product_of (T : Txt K mg) : FnOk P w K mg base CX0 3 T.f_product_of T.d_product_of P_product_of (spProdOf K) := by
  refine T.F_product_of.ok sc_product_of (fun vs H Q E h => ?_) (fun cdv A outer s H vs Q E hr h => ?_)
  · obtain ⟨x, t, _, _, _, _, rfl, _⟩ := h; rfl
  obtain ⟨_, _, p, r, k, k2, rfl, hp, hq, hz1, hz2, hk, hk2, hb1, hb2, hkk, q⟩ := h
  obtain ⟨a, xs, rfl, ha, rs, hl⟩ := hp.len
  obtain ⟨b, ys, rfl, hb, ss, hm⟩ := hq.len
  refine ⟨_, (pss_cons (ps_set (i := 2) sc_product_of.nd rfl (.inl rfl) (pe_op op_rep (pe_lst (pa_cons (pe_glob (v := .ref T.a_ZERO) (by rfl) T.g_ZERO rfl) pa_nil)) (pe_op op_add (pe_callB call_len_seq (by rfl) T.n_len PySem.boot_len (pa_cons (pv 0) pa_nil)) (pe_callB call_len_seq (by rfl) T.n_len PySem.boot_len (pa_cons (pv 1) pa_nil)))))
      (pss_cons (ps_for PassesOwn.never rfl (pi_enumT (by rfl) T.n_enumerate (pa_cons (pv 0) pa_nil)) (pg_tup rfl (pgs_cons (pg_name (i := 3) sc_product_of.nd rfl (.inl rfl)) (pgs_cons (pg_name (i := 4) sc_product_of.nd rfl (.inl rfl)) pgs_nil))) (pss_one (ps_for PassesOwn.never rfl (pi_enumT (by rfl) T.n_enumerate (pa_cons (pv 1) pa_nil)) (pg_tup rfl (pgs_cons (pg_name (i := 5) sc_product_of.nd rfl (.inl rfl)) (pgs_cons (pg_name (i := 6) sc_product_of.nd rfl (.inl rfl)) pgs_nil))) (pss_one (ps_asg (pe_call (ok_plus T) (hr.mono (by decide)) (by rfl) T.g_plus T.F_plus.kp (b_plus T) .nil pass0 (pa_cons (pe_ix ix_list (pv 2) (pe_op op_add (pv 3) (pv 5)) (fun _ _ => rfl)) (pa_cons (pe_call (ok_times T) (hr.mono (by decide)) (by rfl) T.g_times T.F_times.kp (b_times T) .nil pass0 (pa_cons (pv 4) (pa_cons (pv 6) pa_nil))) pa_nil))) (pg_sub (pv 2) (pe_op op_add (pv 3) (pv 5)) set_list))))))
      (pss_one (ps_ret (pe_call (ok_trimmed T) (hr.mono (by decide)) (by rfl) T.g_trimmed T.F_trimmed.kp (b_trimmed T) .nil pass0 (pa_cons (pv 2) pa_nil)))))), ?_⟩
  refine ⟨sz_of (by show 1 ≤ 100000; decide), fun l hl' => ?_⟩
  have e1 : Same H (upd H l (.lst [.ref T.a_ZERO])) := same_upd hl'
  refine ⟨_, rfl, a, xs, rfl, .inr (kp_t (kp_same e1) ha), _, rfl, b, ys, rfl, .inr (kp_t (kp_same e1) hb), _, _, rfl, rfl, ?_⟩
  have hN : (xs.length : Int) + (ys.length : Int) = ((xs.length + ys.length : Nat) : Int) := by omega
  refine ⟨l, _, _, rfl, rfl, upd_same, by omega, by omega, sz_of (by show 1 * _ ≤ 100000; omega), fun D hD => ?_⟩
  rw [hN, Int.toNat_natCast, rep_flat]
  generalize hNN : xs.length + ys.length = N
  have e2 := e1.trans (same_upd (o := .lst (List.replicate N (.ref T.a_ZERO))) hD)
  have f0 : Fi K H D (List.replicate N 0) (upd (upd H l (.lst [.ref T.a_ZERO])) D (.lst (List.replicate N (.ref T.a_ZERO)))) :=
    ⟨e1.free hD, e2, _, upd_same, pr_rep (rt_zero (T.k_ZERO _)) N⟩
  generalize upd (upd H l (.lst [.ref T.a_ZERO])) D (.lst (List.replicate N (.ref T.a_ZERO))) = H2 at f0
  refine ⟨_, rfl, a, xs, rfl, kp_t (kp_same f0.sm) ha, for_it walk_enumT (fun i σ H' => ∃ L z1 z2 z3 z4, Fi K H D L H' ∧ L.length = N ∧ (∀ n, cf L n = cf (pmul (p.take i) r) n) ∧ σ = [some (.ref a), some (.ref b), some (.ref D), z1, z2, z3, z4]) ⟨_, none, none, none, none, f0, List.length_replicate .., fun n => by rw [cf_rep] <;> rfl, rfl⟩ (fun i σ H' _ ⟨L, _, _, _, _, f, _⟩ => kp_t (kp_same f.sm) ha) ?_ ?_⟩
  · rintro i x σ H3 H4 hi ⟨L, z1, z2, z3, z4, f, hL, hc, rfl⟩ ⟨t, x1, y1, rfl, ht, rfl, e3, e4⟩
    cases e3
    have f' := f.sm' (same_upd (o := .tup [.int (i : Nat), y1]) ht)
    refine ⟨t, _, rfl, st_of upd_same, rfl, _, _, rfl, _, _, rfl, rfl, ?_⟩
    obtain ⟨c, hc1, hc2⟩ := pr_get' rs e4
    have hip : i < p.length := by omega
    have hcc : cf p i = c := cf_at hc1
    -- the inner loop
    refine ⟨_, rfl, b, ys, rfl, kp_t (kp_same f'.sm) hb, for_it walk_enumT (fun j σ H' => ∃ L z3 z4, Fi K H D L H' ∧ L.length = N ∧ (∀ n, cf L n = prow p r i j n) ∧ σ = [some (.ref a), some (.ref b), some (.ref D), some (.int (i : Int)), some y1, z3, z4]) ⟨_, z3, z4, f', hL, fun n => by rw [prow_zero]; exact hc n, rfl⟩ (fun i σ H' _ ⟨L, _, _, f, _⟩ => kp_t (kp_same f.sm) hb) ?_ ?_⟩
    · rintro j x σ H5 H6 hj ⟨L, z3, z4, f, hL, hc, rfl⟩ ⟨u, x2, y2, rfl, hu, rfl, e5, e6⟩
      cases e5
      have f' := f.sm' (same_upd (o := .tup [.int (j : Nat), y2]) hu)
      refine ⟨u, _, rfl, st_of upd_same, rfl, _, _, rfl, _, _, rfl, rfl, ?_⟩
      obtain ⟨d, hd1, hd2⟩ := pr_get' ss e6
      obtain ⟨vs, hv1, hv2⟩ := f'.li
      have hvl : vs.length = N := by rw [hv2.length, hL]
      have hij : i + j < L.length := by omega
      obtain ⟨v, hv3, hv4⟩ := pr_get hv2 (List.getElem?_eq_getElem hij)
      have eij : (i : Int) + (j : Int) = ((i + j : Nat) : Int) := by omega
      have eL : L[i + j] = prow p r i j (i + j) := by rw [← cf_lt hij, hc]
      rw [eL] at hv4
      have bL : Bd kB (prow p r i j (i + j)) := (bd_prow hb1 hb2 hk hk2 hip j).le hkk
      have hmin : 1 ≤ min p.length r.length := by omega
      have hmul := Nat.mul_le_mul_right (k + k2 + 1) hmin
      have hk1 : k ≤ kB := by omega
      have hk3 : k2 ≤ kB := by omega
      have kc : Bd k c := hb1 c (List.mem_of_getElem? hc1)
      have kd : Bd k2 d := hb2 d (List.mem_of_getElem? hd1)
      have kcd : Bd kB (c * d) := (kc.mul kd).le (by omega)
      refine ⟨_, rfl, _, rfl, _, rfl, _, _, rfl, rfl, D, vs, _, v, rfl, rfl, sl_of hv1, by rw [eij]; exact atI_nat hv3, ?_⟩
      refine ⟨_, rfl, _, rfl, _, _, _, _, rfl, hc2.sm f'.sm, hd2.sm f'.sm, kc.le hk1, kd.le hk3, fun u1 H7 e7 hu1 => ?_⟩
      have f2 := f'.sm' e7
      refine ⟨_, _, _, _, rfl, hv4.sm e7, hu1, bL, kcd, fun u2 H8 e8 hu2 => ?_⟩
      have f3 := f2.sm' e8
      refine ⟨_, rfl, _, rfl, _, rfl, _, _, rfl, rfl, D, vs, _, i + j, rfl, rfl, e8 _ _ (e7 _ _ hv1), by rw [eij]; exact ixN_at (by omega), ?_⟩
      refine ⟨_, _, _, f3.set (e8 _ _ (e7 _ _ hv1)) (Rts.sm (Rts.sm hv2 e7) e8) hu2 (i + j), by rw [List.length_set]; exact hL, fun n => ?_, rfl⟩
      rw [cf_set hij, prow_next, hc n]
      by_cases z : n = i + j
      · subst z; rw [if_pos rfl, if_pos rfl, hcc, cf_at hd1]
      · rw [if_neg z, if_neg z]
    · rintro σ H5 ⟨L, z3, z4, f, hL, hc, rfl⟩
      exact ⟨L, _, _, z3, z4, f, hL, fun n => by rw [hc n, hm, prow_end p r i n hip], rfl⟩
  rintro σ H4 ⟨L, z1, z2, z3, z4, f, hL, hc, rfl⟩
  obtain ⟨vs, hv1, hv2⟩ := f.li
  refine ⟨_, rfl, D, vs, L, rfl, hv1, hv2, by omega, fun u H5 e5 hu => q _ _ (f.sm.trans e5) ?_⟩
  have e : trim L = trim (pmul p r) := trim_ext fun n => by
    rw [hc n, hl, List.take_length]
  rw [← e]
  exact hu
theorem ok__law_draw (T : Txt K mg) : FnOk P w K mg base CX0 3 T.f__law_draw T.d__law_draw P_law_draw (spDraw K) := by
  refine T.F__law_draw.ok sc_law_draw (fun vs H Q E h => ?_) (fun cdv A outer s H vs Q E hr h => ?_)
  · obtain ⟨x, rfl, _⟩ := h; rfl
  obtain ⟨r, rfl, hR, q⟩ := h
  refine ⟨_, (pss_cons (ps_set (i := 1) sc_law_draw.nd rfl (.inl rfl) (pe_call (ok__law_pick T) (hr.mono (by decide)) (by rfl) T.g__law_pick T.F__law_pick.kp (b__law_pick T) .nil pass0 (pa_cons (pv 0) (pa_cons (pe_lst (pa_cons pe_int (pa_cons pe_int (pa_cons pe_int (pa_cons pe_int (pa_cons pe_int pa_nil)))))) pa_nil))))
      (pss_one (ps_ret (pe_call (ok__law_made T) (hr.mono (by decide)) (by rfl) T.g__law_made T.F__law_made.kp (b__law_made T) .nil pass0 (pa_cons (pe_op op_sub (pe_call (ok__law_taken T) (hr.mono (by decide)) (by rfl) T.g__law_taken T.F__law_taken.kp (b__law_taken T) .nil pass0 (pa_cons (pv 0) (pa_cons pe_int pa_nil))) pe_int) (pa_cons (pv 1) pa_nil)))))), ?_⟩
  refine ⟨_, rfl, sz_of (by show 5 ≤ 100000; decide), fun b hb => ?_⟩
  have e1 : Same H (upd H b (.lst [.int 1, .int 1, .int 2, .int 3, .int 4])) := same_upd hb
  refine ⟨r, b, _, rfl, hR.sm e1, upd_same, hR.ne hb, (by decide : 0 < 5), (by decide : 5 ≤ 1000), fun v H1 hv hR1 hro1 => ?_⟩
  obtain ⟨z, rfl, hz⟩ : ∃ z : Int, v = .int z ∧ (1 ≤ z ∧ z ≤ 4) := by
    simp only [List.mem_cons, List.not_mem_nil, or_false] at hv
    rcases hv with h | h | h | h | h <;> exact ⟨_, h, by decide, by decide⟩
  refine ⟨_, rfl, r, 13, rfl, hR1, by decide, by decide, fun k H2 k0 k1 hR2 hro2 => ?_⟩
  refine ⟨_, _, rfl, rfl, _, rfl, _, _, rfl, by omega, pow_mono (a := 3) (by omega) (by decide), pow_mono (a := 3) (by omega) (by decide), fun y H3 e3 hy => ?_⟩
  exact q _ _ _ hy (div_bd (by omega) (by omega) (by omega)) (hR2.sm e3) (((ro_same e1).trans hro1).trans (hro2.trans (ro_same e3)))
theorem ok__law_at (T : Txt K mg) : FnOk P w K mg base CX0 3 T.f__law_at T.d__law_at P_law_at (spAt K) := by
  refine T.F__law_at.ok sc_law_at (fun vs H Q E h => ?_) (fun cdv A outer s H vs Q E hr h => ?_)
  · obtain ⟨x, t, _, _, _, _, rfl, _⟩ := h; rfl
  obtain ⟨_, y, p, c, n, m, rfl, hp, hq, hb, hbq, hsz, hz, q⟩ := h
  obtain ⟨a, xs, rfl, ha, rs, hl⟩ := hp.len
  refine ⟨_, (pss_cons (ps_set (i := 2) sc_law_at.nd rfl (.inl rfl) (pe_tup (pa_cons pe_int (pa_cons pe_int pa_nil))))
      (pss_cons (ps_for PassesOwn.never rfl (pi_tup (pe_revT (pv 0))) (pg_name (i := 3) sc_law_at.nd rfl (.inl rfl)) (pss_one (ps_set (i := 2) sc_law_at.nd rfl (.inl rfl) (pe_call (ok__law_plus T) (hr.mono (by decide)) (by rfl) T.g__law_plus T.F__law_plus.kp (b__law_plus T) .nil pass0 (pa_cons (pe_call (ok__law_times T) (hr.mono (by decide)) (by rfl) T.g__law_times T.F__law_times.kp (b__law_times T) .nil pass0 (pa_cons (pv 2) (pa_cons (pv 1) pa_nil))) (pa_cons (pv 3) pa_nil))))))
      (pss_one (ps_ret (pv 2))))), ?_⟩
  refine ⟨sz_of (by show 2 ≤ 100000; decide), fun t ht => ?_⟩
  have e1 : Same H (upd H t (.tup [.int 0, .int 1])) := same_upd ht
  refine ⟨_, rfl, a, xs, rfl, kp_t (kp_same e1) ha, fun u hu => ?_⟩
  have e2 := e1.trans (same_upd (o := .tup xs.reverse) hu)
  have hrev : SqT K (upd (upd H t (.tup [.int 0, .int 1])) u (.tup xs.reverse)) u xs.reverse := st_of upd_same
  have ht0 : Rt K (upd (upd H t (.tup [.int 0, .int 1])) u (.tup xs.reverse)) (.ref t) 0 := (rt_zero (st_of upd_same)).sm (same_upd hu)
  refine ⟨u, rfl, ⟨_, hrev⟩, ?_⟩
  have kBe : kB = 2250 := rfl
  refine for_tup (fun i σ H' => i ≤ xs.length ∧ Same (upd (upd H t (.tup [.int 0, .int 1])) u (.tup xs.reverse)) H' ∧ ∃ v z, Rt K H' v (pev (p.drop (p.length - i)) c) ∧ σ = [some (.ref a), some y, some v, z]) ⟨Nat.zero_le _, Same.refl _, .ref t, none, by rw [Nat.sub_zero, List.drop_length]; exact ht0, rfl⟩ (fun i σ H' _ h => kp_t (kp_same h.2.1) hrev) ?_ ?_
  · rintro i x σ H' hx ⟨hi, e, v, z, hv, rfl⟩
    have hil : i < xs.length := by
      have := (List.getElem?_eq_some_iff.mp hx).1
      rwa [List.length_reverse] at this
    rw [List.getElem?_reverse (by omega)] at hx
    rw [hl] at hx hil
    obtain ⟨d, hd1, hd2⟩ := pr_get' rs hx
    have hdm : d ∈ p := List.mem_of_getElem? hd1
    have hdr := drop_one hil hd1
    have bd := pev_bd hbq (p := p.drop (p.length - i)) fun y hy => hb y (List.mem_of_mem_drop hy)
    have hle : 1 + (p.drop (p.length - i)).length * (n + m + 1) + (n + m + 1) ≤ kB := by
      have h1 : (p.drop (p.length - i)).length + 1 ≤ p.length := by rw [List.length_drop]; omega
      have h2 := Nat.mul_le_mul_right (n + m + 1) h1
      rw [Nat.succ_mul] at h2
      omega
    have hn : n ≤ kB := by omega
    have hm : m ≤ kB := by omega
    refine ⟨_, rfl, _, rfl, _, _, _, _, rfl, hv, hq.sm (e2.trans e), bd.le (by omega), hbq.le hm, fun v1 H2 e3 hv1 => ?_⟩
    refine ⟨_, rfl, _, _, _, _, rfl, hv1, hd2.sm ((e2.trans e).trans e3), (bd.mul hbq).le (by omega), (hb d hdm).le hn, fun v2 H3 e4 hv2 => ?_⟩
    refine ⟨by omega, (e.trans e3).trans e4, v2, some x, ?_, rfl⟩
    rw [hdr]
    show Rt K H3 v2 (d + c * pev (p.drop (p.length - i)) c)
    have : pev (p.drop (p.length - i)) c * c + d = d + c * pev (p.drop (p.length - i)) c := by grind
    rw [← this]
    exact hv2
  · rintro σ H' ⟨_, e, v, z, hv, rfl⟩
    rw [List.length_reverse, hl, Nat.sub_self, List.drop_zero] at hv
    exact ⟨_, rfl, q _ _ (e2.trans e) hv⟩
theorem alike_none (T : Txt K mg) : FnOk P w K mg base CX0 0 T.f__law_alike T.d__law_alike P_law_alike (spAlP K 0) := by
  have no : ∀ vs H Q E, ¬ spAlP K 0 vs H Q E := fun vs H Q E h => by
    obtain ⟨_, _, n, _, h1, _⟩ := h
    omega
  exact ⟨fun vs H Q E h => absurd h (no vs H Q E), fun A outer s H args us vs Q E _ _ _ _ h => absurd h (no vs H Q E)⟩
theorem alike_step (T : Txt K mg) {m : Nat} (ih : FnOk P w K mg base CX0 m T.f__law_alike T.d__law_alike P_law_alike (spAlP K m)) : FnOk P w K mg base CX0 (m + 1) T.f__law_alike T.d__law_alike P_law_alike (spAlP K (m + 1)) := by
  refine T.F__law_alike.ok sc_law_alike (fun vs H Q E h => ?_) (fun cdv A outer s H vs Q E hr h => ?_)
  · obtain ⟨x, t, _, rfl, _⟩ := h; rfl
  obtain ⟨x, y, n, rfl, hn, hal, q⟩ := h
  refine ⟨_, (pss_cons (ps_if (pt_val (pe_callB call_isiT (by rfl) T.n_isinstance (by decide +kernel) (pa_cons (pv 1) (pa_cons (pe_tup (pa_cons (pe_bltn (v := .ty "tuple") (by rfl) T.n_tuple (by decide +kernel) rfl) (pa_cons (pe_bltn (v := .ty "list") (by rfl) T.n_list (by decide +kernel) rfl) pa_nil))) pa_nil)))) (pss_cons (ps_if (PW.pt (pw_or (pt_not (pt_val (pe_callB call_isiT (by rfl) T.n_isinstance (by decide +kernel) (pa_cons (pv 0) (pa_cons (pe_tup (pa_cons (pe_bltn (v := .ty "tuple") (by rfl) T.n_tuple (by decide +kernel) rfl) (pa_cons (pe_bltn (v := .ty "list") (by rfl) T.n_list (by decide +kernel) rfl) pa_nil))) pa_nil))))) (pw_or1 (pt_cmpR op_ne (pe_callB call_isi (by rfl) T.n_isinstance (by decide +kernel) (pa_cons (pv 0) (pa_cons (pe_bltn (v := .ty "list") (by rfl) T.n_list (by decide +kernel) rfl) pa_nil))) (pe_callB call_isi (by rfl) T.n_isinstance (by decide +kernel) (pa_cons (pv 1) (pa_cons (pe_bltn (v := .ty "list") (by rfl) T.n_list (by decide +kernel) rfl) pa_nil))) (nomark _))))) (pss_one (ps_ret pe_bl)) pss_nil)
      (pss_cons (ps_if (pt_cmpR op_ne (pe_callB call_len_seq (by rfl) T.n_len PySem.boot_len (pa_cons (pv 0) pa_nil)) (pe_callB call_len_seq (by rfl) T.n_len PySem.boot_len (pa_cons (pv 1) pa_nil)) (nomark _)) (pss_one (ps_ret pe_bl)) pss_nil)
      (pss_one (ps_ret (pe_cmpR (op_eqD hr.units) (pe_lc (own := [("k", 2)]) (g := gName 2)  rfl sc_law_alike.nd (pi_range1 (by rfl) T.n_range (pa_cons (pe_callB call_len_seq (by rfl) T.n_len PySem.boot_len (pa_cons (pv 1) pa_nil)) pa_nil)) (blkOk_by (own := [("k", 2)]) (N := N_law_alike) (sc := defScope s_law_alike) (by decide +kernel)) (fun _ _ _ _ _ => (pg_name (i := 2) sc_law_alike.nd rfl (Or.inl rfl))) (fun _ _ _ _ _ => (pts_one (pt_not (pt_val (pe_call ih hr (by rfl) T.g__law_alike T.F__law_alike.kp (b__law_alike T) .nil pass0 (pa_cons (pe_ix (show IxR _ (rIxT K) from ix_tup) (pv 0) (pv 2) (fun _ _ => rfl)) (pa_cons (pe_ix (show IxR _ (rIxT K) from ix_tup) (pv 1) (pv 2) (fun _ _ => rfl)) pa_nil))))))) (fun _ _ _ _ _ => (pv 2))) (pe_lst pa_nil) (nomark _)))))) pss_nil)
      (pss_cons (ps_if (PW.pt (pw_or (pt_cmpR op_isN (pv 1) pe_non (nomark _)) (pw_or1 (pt_val (pe_callB call_isi (by rfl) T.n_isinstance (by decide +kernel) (pa_cons (pv 1) (pa_cons (pe_bltn (v := .ty "str") (by rfl) T.n_str (by decide +kernel) rfl) pa_nil))))))) (pss_one (ps_ret (pe_and (pe_cmpR op_eq (pv 0) (pv 1) (nomark _)) (pe_one (pe_cmpR op_eq (pe_callB call_isi (by rfl) T.n_isinstance (by decide +kernel) (pa_cons (pv 0) (pa_cons (pe_bltn (v := .ty "str") (by rfl) T.n_str (by decide +kernel) rfl) pa_nil))) (pe_callB call_isi (by rfl) T.n_isinstance (by decide +kernel) (pa_cons (pv 1) (pa_cons (pe_bltn (v := .ty "str") (by rfl) T.n_str (by decide +kernel) rfl) pa_nil))) (nomark _)))))) pss_nil)
      (pss_one (ps_ret (pe_and (pe_callB call_isi (by rfl) T.n_isinstance (by decide +kernel) (pa_cons (pv 0) (pa_cons (pe_bltn (v := .ty "int") (by rfl) T.n_int (by decide +kernel) rfl) pa_nil))) (pe_and (pe_cmpR op_eq (pe_callB call_isi (by rfl) T.n_isinstance (by decide +kernel) (pa_cons (pv 0) (pa_cons (pe_bltn (v := .ty "bool") (by rfl) T.n_bool (by decide +kernel) rfl) pa_nil))) (pe_callB call_isi (by rfl) T.n_isinstance (by decide +kernel) (pa_cons (pv 1) (pa_cons (pe_bltn (v := .ty "bool") (by rfl) T.n_bool (by decide +kernel) rfl) pa_nil))) (nomark _)) (pe_one (pe_cmpR op_eq (pv 0) (pv 1) (nomark _))))))))), ?_⟩
  cases n with
  | zero =>
    obtain ⟨i, rfl, rfl⟩ := hal
    have ki : ∀ b, kitB "int" b = some false → PySem.W.kitOne K (.type "int") (.type b) = some false := fun b h => kit_ty h
    refine ⟨_, rfl, sz_of (by show 2 ≤ 100000; decide), fun t ht => ?_⟩
    have e1 : Same H (upd H t (.tup [.ty "tuple", .ty "list"])) := same_upd ht
    refine ⟨_, t, _, _, [.type "tuple", .type "list"], false, rfl, upd_same, .cons (.ty _) (.cons (.ty _) .nil), .base (.int i), kitAny_cons (ki _ (by decide +kernel)) (fun _ => kitAny_cons (ki _ (by decide +kernel)) (fun _ => kitAny_nil) (fun z => nomatch z)) (fun z => nomatch z), false, rfl, iteF ?_⟩
    refine ⟨_, rfl, rfl, false, rfl, iteF ⟨_, rfl, _, _, _, _, false, rfl, .ty _, .base (.int i), ki _ (by decide +kernel), false, rfl, iteF ?_⟩⟩
    refine ⟨_, rfl, _, _, _, _, true, rfl, .ty _, .base (.int i), kit_ty (by decide +kernel), true, rfl, iteT ?_⟩
    refine ⟨_, rfl, _, _, _, _, false, rfl, .ty _, .base (.int i), ki _ (by decide +kernel), _, rfl, _, _, _, _, false, rfl, .ty _, .base (.int i), ki _ (by decide +kernel), rfl, true, rfl, iteT ?_⟩
    refine ⟨_, rfl, _, rfl, rfl, ?_⟩
    have e : V.bl (decide (V.int i = V.int i)) = V.bl true := by rw [decide_eq_true rfl]
    show Q _ _
    rw [e]
    exact q _ e1
  | succ n =>
    obtain ⟨a, b, xs, ys, rfl, rfl, ha, hb, hz, hp⟩ := hal
    have hl := hp.length
    have kt : PySem.W.kitAny K (.type "tuple") [.type "tuple", .type "list"] = some true := kitAny_cons (kit_ty (r := true) (by decide +kernel)) (fun z => nomatch z) (fun _ => rfl)
    refine ⟨_, rfl, sz_of (by show 2 ≤ 100000; decide), fun t ht => ?_⟩
    have e1 : Same H (upd H t (.tup [.ty "tuple", .ty "list"])) := same_upd ht
    have ha1 := kp_t (kp_same e1) ha
    have hb1 := kp_t (kp_same e1) hb
    refine ⟨_, t, _, _, [.type "tuple", .type "list"], true, rfl, upd_same, .cons (.ty _) (.cons (.ty _) .nil), sq_ty hb1, kt, true, rfl, iteT ?_⟩
    refine ⟨_, rfl, sz_of (by show 2 ≤ 100000; decide), fun u hu => ?_⟩
    have e2 := e1.trans (same_upd (o := .tup [.ty "tuple", .ty "list"]) hu)
    have ha2 := kp_t (kp_same e2) ha
    have hb2 := kp_t (kp_same e2) hb
    refine ⟨_, u, _, _, [.type "tuple", .type "list"], true, rfl, upd_same, .cons (.ty _) (.cons (.ty _) .nil), sq_ty ha2, kt, true, rfl, iteF ?_⟩
    refine ⟨_, rfl, _, _, _, _, false, rfl, .ty _, sq_ty ha2, kit_ty (by decide +kernel), _, rfl, _, _, _, _, false, rfl, .ty _, sq_ty hb2, kit_ty (by decide +kernel), rfl, false, rfl, iteF ?_⟩
    refine ⟨_, rfl, a, xs, rfl, .inr ha2, _, rfl, b, ys, rfl, .inr hb2, rfl, false, congrArg V.bl (by rw [hl]; simp), iteF ?_⟩
    refine ⟨_, rfl, b, ys, rfl, .inr hb2, _, rfl, by omega, by omega, fun D hD => ?_⟩
    rw [Int.toNat_natCast]
    refine lc_range (lo := 0) (n := ys.length) (fun i H' => Lc _ D [] H') (Lc.start hD) ?_ ?_
    · intro i H' hi l
      refine ⟨rfl, ?_⟩
      have ei : (0 : Int) + (i : Int) = (i : Int) := Int.zero_add _
      rw [ei]
      obtain ⟨v, hv1, hv2⟩ := pr_get hp (List.getElem?_eq_getElem hi)
      have k2 := kp_same (e2.trans l.2.1)
      refine ⟨_, rfl, _, rfl, a, xs, _, v, rfl, rfl, kp_t k2 ha, atI_nat hv1, _, rfl, _, rfl, b, ys, _, ys[i], rfl, rfl, kp_t k2 hb, atI_nat (List.getElem?_eq_getElem hi), v, ys[i], n, rfl, by omega, hv2.kp k2, fun H3 e3 => ⟨true, rfl, ?_⟩⟩
      show Lc _ D [] H3
      exact ⟨l.1, l.2.1.trans e3, e3 _ _ l.2.2⟩
    · intro H' l
      refine ⟨sz_of (by show 0 ≤ 100000; decide), fun D2 hD2 => ⟨.list [], .list [], .lst (sl_of (same_upd hD2 _ _ l.2.2)) .nil, .lst (sl_of upd_same) .nil, by decide +kernel, by decide +kernel, ?_⟩⟩
      have e : PyData.eqv (.list []) (.list []) = true := by decide +kernel
      rw [e]
      exact q _ ((e2.trans l.2.1).trans (same_upd hD2))
theorem ok__law_alike (T : Txt K mg) : FnOk P w K mg base CX0 3 T.f__law_alike T.d__law_alike P_law_alike (spAlP K 3) := alike_step T (alike_step T (alike_step T (alike_none T)))
theorem ok__law_scaled (T : Txt K mg) : FnOk P w K mg base CX0 3 T.f__law_scaled T.d__law_scaled P_law_scaled (spScaled K) := by
  refine T.F__law_scaled.ok sc_law_scaled (fun vs H Q E h => ?_) (fun cdv A outer s H vs Q E hr h => ?_)
  · obtain ⟨x, t, _, _, rfl, _⟩ := h; rfl
  obtain ⟨_, y, p, c, rfl, hp, hc, hz, hb, hbc, q⟩ := h
  obtain ⟨a, xs, rfl, ha, rs, hl⟩ := hp.len
  refine ⟨_, (pss_one (ps_ret (pe_call (ok__law_trim T) (hr.mono (by decide)) (by rfl) T.g__law_trim T.F__law_trim.kp (b__law_trim T) .nil pass0 (pa_cons (pe_lc (own := [("one", 2)]) (g := gName 2) (tt := tYes) rfl sc_law_scaled.nd (pi_tup (pv 0)) (blkOk_by (own := [("one", 2)]) (N := N_law_scaled) (sc := defScope s_law_scaled) (by decide +kernel)) (fun _ _ _ _ _ => (pg_name (i := 2) sc_law_scaled.nd rfl (Or.inl rfl))) (fun _ _ _ _ _ => pts_nil) (fun _ _ _ _ _ => (pe_call (ok__law_times T) (hr.mono (by decide)) (by rfl) T.g__law_times T.F__law_times.kp (b__law_times T) .nil pass0 (pa_cons (pv 2) (pa_cons (pv 1) pa_nil))))) pa_nil)))), ?_⟩
  refine ⟨_, rfl, a, rfl, ⟨_, ha⟩, fun D hD => lc_tup (xs := xs) (fun i H' => ∃ ws, Lc H D ws H' ∧ ws.length = i ∧ Rts K H' ws (smul c (p.take i))) ⟨[], Lc.start hD, rfl, .nil⟩ (fun i H' _ ⟨ws, l, _⟩ => kp_t (kp_same l.2.1) ha) ?_ ?_⟩
  · rintro i x H' hx ⟨ws, l, hwl, hw⟩
    refine ⟨rfl, ?_⟩
    show tCall (spTwo K (· * ·)) [] E0 (tCons (tVar 2) (tCons (tVar 1) tNil)) _ _ _
    obtain ⟨d, hd1, hd2⟩ := pr_get' rs hx
    have hi := (List.getElem?_eq_some_iff.mp hx).1
    refine ⟨_, rfl, _, rfl, _, _, _, _, rfl, hd2.sm l.2.1, hc.sm l.2.1, hb d (List.mem_of_getElem? hd1), hbc, fun v H2 e2 hv => ?_⟩
    have h2 := e2 _ _ l.2.2
    refine ⟨ws, h2, sz_lt (by omega), ws ++ [v], l.next e2 rfl, by rw [List.length_append, hwl]; rfl, ?_⟩
    have e : smul c (p.take (i + 1)) = smul c (p.take i) ++ [d * c] := by
      unfold smul
      rw [List.take_add_one, hd1, List.map_append]
      show _ ++ [c * d] = _
      rw [Rat.mul_comm c d]
    rw [e]
    exact pr_app (Rts.kp (Rts.sm hw e2) (ro_upd.kp h2)) (.cons (hv.kp (ro_upd.kp h2)) .nil)
  · rintro H' ⟨ws, l, hwl, hw⟩
    rw [hl, List.take_length] at hw
    exact ⟨D, ws, _, rfl, l.2.2, hw, by unfold smul; rw [List.length_map]; omega, fun v H2 e2 hv => q _ _ (l.2.1.trans e2) hv⟩
theorem ok__law_p_plus (T : Txt K mg) : FnOk P w K mg base CX0 3 T.f__law_p_plus T.d__law_p_plus P_law_p_plus (spSumOf K) := by
  refine T.F__law_p_plus.ok sc_law_p_plus (fun vs H Q E h => ?_) (fun cdv A outer s H vs Q E hr h => ?_)
  · obtain ⟨x, t, _, _, rfl, _⟩ := h; rfl
  obtain ⟨_, _, p, r, rfl, hp, hq, hz1, hz2, hb1, hb2, q⟩ := h
  obtain ⟨a, xs, rfl, ha, rs, hl⟩ := hp.len
  obtain ⟨b, ys, rfl, hb, ss, hm⟩ := hq.len
  refine ⟨_, (pss_cons (ps_set (i := 2) sc_law_p_plus.nd rfl (.inl rfl) (pe_callB (call_max2 rfl) (by rfl) T.n_max (by decide +kernel) (pa_cons (pe_callB call_len_seq (by rfl) T.n_len PySem.boot_len (pa_cons (pv 0) pa_nil)) (pa_cons (pe_callB call_len_seq (by rfl) T.n_len PySem.boot_len (pa_cons (pv 1) pa_nil)) pa_nil))))
      (pss_cons (ps_set (i := 3) sc_law_p_plus.nd rfl (.inl rfl) (pe_op op_catA (pv 0) (pe_op op_repA (pe_tup (pa_cons (pe_tup (pa_cons pe_int (pa_cons pe_int pa_nil))) pa_nil)) (pe_op op_sub (pv 2) (pe_callB call_len_seq (by rfl) T.n_len PySem.boot_len (pa_cons (pv 0) pa_nil))))))
      (pss_cons (ps_set (i := 4) sc_law_p_plus.nd rfl (.inl rfl) (pe_op op_catA (pv 1) (pe_op op_repA (pe_tup (pa_cons (pe_tup (pa_cons pe_int (pa_cons pe_int pa_nil))) pa_nil)) (pe_op op_sub (pv 2) (pe_callB call_len_seq (by rfl) T.n_len PySem.boot_len (pa_cons (pv 1) pa_nil))))))
      (pss_one (ps_ret (pe_call (ok__law_trim T) (hr.mono (by decide)) (by rfl) T.g__law_trim T.F__law_trim.kp (b__law_trim T) .nil pass0 (pa_cons (pe_lc (own := [("x", 5), ("y", 6)]) (g := gTup K 2 (gCons (gName 5) (gCons (gName 6) gNil))) (tt := tYes) rfl sc_law_p_plus.nd (pi_zipA (by rfl) T.n_zip (pa_cons (pv 3) (pa_cons (pv 4) pa_nil))) (blkOk_by (own := [("x", 5), ("y", 6)]) (N := N_law_p_plus) (sc := defScope s_law_p_plus) (by decide +kernel)) (fun _ _ _ _ _ => (pg_tup rfl (pgs_cons (pg_name (i := 5) sc_law_p_plus.nd rfl (Or.inl rfl)) (pgs_cons (pg_name (i := 6) sc_law_p_plus.nd rfl (Or.inl rfl)) pgs_nil)))) (fun _ _ _ _ _ => pts_nil) (fun _ _ _ _ _ => (pe_call (ok__law_plus T) (hr.mono (by decide)) (by rfl) T.g__law_plus T.F__law_plus.kp (b__law_plus T) .nil pass0 (pa_cons (pv 5) (pa_cons (pv 6) pa_nil))))) pa_nil))))))), ?_⟩
  refine ⟨_, rfl, a, xs, rfl, .inr ha, _, rfl, b, ys, rfl, .inr hb, _, _, rfl, ?_⟩
  rw [max_nat]
  have hN1 : xs.length ≤ max xs.length ys.length := Nat.le_max_left _ _
  have hN2 : ys.length ≤ max xs.length ys.length := Nat.le_max_right _ _
  have hN3 : max xs.length ys.length ≤ 100 := Nat.max_le.mpr ⟨by omega, by omega⟩
  generalize hNN : max xs.length ys.length = N at hN1 hN2 hN3
  -- first
  refine ⟨_, rfl, sz_of (by show 2 ≤ 100000; decide), fun t ht => ⟨sz_of (by show 1 ≤ 100000; decide), fun u hu => ?_⟩⟩
  have e1 := (same_upd (o := .tup [.int 0, .int 1]) ht).trans (same_upd (o := .tup [.ref t]) hu)
  refine ⟨_, rfl, _, rfl, a, xs, rfl, .inr (kp_t (kp_same e1) ha), _, _, rfl, rfl, ?_⟩
  refine rep_p (c := 0) ⟨u, _, rfl, st_of upd_same, .cons ((rt_zero (st_of upd_same)).sm (same_upd hu)) .nil⟩ (by omega) (by omega) fun v1 H1 f1 hv1 => ?_
  refine cat_p (hp.sm (e1.trans f1)) hv1 (by rw [List.length_replicate]; omega) fun w1 H2 f2 hw1 => ?_
  have g1 := (e1.trans f1).trans f2
  -- second
  refine ⟨_, rfl, sz_of (by show 2 ≤ 100000; decide), fun t ht => ⟨sz_of (by show 1 ≤ 100000; decide), fun u hu => ?_⟩⟩
  have e2 := (same_upd (o := .tup [.int 0, .int 1]) ht).trans (same_upd (o := .tup [.ref t]) hu)
  refine ⟨_, rfl, _, rfl, b, ys, rfl, .inr (kp_t (kp_same (g1.trans e2)) hb), _, _, rfl, rfl, ?_⟩
  refine rep_p (c := 0) ⟨u, _, rfl, st_of upd_same, .cons ((rt_zero (st_of upd_same)).sm (same_upd hu)) .nil⟩ (by omega) (by omega) fun v2 H3 f3 hv2 => ?_
  refine cat_p (hq.sm ((g1.trans e2).trans f3)) hv2 (by rw [List.length_replicate]; omega) fun w2 H4 f4 hw2 => ?_
  have g2 := ((g1.trans e2).trans f3).trans f4
  have hw1' := hw1.sm ((e2.trans f3).trans f4)
  obtain ⟨a1, xs1, rfl, ha1, rs1, hl1⟩ := hw1'.len
  obtain ⟨b1, ys1, rfl, hb1', ss1, hm1⟩ := hw2.len
  have k1 : xs1.length = N := by rw [hl1, List.length_append, List.length_replicate]; omega
  have k2 : ys1.length = N := by rw [hm1, List.length_append, List.length_replicate]; omega
  refine ⟨_, rfl, _, rfl, a1, b1, xs1, ys1, rfl, .inr ⟨ha1, hb1', fun D hD => ?_⟩⟩
  refine lc_it (walk_zipT (n := N) (by rw [k1, k2]; omega)) (fun i H' => ∃ ws L, Lc H4 D ws H' ∧ ws.length = i ∧ Rts K H' ws L ∧ ∀ n, cf L n = if n < i then cf p n + cf r n else 0) ⟨[], [], Lc.start hD, rfl, .nil, fun n => by rw [if_neg (by omega)]; rfl⟩ (fun i H' _ ⟨ws, L, l, _⟩ => ⟨kp_t (kp_same l.2.1) ha1, kp_t (kp_same l.2.1) hb1'⟩) ?_ ?_
  · rintro i v H' H5 hi ⟨ws, L, l, hwl, hw, hc⟩ ⟨t3, x1, y1, rfl, ht3, rfl, h3, h4⟩
    refine ⟨t3, _, rfl, st_of upd_same, rfl, x1, _, rfl, y1, _, rfl, rfl, rfl, ?_⟩
    have f5 : Same H' (upd H' t3 (.tup [x1, y1])) := same_upd ht3
    obtain ⟨c, hc1, hc2⟩ := pr_get' rs1 h3
    obtain ⟨d, hd1, hd2⟩ := pr_get' ss1 h4
    have ec : c = cf p i := by rw [← cf_at hc1, cf_pad]
    have ed : d = cf r i := by rw [← cf_at hd1, cf_pad]
    subst ec ed
    show tCall (spTwo K (· + ·)) [] E0 (tCons (tVar 5) (tCons (tVar 6) tNil)) _ _ _
    refine ⟨_, rfl, _, rfl, _, _, _, _, rfl, hc2.sm (l.2.1.trans f5), hd2.sm (l.2.1.trans f5), bd_cf hb1 (by decide) i, bd_cf hb2 (by decide) i, fun v H6 e6 hv => ?_⟩
    have h6 := e6 _ _ (f5 _ _ l.2.2)
    have hLl : L.length = i := by rw [← hw.length]; exact hwl
    refine ⟨ws, h6, sz_lt (by omega), ws ++ [v], L ++ [cf p i + cf r i], l.next (f5.trans e6) rfl, by rw [List.length_append, hwl]; rfl, pr_app (Rts.kp (Rts.sm hw (f5.trans e6)) (ro_upd.kp h6)) (.cons (hv.kp (ro_upd.kp h6)) .nil), fun n => ?_⟩
    rw [cf_snoc, hLl, hc n]
    by_cases z : n = i
    · subst z; rw [if_pos rfl, if_pos (by omega)]
    · rw [if_neg z]
      by_cases z2 : n < i
      · rw [if_pos z2, if_pos (by omega)]
      · rw [if_neg z2, if_neg (by omega)]
  · rintro H' ⟨ws, L, l, hwl, hw, hc⟩
    refine ⟨D, ws, L, rfl, l.2.2, hw, by rw [← hw.length]; omega, fun v H7 e7 hv => q _ _ ((g2.trans l.2.1).trans e7) ?_⟩
    have e : trim L = trim (padd p r) := trim_ext fun n => by
      rw [hc n, cf_padd]
      by_cases z : n < N
      · rw [if_pos z]
      · rw [if_neg z, cf_ge (p := p) (by omega), cf_ge (p := r) (by omega)]; grind
    rw [← e]
    exact hv
theorem ok__law_p_times (T : Txt K mg) : FnOk P w K mg base CX0 3 T.f__law_p_times T.d__law_p_times P_law_p_times (spProdOf K) := by
  refine T.F__law_p_times.ok sc_law_p_times (fun vs H Q E h => ?_) (fun cdv A outer s H vs Q E hr h => ?_)
  · obtain ⟨x, t, _, _, _, _, rfl, _⟩ := h; rfl
  obtain ⟨_, _, p, r, k, k2, rfl, hp, hq, hz1, hz2, hk, hk2, hb1, hb2, hkk, q⟩ := h
  obtain ⟨a, xs, rfl, ha, rs, hl⟩ := hp.len
  obtain ⟨b, ys, rfl, hb, ss, hm⟩ := hq.len
  refine ⟨_, (pss_cons (ps_set (i := 2) sc_law_p_times.nd rfl (.inl rfl) (pe_op op_rep (pe_lst (pa_cons (pe_tup (pa_cons pe_int (pa_cons pe_int pa_nil))) pa_nil)) (pe_callB (call_max2 rfl) (by rfl) T.n_max (by decide +kernel) (pa_cons pe_int (pa_cons (pe_op op_sub (pe_op op_add (pe_callB call_len_seq (by rfl) T.n_len PySem.boot_len (pa_cons (pv 0) pa_nil)) (pe_callB call_len_seq (by rfl) T.n_len PySem.boot_len (pa_cons (pv 1) pa_nil))) pe_int) pa_nil)))))
      (pss_cons (ps_for PassesOwn.never rfl (pi_range1 (by rfl) T.n_range (pa_cons (pe_callB call_len_seq (by rfl) T.n_len PySem.boot_len (pa_cons (pv 0) pa_nil)) pa_nil)) (pg_name (i := 3) sc_law_p_times.nd rfl (.inl rfl)) (pss_one (ps_for PassesOwn.never rfl (pi_range1 (by rfl) T.n_range (pa_cons (pe_callB call_len_seq (by rfl) T.n_len PySem.boot_len (pa_cons (pv 1) pa_nil)) pa_nil)) (pg_name (i := 4) sc_law_p_times.nd rfl (.inl rfl)) (pss_one (ps_asg (pe_call (ok__law_plus T) (hr.mono (by decide)) (by rfl) T.g__law_plus T.F__law_plus.kp (b__law_plus T) .nil pass0 (pa_cons (pe_ix ix_list (pv 2) (pe_op op_add (pv 3) (pv 4)) (fun _ _ => rfl)) (pa_cons (pe_call (ok__law_times T) (hr.mono (by decide)) (by rfl) T.g__law_times T.F__law_times.kp (b__law_times T) .nil pass0 (pa_cons (pe_ix ix_tup (pv 0) (pv 3) (fun _ _ => rfl)) (pa_cons (pe_ix ix_tup (pv 1) (pv 4) (fun _ _ => rfl)) pa_nil))) pa_nil))) (pg_sub (pv 2) (pe_op op_add (pv 3) (pv 4)) set_list))))))
      (pss_one (ps_ret (pe_call (ok__law_trim T) (hr.mono (by decide)) (by rfl) T.g__law_trim T.F__law_trim.kp (b__law_trim T) .nil pass0 (pa_cons (pv 2) pa_nil)))))), ?_⟩
  refine ⟨sz_of (by show 2 ≤ 100000; decide), fun t ht => ⟨sz_of (by show 1 ≤ 100000; decide), fun l hl' => ?_⟩⟩
  have e1 := (same_upd (o := .tup [.int 0, .int 1]) ht).trans (same_upd (o := .lst [.ref t]) hl')
  have hzero := (rt_zero (K := K) (H := upd H t (.tup [.int 0, .int 1])) (st_of upd_same)).sm (same_upd (o := .lst [.ref t]) hl')
  refine ⟨_, rfl, a, xs, rfl, .inr (kp_t (kp_same e1) ha), _, rfl, b, ys, rfl, .inr (kp_t (kp_same e1) hb), _, _, rfl, rfl, _, _, rfl, rfl, _, _, rfl, ?_⟩
  obtain ⟨N, hN⟩ : ∃ N : Nat, (if (xs.length : Int) + (ys.length : Int) - 1 > 0 then (xs.length : Int) + (ys.length : Int) - 1 else 0) = (N : Int) ∧ xs.length + ys.length ≤ N + 1 ∧ N ≤ 200 := by
    refine ⟨xs.length + ys.length - 1, ?_, by omega, by omega⟩
    split <;> omega
  obtain ⟨hN, hN1, hN2⟩ := hN
  refine ⟨l, _, _, rfl, rfl, upd_same, ?_⟩
  rw [hN]
  refine ⟨by omega, by omega, sz_of (by show 1 * _ ≤ 100000; omega), fun D hD => ?_⟩
  rw [Int.toNat_natCast, rep_flat]
  have e2 := e1.trans (same_upd (o := .lst (List.replicate N (.ref t))) hD)
  have f0 : Fi K H D (List.replicate N 0) (upd (upd (upd H t (.tup [.int 0, .int 1])) l (.lst [.ref t])) D (.lst (List.replicate N (.ref t)))) :=
    ⟨e1.free hD, e2, _, upd_same, pr_rep (hzero.sm (same_upd hD)) N⟩
  generalize upd (upd (upd H t (.tup [.int 0, .int 1])) l (.lst [.ref t])) D (.lst (List.replicate N (.ref t))) = H2 at f0
  refine ⟨_, rfl, a, xs, rfl, .inr (kp_t (kp_same f0.sm) ha), xs.length, rfl, by omega, by omega, ?_⟩
  rw [Int.toNat_natCast]
  refine for_range (lo := 0) (n := xs.length) (fun i σ H' => ∃ L z3 z4, Fi K H D L H' ∧ L.length = N ∧ (∀ n, cf L n = cf (pmul (p.take i) r) n) ∧ σ = [some (.ref a), some (.ref b), some (.ref D), z3, z4]) ⟨_, none, none, f0, List.length_replicate .., fun n => by rw [cf_rep]; rfl, rfl⟩ ?_ ?_
  · rintro i σ H3 hi ⟨L, z3, z4, f, hL, hc, rfl⟩
    have ei : (0 : Int) + (i : Int) = (i : Int) := Int.zero_add _
    rw [ei]
    have hip : i < p.length := by omega
    obtain ⟨y1, hy1, hc2⟩ := pr_get rs (List.getElem?_eq_getElem hip)
    have hcc : cf p i = p[i] := cf_lt hip
    refine ⟨_, rfl, b, ys, rfl, .inr (kp_t (kp_same f.sm) hb), ys.length, rfl, by omega, by omega, ?_⟩
    rw [Int.toNat_natCast]
    refine for_range (lo := 0) (n := ys.length) (fun j σ H' => ∃ L z4, Fi K H D L H' ∧ L.length = N ∧ (∀ n, cf L n = prow p r i j n) ∧ σ = [some (.ref a), some (.ref b), some (.ref D), some (.int (i : Int)), z4]) ⟨_, z4, f, hL, fun n => by rw [prow_zero]; exact hc n, rfl⟩ ?_ ?_
    · rintro j σ H5 hj ⟨L, z4, f', hL, hc, rfl⟩
      have ej : (0 : Int) + (j : Int) = (j : Int) := Int.zero_add _
      rw [ej]
      have hjr : j < r.length := by omega
      obtain ⟨y2, hy2, hd2⟩ := pr_get ss (List.getElem?_eq_getElem hjr)
      obtain ⟨vs, hv1, hv2⟩ := f'.li
      have hvl : vs.length = N := by rw [hv2.length, hL]
      have hij : i + j < L.length := by omega
      obtain ⟨v, hv3, hv4⟩ := pr_get hv2 (List.getElem?_eq_getElem hij)
      have eij : (i : Int) + (j : Int) = ((i + j : Nat) : Int) := by omega
      have eL : L[i + j] = prow p r i j (i + j) := by rw [← cf_lt hij, hc]
      rw [eL] at hv4
      have bL : Bd kB (prow p r i j (i + j)) := (bd_prow hb1 hb2 hk hk2 hip j).le hkk
      have hmin : 1 ≤ min p.length r.length := by omega
      have hmul := Nat.mul_le_mul_right (k + k2 + 1) hmin
      have hk1 : k ≤ kB := by omega
      have hk3 : k2 ≤ kB := by omega
      have kc : Bd k p[i] := hb1 _ (List.getElem_mem hip)
      have kd : Bd k2 r[j] := hb2 _ (List.getElem_mem hjr)
      have kcd : Bd kB (p[i] * r[j]) := (kc.mul kd).le (by omega)
      have ka := kp_t (kp_same f'.sm) ha
      have kb := kp_t (kp_same f'.sm) hb
      refine ⟨_, rfl, _, rfl, _, rfl, _, _, rfl, rfl, D, vs, _, v, rfl, rfl, sl_of hv1, by rw [eij]; exact atI_nat hv3, ?_⟩
      refine ⟨_, rfl, _, rfl, a, xs, _, y1, rfl, rfl, ka, atI_nat hy1, _, rfl, _, rfl, b, ys, _, y2, rfl, rfl, kb, atI_nat hy2, ?_⟩
      refine ⟨_, _, _, _, rfl, hc2.sm f'.sm, hd2.sm f'.sm, kc.le hk1, kd.le hk3, fun u1 H7 e7 hu1 => ?_⟩
      have f2 := f'.sm' e7
      refine ⟨_, _, _, _, rfl, hv4.sm e7, hu1, bL, kcd, fun u2 H8 e8 hu2 => ?_⟩
      have f3 := f2.sm' e8
      refine ⟨_, rfl, _, rfl, _, rfl, _, _, rfl, rfl, D, vs, _, i + j, rfl, rfl, e8 _ _ (e7 _ _ hv1), by rw [eij]; exact ixN_at (by omega), ?_⟩
      refine ⟨_, _, f3.set (e8 _ _ (e7 _ _ hv1)) (Rts.sm (Rts.sm hv2 e7) e8) hu2 (i + j), by rw [List.length_set]; exact hL, fun n => ?_, rfl⟩
      rw [cf_set hij, prow_next, hc n]
      by_cases z : n = i + j
      · subst z; rw [if_pos rfl, if_pos rfl, hcc, cf_lt hjr]
      · rw [if_neg z, if_neg z]
    · rintro σ H5 ⟨L, z4, f, hL, hc, rfl⟩
      exact ⟨L, _, z4, f, hL, fun n => by rw [hc n, hm, prow_end p r i n hip], rfl⟩
  rintro σ H4 ⟨L, z3, z4, f, hL, hc, rfl⟩
  obtain ⟨vs, hv1, hv2⟩ := f.li
  refine ⟨_, rfl, D, vs, L, rfl, hv1, hv2, by omega, fun u H5 e5 hu => q _ _ (f.sm.trans e5) ?_⟩
  have e : trim L = trim (pmul p r) := trim_ext fun n => by
    rw [hc n, hl, List.take_length]
  rw [← e]
  exact hu
theorem ok_check_row (T : Txt K mg) : FnOk P w K mg base CX0 3 T.f_check_row T.d_check_row P_check_row (spCheckRow K) := by
  refine fund_ok T.F_check_row sc_check_row (fun vs H Q E h => ?_) (fun cdv A outer s H vs Q E hr h => ?_)
  · obtain ⟨x, t, rfl, _⟩ := h; rfl
  obtain ⟨_, p, rfl, hp, h0, hz, q⟩ := h
  obtain ⟨a, xs, rfl, ha, rs, hl⟩ := hp.len
  refine ⟨_, (pss_cons (ps_if (pt_not (pt_val (pe_call (ok_has_length T) (hr.mono (by decide)) (by rfl) T.g_has_length T.F_has_length.kp (b_has_length T) .nil pass0 (pa_cons (pv 0) (pa_cons pe_int (pa_cons (pe_op op_add (pv 1) pe_int) pa_nil)))))) (pss_one ps_never) pss_nil)
      (pss_one (ps_for PassesOwn.never rfl (pi_enumT (by rfl) T.n_enumerate (pa_cons (pv 0) pa_nil)) (pg_tup rfl (pgs_cons (pg_name (i := 2) sc_check_row.nd rfl (.inl rfl)) (pgs_cons (pg_name (i := 3) sc_check_row.nd rfl (.inl rfl)) pgs_nil))) (pss_one (ps_if (pt_not (pt_val (pe_call (ok_is_ratio T) (hr.mono (by decide)) (by rfl) T.g_is_ratio T.F_is_ratio.kp (b_is_ratio T) .nil pass0 (pa_cons (pv 3) pa_nil)))) (pss_one ps_never) pss_nil))))), ?_⟩
  refine ⟨_, rfl, _, rfl, _, _, rfl, rfl, a, xs, 1, 9, rfl, ha, true, ?_, ?_⟩
  · show V.bl (decide ((1 : Int) ≤ (xs.length : Int)) && decide ((xs.length : Int) ≤ 9)) = V.bl true
    rw [decide_eq_true (by omega), decide_eq_true (by omega)] <;> rfl
  refine iteF ?_
  refine ⟨_, rfl, a, xs, rfl, ha, for_it walk_enumT (fun i σ H' => Same H H' ∧ ∃ z1 z2, σ = [some (.ref a), some (.int 8), z1, z2]) ⟨Same.refl _, none, none, rfl⟩ (fun i σ H' _ h => kp_t (kp_same h.1) ha) ?_ ?_⟩
  · rintro i x σ H3 H4 hi ⟨e, z1, z2, rfl⟩ ⟨t, x1, y1, rfl, ht, rfl, e3, e4⟩
    cases e3
    have f := e.trans (same_upd (o := .tup [.int (i : Nat), y1]) ht)
    refine ⟨t, _, rfl, st_of upd_same, rfl, _, _, rfl, _, _, rfl, rfl, ?_⟩
    obtain ⟨c, hc1, hc2⟩ := pr_get' rs e4
    exact ⟨_, rfl, _, c, rfl, hc2.sm f, true, rfl, iteF ⟨f, _, _, rfl⟩⟩
  · rintro σ H' ⟨e, _⟩
    exact q _ e
theorem ok_check_degree (T : Txt K mg) : FnOk P w K mg base CX0 3 T.f_check_degree T.d_check_degree P_check_degree (spCheckDegree K) := by
  refine T.F_check_degree.ok sc_check_degree (fun vs H Q E h => ?_) (fun cdv A outer s H vs Q E hr h => ?_)
  · obtain ⟨x, t, _, rfl, _⟩ := h; rfl
  obtain ⟨v, l, m, rfl, h1, h2, q⟩ := h
  refine ⟨_, (pss_one (ps_if (pt_not (pt_val (pe_call (ok_is_integer T) (hr.mono (by decide)) (by rfl) T.g_is_integer T.F_is_integer.kp (b_is_integer T) .nil pass0 (pa_cons (pv 0) (pa_cons (pv 1) (pa_cons (pv 2) pa_nil)))))) (pss_one ps_never) pss_nil)), ?_⟩
  exact ⟨_, rfl, _, rfl, _, rfl, _, _, _, rfl, h1, h2, true, rfl, iteF q⟩
theorem ok_total_of (T : Txt K mg) : FnOk P w K mg base CX0 3 T.f_total_of T.d_total_of P_total_of (spTotal K) := by
  refine T.F_total_of.ok sc_total_of (fun vs H Q E h => ?_) (fun cdv A outer s H vs Q E hr h => ?_)
  · obtain ⟨x, t, _, rfl, _⟩ := h; rfl
  obtain ⟨a, xs, L, rfl, ha, rs, hb, hs, q⟩ := h
  have hl := rs.length
  refine ⟨_, (pss_cons (ps_set (i := 1) sc_total_of.nd rfl (.inl rfl) (pe_glob (v := .ref T.a_ZERO) (by rfl) T.g_ZERO rfl))
      (pss_cons (ps_for PassesOwn.never rfl (pi_list (pv 0)) (pg_name (i := 2) sc_total_of.nd rfl (.inl rfl)) (pss_one (ps_set (i := 1) sc_total_of.nd rfl (.inl rfl) (pe_call (ok_plus T) (hr.mono (by decide)) (by rfl) T.g_plus T.F_plus.kp (b_plus T) .nil pass0 (pa_cons (pv 1) (pa_cons (pv 2) pa_nil))))))
      (pss_one (ps_ret (pv 1))))), ?_⟩
  refine ⟨_, rfl, a, rfl, ⟨_, ha⟩, for_list (xs := xs) (fun i σ H' => i ≤ xs.length ∧ Same H H' ∧ ∃ v z, Rt K H' v (sums (cf L) i) ∧ σ = [some (.ref a), some v, z]) ⟨Nat.zero_le _, Same.refl _, _, none, rt_zero (T.k_ZERO _), rfl⟩ (fun i σ H' _ h => h.2.1.seq ha) ?_ ?_⟩
  · rintro i x σ H' hx ⟨hi, e, v, z, hv, rfl⟩
    obtain ⟨c, hc1, hc2⟩ := pr_get' rs hx
    have hi' := (List.getElem?_eq_some_iff.mp hx).1
    refine ⟨_, rfl, _, rfl, v, x, _, c, rfl, hv, hc2.sm e, hs i (by omega), hb c (List.mem_of_getElem? hc1), fun v2 H2 e2 hv2 => ?_⟩
    have ec : sums (cf L) (i + 1) = sums (cf L) i + c := by rw [sums, cf_at hc1]
    exact ⟨by omega, e.trans e2, v2, some x, by rw [ec]; exact hv2, rfl⟩
  · rintro σ H' ⟨_, e, v, z, hv, rfl⟩
    rw [hl] at hv
    exact ⟨_, rfl, q _ _ e hv⟩
theorem ok_place_products (T : Txt K mg) : FnOk P w K mg base CX0 3 T.f_place_products T.d_place_products P_place_products (spProducts K) := by
  refine T.F_place_products.ok sc_place_products (fun vs H Q E h => ?_) (fun cdv A outer s H vs Q E hr h => ?_)
  · obtain ⟨x, t, _, rfl, _⟩ := h; rfl
  obtain ⟨_, p, k, rfl, hp, hz, hb, hpe, hk, q⟩ := h
  obtain ⟨a, xs, rfl, ha, rs, hl⟩ := hp.len
  refine ⟨_, (pss_cons (ps_set (i := 1) sc_place_products.nd rfl (.inl rfl) (pe_lst (pa_cons (pe_glob (v := .ref T.a_ONE) (by rfl) T.g_ONE rfl) pa_nil)))
      (pss_cons (ps_for PassesOwn.never rfl (pi_tup (pv 0)) (pg_name (i := 2) sc_place_products.nd rfl (.inr rfl)) (pss_cons (ps_setLc (i := 3) (own := [("item", 4)]) (g := gName 4) (tt := tYes) rfl sc_place_products.nd rfl rfl (sw_true rfl rfl rfl (by decide +kernel)) (pi_list (pv 1)) (blkOk_by (own := [("item", 4)]) (N := N_place_products) (sc := defScope s_place_products) (by decide +kernel)) (fun _ _ _ _ _ => (pg_name (i := 4) sc_place_products.nd rfl (Or.inl rfl))) (fun _ _ _ _ _ => pts_nil) (fun _ _ _ _ _ => (pe_call (ok_times T) (hr.mono (by decide)) (by rfl) T.g_times T.F_times.kp (b_times T) .nil pass0 (pa_cons (pv 4) (pa_cons (pv 2) pa_nil)))))
      (pss_one (ps_setLc (i := 1) (own := [("one", 5), ("other", 6)]) (g := gTup K 2 (gCons (gName 5) (gCons (gName 6) gNil))) (tt := tYes) rfl sc_place_products.nd rfl rfl (sw_true rfl rfl rfl (by decide +kernel)) (pi_zipA (by rfl) T.n_zip (pa_cons (pe_op op_cat (pv 1) (pe_lst (pa_cons (pe_glob (v := .ref T.a_ZERO) (by rfl) T.g_ZERO rfl) pa_nil))) (pa_cons (pe_op op_cat (pe_lst (pa_cons (pe_glob (v := .ref T.a_ZERO) (by rfl) T.g_ZERO rfl) pa_nil)) (pv 3)) pa_nil))) (blkOk_by (own := [("one", 5), ("other", 6)]) (N := N_place_products) (sc := defScope s_place_products) (by decide +kernel)) (fun _ _ _ _ _ => (pg_tup rfl (pgs_cons (pg_name (i := 5) sc_place_products.nd rfl (Or.inl rfl)) (pgs_cons (pg_name (i := 6) sc_place_products.nd rfl (Or.inl rfl)) pgs_nil)))) (fun _ _ _ _ _ => pts_nil) (fun _ _ _ _ _ => (pe_call (ok_plus T) (hr.mono (by decide)) (by rfl) T.g_plus T.F_plus.kp (b_plus T) .nil pass0 (pa_cons (pv 5) (pa_cons (pv 6) pa_nil))))))))
      (pss_one (ps_ret (pv 1))))), ?_⟩
  refine ⟨sz_of (by show 1 ≤ 100000; decide), fun D0 hD0 => ?_⟩
  have e0 : Same H (upd H D0 (.lst [.ref T.a_ONE])) := same_upd hD0
  refine ⟨_, rfl, a, rfl, ⟨_, kp_t (kp_same e0) ha⟩, for_tup (xs := xs) (fun j σ H' => j ≤ xs.length ∧ Same H H' ∧ ∃ D ws z1 z2, H' D = some (.lst ws) ∧ Rts K H' ws (pe (cf p) j) ∧ σ = [some (.ref a), some (.ref D), z1, z2, none, none, none]) ⟨Nat.zero_le _, e0, D0, _, none, none, upd_same, .cons (rt_one (T.k_ONE _)) .nil, rfl⟩ (fun i σ H' _ h => kp_t (kp_same h.2.1) ha) ?_ ?_⟩
  · rintro j x σ H1 hx ⟨hj, e, D, ws, z1, z2, hD, hw, rfl⟩
    obtain ⟨c, hc1, hc2⟩ := pr_get' rs hx
    have hj' := (List.getElem?_eq_some_iff.mp hx).1
    have ec : cf p j = c := cf_at hc1
    have bc := hb c (List.mem_of_getElem? hc1)
    have hwl : ws.length = j + 1 := by rw [hw.length, pe_len]
    -- longer
    refine ⟨_, rfl, D, rfl, ⟨_, sl_of hD⟩, fun D1 hD1 => lc_list (xs := ws) (fun i H' => ∃ us, Lc H1 D1 us H' ∧ us.length = i ∧ Rts K H' us (smul c ((pe (cf p) j).take i))) ⟨[], Lc.start hD1, rfl, .nil⟩ (fun i H' _ ⟨us, l, _⟩ => sl_of (l.2.1 _ _ hD)) (fun i y H' hy ⟨us, l, hul, hu⟩ => ?_) (fun H2 ⟨us, l, hul, hu⟩ => ?_)⟩
    · obtain ⟨d, hd1, hd2⟩ := pr_get' hw hy
      have hi := (List.getElem?_eq_some_iff.mp hy).1
      refine ⟨rfl, ?_⟩
      show tCall (spTwo K (· * ·)) [] E0 (tCons (tVar 4) (tCons (tVar 2) tNil)) _ _ _
      have bd : Bd k d := by rw [← cf_at hd1]; exact hpe j i (by omega)
      refine ⟨_, rfl, _, rfl, y, x, d, c, rfl, hd2.sm l.2.1, (hc2.sm e).sm l.2.1, bd.le (by omega), bc.le (by omega), fun v H3 e3 hv => ?_⟩
      have h3 := e3 _ _ l.2.2
      refine ⟨us, h3, sz_lt (by omega), us ++ [v], l.next e3 rfl, by rw [List.length_append, hul]; rfl, ?_⟩
      have e4 : smul c ((pe (cf p) j).take (i + 1)) = smul c ((pe (cf p) j).take i) ++ [d * c] := by
        unfold smul
        rw [List.take_add_one, hd1, List.map_append]
        show _ ++ [c * d] = _
        rw [Rat.mul_comm c d]
      rw [e4]
      exact pr_app (Rts.kp (Rts.sm hu e3) (ro_upd.kp h3)) (.cons (hv.kp (ro_upd.kp h3)) .nil)
    rw [hwl, show j + 1 = (pe (cf p) j).length from (pe_len ..).symm, List.take_length] at hu
    have hul' : us.length = j + 1 := by omega
    have f2 := l.2.1
    have hD2 := f2 _ _ hD
    -- sums
    refine ⟨_, rfl, sz_of (by show 1 ≤ 100000; decide), fun s1 hs1 => ?_⟩
    have g1 := same_upd (o := .lst [.ref T.a_ZERO]) hs1
    refine ⟨D, s1, ws, _, rfl, rfl, g1 _ _ hD2, upd_same, sz_of (by show ws.length + 1 ≤ 100000; omega), fun s2 hs2 => ?_⟩
    have g2 := same_upd (o := .lst (ws ++ [.ref T.a_ZERO])) hs2
    refine ⟨sz_of (by show 1 ≤ 100000; decide), fun s3 hs3 => ?_⟩
    have g3 := same_upd (o := .lst [.ref T.a_ZERO]) hs3
    have hD1 := g3 _ _ (g2 _ _ (g1 _ _ l.2.2))
    refine ⟨_, rfl, s3, D1, _, us, rfl, rfl, upd_same, hD1, sz_of (by show 1 + us.length ≤ 100000; omega), fun s4 hs4 => ?_⟩
    have g4 := same_upd (o := .lst ([.ref T.a_ZERO] ++ us)) hs4
    have g := ((g1.trans g2).trans g3).trans g4
    have hA : Rts K (upd (upd (upd (upd H2 s1 (.lst [.ref T.a_ZERO])) s2 (.lst (ws ++ [.ref T.a_ZERO]))) s3 (.lst [.ref T.a_ZERO])) s4 (.lst ([.ref T.a_ZERO] ++ us))) (ws ++ [.ref T.a_ZERO]) (pe (cf p) j ++ [0]) := pr_app ((hw.sm f2).sm g) (.cons (rt_zero (T.k_ZERO _)) .nil)
    have hB : Rts K (upd (upd (upd (upd H2 s1 (.lst [.ref T.a_ZERO])) s2 (.lst (ws ++ [.ref T.a_ZERO]))) s3 (.lst [.ref T.a_ZERO])) s4 (.lst ([.ref T.a_ZERO] ++ us))) ([.ref T.a_ZERO] ++ us) (0 :: smul c (pe (cf p) j)) := .cons (rt_zero (T.k_ZERO _)) (hu.sm g)
    have hs2' : (upd (upd (upd (upd H2 s1 (.lst [.ref T.a_ZERO])) s2 (.lst (ws ++ [.ref T.a_ZERO]))) s3 (.lst [.ref T.a_ZERO])) s4 (.lst ([.ref T.a_ZERO] ++ us))) s2 = some (.lst (ws ++ [.ref T.a_ZERO])) := g4 _ _ (g3 _ _ upd_same)
    have hs4' : (upd (upd (upd (upd H2 s1 (.lst [.ref T.a_ZERO])) s2 (.lst (ws ++ [.ref T.a_ZERO]))) s3 (.lst [.ref T.a_ZERO])) s4 (.lst ([.ref T.a_ZERO] ++ us))) s4 = some (.lst ([.ref T.a_ZERO] ++ us)) := upd_same
    generalize upd (upd (upd (upd H2 s1 (.lst [.ref T.a_ZERO])) s2 (.lst (ws ++ [.ref T.a_ZERO]))) s3 (.lst [.ref T.a_ZERO])) s4 (.lst ([.ref T.a_ZERO] ++ us)) = H3 at g hA hB hs2' hs4'
    refine ⟨s2, s4, _, _, rfl, .inl ⟨sl_of hs2', sl_of hs4', fun D3 hD3 => ?_⟩⟩
    have hn : j + 2 = min (ws ++ [V.ref T.a_ZERO]).length ([V.ref T.a_ZERO] ++ us).length := by
      rw [List.length_append, List.length_append, hwl, hul']; show j + 2 = min (j + 1 + 1) (1 + (j + 1)); omega
    refine lc_it (walk_zipQ hn) (fun i H' => ∃ rs' L, Lc H3 D3 rs' H' ∧ rs'.length = i ∧ Rts K H' rs' L ∧ ∀ n, cf L n = if n < i then cf (pe (cf p) (j + 1)) n else 0) ⟨[], [], Lc.start hD3, rfl, .nil, fun n => by rw [if_neg (by omega)]; rfl⟩ (fun i H' _ ⟨_, _, l, _⟩ => ⟨sl_of (l.2.1 _ _ hs2'), sl_of (l.2.1 _ _ hs4')⟩) ?_ ?_
    · rintro i v H4 H5 hi ⟨rs', L, l4, hrl, hr', hL⟩ ⟨t3, x1, y1, rfl, ht3, rfl, h3, h4⟩
      refine ⟨t3, _, rfl, st_of upd_same, rfl, x1, _, rfl, y1, _, rfl, rfl, rfl, ?_⟩
      have f5 : Same H4 (upd H4 t3 (.tup [x1, y1])) := same_upd ht3
      obtain ⟨c1, hc1', hc1''⟩ := pr_get' hA h3
      obtain ⟨d1, hd1', hd1''⟩ := pr_get' hB h4
      have ec1 : c1 = cf (pe (cf p) j) i := by
        rw [← cf_at hc1', show [(0 : Rat)] = List.replicate 1 0 from rfl, cf_pad]
      have eS : c1 + d1 = cf (pe (cf p) (j + 1)) i := by
        rw [pe, cf_padd, ← ec1, ← cf_at hd1', ec]
      have b1 : Bd k c1 := by rw [ec1]; exact hpe j i (by omega)
      have b2 : Bd (k + k) d1 := by
        rw [← cf_at hd1']
        cases i with
        | zero => show Bd (k + k) 0; exact Bd.zero.le (by have := bc.pos; omega)
        | succ i =>
          show Bd (k + k) (cf (smul c (pe (cf p) j)) i)
          rw [cf_smul]
          exact bc.mul (hpe j i (by omega))
      show tCall (spTwo K (· + ·)) [] E0 (tCons (tVar 5) (tCons (tVar 6) tNil)) _ _ _
      refine ⟨_, rfl, _, rfl, x1, y1, c1, d1, rfl, hc1''.sm (l4.2.1.trans f5), hd1''.sm (l4.2.1.trans f5), b1.le (by omega), b2.le (by omega), fun v H6 e6 hv => ?_⟩
      have h6 := e6 _ _ (f5 _ _ l4.2.2)
      have hLl : L.length = i := by rw [← hr'.length]; exact hrl
      refine ⟨rs', h6, sz_lt (by omega), rs' ++ [v], L ++ [c1 + d1], l4.next (f5.trans e6) rfl, by rw [List.length_append, hrl]; rfl, pr_app (Rts.kp (Rts.sm hr' (f5.trans e6)) (ro_upd.kp h6)) (.cons (hv.kp (ro_upd.kp h6)) .nil), fun n => ?_⟩
      rw [cf_snoc, hLl, hL n]
      by_cases z : n = i
      · subst z; rw [if_pos rfl, if_pos (by omega), eS]
      · rw [if_neg z]
        by_cases z2 : n < i
        · rw [if_pos z2, if_pos (by omega)]
        · rw [if_neg z2, if_neg (by omega)]
    · rintro H4 ⟨rs', L, l4, hrl, hr', hL⟩
      have eL : L = pe (cf p) (j + 1) := ext_cf (by rw [← hr'.length, hrl, pe_len]) fun n => by
        rw [hL n]
        by_cases z : n < j + 2
        · rw [if_pos z]
        · rw [if_neg z, cf_ge (by rw [pe_len]; omega)]
      rw [eL] at hr'
      exact ⟨by omega, ((e.trans f2).trans g).trans l4.2.1, D3, rs', some x, some (.ref D1), l4.2.2, hr', rfl⟩
  · rintro σ H' ⟨_, e, D, ws, z1, z2, hD, hw, rfl⟩
    rw [hl] at hw
    exact ⟨_, rfl, q D ws _ e hD hw⟩
theorem ok_is_polynomial (T : Txt K mg) : FnOk P w K mg base CX0 4 T.f_is_polynomial T.d_is_polynomial P_is_polynomial (spIsPoly K) := by
  refine T.F_is_polynomial.ok sc_is_polynomial (fun vs H Q E h => ?_) (fun cdv A outer s H vs Q E hr h => ?_)
  · obtain ⟨x, t, rfl, _⟩ := h; rfl
  obtain ⟨_, p, rfl, hp, hc, hz, q⟩ := h
  obtain ⟨a, xs, rfl, ha, rs, hl⟩ := hp.len
  refine ⟨_, (pss_cons (ps_if (PW.pt (pw_or (pt_not (pt_val (pe_call (ok_has_length T) (hr.mono (by decide)) (by rfl) T.g_has_length T.F_has_length.kp (b_has_length T) .nil pass0 (pa_cons (pv 0) (pa_cons pe_int (pa_cons (pe_op op_add (pe_glob (v := .int 12) (by rfl) T.g_HIGHEST_POWER ⟨T.t_HIGHEST_POWER, rfl⟩) pe_int) pa_nil)))))) (pw_or1 (pt_not (pt_val (pe_call (ok_are_ratios T) (hr.mono (by decide)) (by rfl) T.g_are_ratios T.F_are_ratios.kp (b_are_ratios T) .nil pass0 (pa_cons (pv 0) (pa_cons (pe_callB call_len_seq (by rfl) T.n_len PySem.boot_len (pa_cons (pv 0) pa_nil)) pa_nil)))))))) (pss_one (ps_ret pe_bl)) pss_nil)
      (pss_one (ps_ret (pe_or (pe_cmpR (op_eqD hr.units) (pv 0) (pe_tup pa_nil) (nomark _)) (pe_one (pe_cmpR (op_neD hr.units) (pe_ix ix_tup (pv 0) (pe_un un_neg pe_int) (fun _ _ => rfl)) (pe_glob (v := .ref T.a_ZERO) (by rfl) T.g_ZERO rfl) (nomark _))))))), ?_⟩
  refine ⟨_, rfl, _, _, rfl, rfl, a, xs, 0, 13, rfl, ha, true, ?_, ?_⟩
  · show V.bl (decide ((0 : Int) ≤ (xs.length : Int)) && decide ((xs.length : Int) ≤ 13)) = V.bl true
    rw [decide_eq_true (by omega), decide_eq_true (by omega)] <;> rfl
  refine iteF ?_
  refine ⟨_, rfl, _, rfl, a, xs, rfl, .inr ha, _, p, _, rfl, hp, by omega, by rw [hl], fun H1 e1 => ⟨true, rfl, iteF ?_⟩⟩
  refine ⟨_, rfl, (by show 0 ≤ sizeLine; decide), fun t ht => eq_pp ((hp.sm e1).sm (same_upd ht)) (pl_nil (st_of upd_same)) ?_⟩
  have e2 := e1.trans (same_upd (o := .tup []) ht)
  rcases can_last hc with e | ⟨r, b, e, hb⟩
  · exact ⟨true, congrArg V.bl (decide_eq_true e), iteT (q _ e2)⟩
  · refine ⟨false, congrArg V.bl (decide_eq_false fun z => by rw [e] at z; simp at z), iteF ?_⟩
    obtain ⟨v, hv1, hv2⟩ := pr_get rs (show p[r.length]? = some b by rw [e]; simp)
    have hx : ∃ ys, xs = ys ++ [v] := by
      refine ⟨xs.take r.length, ?_⟩
      have h1 : xs.length = r.length + 1 := by rw [hl, e]; simp
      have h2 : xs.take (r.length + 1) = xs := List.take_of_length_le (by omega)
      rw [List.take_add_one, hv1] at h2
      exact h2.symm
    obtain ⟨ys, rfl⟩ := hx
    refine ⟨_, rfl, 1, rfl, a, _, _, v, rfl, rfl, kp_t (kp_same e2) ha, atI_last ys v, ne_rr (hv2.sm e2) (rt_zero (T.k_ZERO _)) ?_⟩
    rw [decide_eq_false hb]
    exact q _ e2
theorem ok__law_poly (T : Txt K mg) : FnOk P w K mg base CX0 4 T.f__law_poly T.d__law_poly P_law_poly (spPoly K) := by
  refine T.F__law_poly.ok sc_law_poly (fun vs H Q E h => ?_) (fun cdv A outer s H vs Q E hr h => ?_)
  · obtain ⟨x, t, rfl, _⟩ := h; rfl
  obtain ⟨r, n, rfl, hR, h0, h1, q⟩ := h
  refine ⟨_, (pss_one (ps_ret (pe_call (ok__law_trim T) (hr.mono (by decide)) (by rfl) T.g__law_trim T.F__law_trim.kp (b__law_trim T) .nil pass0 (pa_cons (pe_lc (own := [("at", 2)]) (g := gName 2) (tt := tYes) rfl sc_law_poly.nd (pi_range1 (by rfl) T.n_range (pa_cons (pe_call (ok__law_taken T) (hr.mono (by decide)) (by rfl) T.g__law_taken T.F__law_taken.kp (b__law_taken T) .nil pass0 (pa_cons (pv 0) (pa_cons (pe_op op_add (pv 1) pe_int) pa_nil))) pa_nil)) (blkOk_by (own := [("at", 2)]) (N := N_law_poly) (sc := defScope s_law_poly) (by decide +kernel)) (fun _ _ _ _ _ => (pg_name (i := 2) sc_law_poly.nd rfl (Or.inl rfl))) (fun _ _ _ _ _ => pts_nil) (fun _ _ _ _ _ => (pe_call (ok__law_draw T) (hr.mono (by decide)) (by rfl) T.g__law_draw T.F__law_draw.kp (b__law_draw T) .nil pass0 (pa_cons (pv 0) pa_nil)))) pa_nil)))), ?_⟩
  refine ⟨_, rfl, _, rfl, _, _, rfl, rfl, r, _, rfl, hR, by omega, by omega, fun k H1 k0 k1 hR1 hro1 => ?_⟩
  refine ⟨k, rfl, by omega, by omega, fun D hD => ?_⟩
  have hne := hR1.ne hD
  refine lc_range (lo := 0) (n := k.toNat) (fun i H' => Row K H' r ∧ Ro r H H' ∧ ∃ ws ps, H' D = some (.lst ws) ∧ Rts K H' ws ps ∧ ps.length = i ∧ ∀ c ∈ ps, Bd 3 c) ⟨hR1.sm (same_upd hD), hro1.trans (ro_same (same_upd hD)), [], [], upd_same, .nil, rfl, fun c hc => by cases hc⟩ ?_ ?_
  · rintro i H' hi ⟨hR', hro', ws, ps, hw1, hw2, hw3, hw4⟩
    refine ⟨rfl, ?_⟩
    show tCall (spDraw K) [] E0 (tCons (tVar 0) tNil) _ _ _
    refine ⟨_, rfl, r, rfl, hR', fun v c H2 hv hc hR2 hro2 => ?_⟩
    have hwl := hw2.length
    have hD2 := hro2 _ _ hne hw1
    refine ⟨ws, hD2, sz_lt (by omega), ?_⟩
    have k2 : Kp H2 (upd H2 D (.lst (ws ++ [v]))) := (ro_upd (a := D)).kp hD2
    refine ⟨hR2.upd hD2 hne, ?_, ws ++ [v], ps ++ [c], upd_same, Rts.kp (pr_app (Rts.kp hw2 (hR'.kp hro2)) (.cons hv .nil)) k2, by rw [List.length_append, hw3] <;> rfl, fun y hy => ?_⟩
    · intro b o hb h
      by_cases z : b = D
      · subst z; rw [hro1 _ _ hb h] at hD; cases hD
      · rw [upd_ne z]; exact hro2 _ _ hb (hro' _ _ hb h)
    · rcases List.mem_append.mp hy with h | h
      · exact hw4 y h
      · rw [List.mem_singleton.mp h]; exact hc
  · rintro H' ⟨hR', hro', ws, ps, hw1, hw2, hw3, hw4⟩
    refine ⟨D, ws, ps, rfl, hw1, hw2, by omega, fun v H2 e2 hv => q _ _ _ hv (can_trim ps) ?_ (fun c hc => hw4 c (trim_mem hc)) (hR'.sm e2) (hro'.trans (ro_same e2))⟩
    have := trim_len ps
    omega
theorem ok__law_row (T : Txt K mg) : FnOk P w K mg base CX0 4 T.f__law_row T.d__law_row P_law_row (spRow K) := by
  refine T.F__law_row.ok sc_law_row (fun vs H Q E h => ?_) (fun cdv A outer s H vs Q E hr h => ?_)
  · obtain ⟨x, t, rfl, _⟩ := h; rfl
  obtain ⟨r, n, rfl, hR, h0, h1, q⟩ := h
  refine ⟨_, (pss_one (ps_ret (pe_callTy call_tuple_of (by rfl) T.n_tuple (by decide +kernel) (pa_cons (pe_lc (own := [("at", 2)]) (g := gName 2) (tt := tYes) rfl sc_law_row.nd (pi_range1 (by rfl) T.n_range (pa_cons (pe_op op_add pe_int (pe_call (ok__law_taken T) (hr.mono (by decide)) (by rfl) T.g__law_taken T.F__law_taken.kp (b__law_taken T) .nil pass0 (pa_cons (pv 0) (pa_cons (pe_op op_add (pv 1) pe_int) pa_nil)))) pa_nil)) (blkOk_by (own := [("at", 2)]) (N := N_law_row) (sc := defScope s_law_row) (by decide +kernel)) (fun _ _ _ _ _ => (pg_name (i := 2) sc_law_row.nd rfl (Or.inl rfl))) (fun _ _ _ _ _ => pts_nil) (fun _ _ _ _ _ => (pe_call (ok__law_draw T) (hr.mono (by decide)) (by rfl) T.g__law_draw T.F__law_draw.kp (b__law_draw T) .nil pass0 (pa_cons (pv 0) pa_nil)))) pa_nil)))), ?_⟩
  refine ⟨_, rfl, _, rfl, _, _, rfl, rfl, r, _, rfl, hR, by omega, by omega, fun k H1 k0 k1 hR1 hro1 => ?_⟩
  refine ⟨_, _, rfl, rfl, 1 + k, rfl, by omega, by omega, fun D hD => ?_⟩
  have hne := hR1.ne hD
  refine lc_range (lo := 0) (n := (1 + k).toNat) (fun i H' => Row K H' r ∧ Ro r H H' ∧ ∃ ws ps, H' D = some (.lst ws) ∧ Rts K H' ws ps ∧ ps.length = i ∧ ∀ c ∈ ps, Bd 3 c) ⟨hR1.sm (same_upd hD), hro1.trans (ro_same (same_upd hD)), [], [], upd_same, .nil, rfl, fun c hc => by cases hc⟩ ?_ ?_
  · rintro i H' hi ⟨hR', hro', ws, ps, hw1, hw2, hw3, hw4⟩
    refine ⟨rfl, ?_⟩
    show tCall (spDraw K) [] E0 (tCons (tVar 0) tNil) _ _ _
    refine ⟨_, rfl, r, rfl, hR', fun v c H2 hv hc hR2 hro2 => ?_⟩
    have hwl := hw2.length
    have hD2 := hro2 _ _ hne hw1
    refine ⟨ws, hD2, sz_lt (by omega), ?_⟩
    have k2 : Kp H2 (upd H2 D (.lst (ws ++ [v]))) := (ro_upd (a := D)).kp hD2
    refine ⟨hR2.upd hD2 hne, ?_, ws ++ [v], ps ++ [c], upd_same, Rts.kp (pr_app (Rts.kp hw2 (hR'.kp hro2)) (.cons hv .nil)) k2, by rw [List.length_append, hw3] <;> rfl, fun y hy => ?_⟩
    · intro b o hb h
      by_cases z : b = D
      · subst z; rw [hro1 _ _ hb h] at hD; cases hD
      · rw [upd_ne z]; exact hro2 _ _ hb (hro' _ _ hb h)
    · rcases List.mem_append.mp hy with h | h
      · exact hw4 y h
      · rw [List.mem_singleton.mp h]; exact hc
  · rintro H' ⟨hR', hro', ws, ps, hw1, hw2, hw3, hw4⟩
    refine ⟨D, ws, rfl, .inl ⟨sl_of hw1, fun u hu => ?_⟩⟩
    have e2 := same_upd (o := .tup ws) hu
    exact q _ ps _ ⟨u, _, rfl, st_of upd_same, Rts.sm hw2 e2⟩ (by omega) (by omega) hw4 (hR'.sm e2) (hro'.trans (ro_same e2))
theorem ok__law_unit_poly (T : Txt K mg) : FnOk P w K mg base CX0 4 T.f__law_unit_poly T.d__law_unit_poly P_law_unit_poly (spUnit K) := by
  refine T.F__law_unit_poly.ok sc_law_unit_poly (fun vs H Q E h => ?_) (fun cdv A outer s H vs Q E hr h => ?_)
  · obtain ⟨x, p, m, M, k, rfl, _⟩ := h; rfl
  obtain ⟨_, p, m, M, k, rfl, hp, h0, hz, hd, hm0, hm, hM, hk, q⟩ := h
  obtain ⟨a, xs, rfl, ha, rs, hl⟩ := hp.len
  refine ⟨_, (pss_cons (ps_par (i := 1) (j := 2) rfl sc_law_unit_poly.nd rfl rfl (by decide) rfl rfl (pa_cons (pe_op op_sub (pe_callB call_len_seq (by rfl) T.n_len PySem.boot_len (pa_cons (pv 0) pa_nil)) pe_int) (pa_cons (pe_tup pa_nil) pa_nil)) (by rfl))
      (pss_cons (ps_for PassesOwn.never rfl (pi_range1 (by rfl) T.n_range (pa_cons (pe_op op_add (pv 1) pe_int) pa_nil)) (pg_name (i := 3) sc_law_unit_poly.nd rfl (.inl rfl)) (pss_cons (ps_set (i := 4) sc_law_unit_poly.nd rfl (.inl rfl) (pe_tup (pa_cons (pe_tup (pa_cons pe_int (pa_cons pe_int pa_nil))) pa_nil)))
      (pss_cons (ps_for PassesOwn.never rfl (pi_range1 (by rfl) T.n_range (pa_cons (pv 1) pa_nil)) (pg_name (i := 5) sc_law_unit_poly.nd rfl (.inl rfl)) (pss_one (ps_set (i := 4) sc_law_unit_poly.nd rfl (.inl rfl) (pe_call (ok__law_p_times T) (hr.mono (by decide)) (by rfl) T.g__law_p_times T.F__law_p_times.kp (b__law_p_times T) .nil pass0 (pa_cons (pv 4) (pa_cons (pe_ifExp (pt_cmpR op_lt (pv 5) (pv 3) (nomark _)) (pe_tup (pa_cons (pe_tup (pa_cons pe_int (pa_cons pe_int pa_nil))) (pa_cons (pe_tup (pa_cons pe_int (pa_cons pe_int pa_nil))) pa_nil))) (pe_tup (pa_cons (pe_tup (pa_cons pe_int (pa_cons pe_int pa_nil))) (pa_cons (pe_tup (pa_cons (pe_un un_neg pe_int) (pa_cons pe_int pa_nil))) pa_nil)))) pa_nil))))))
      (pss_one (ps_set (i := 2) sc_law_unit_poly.nd rfl (.inl rfl) (pe_call (ok__law_p_plus T) (hr.mono (by decide)) (by rfl) T.g__law_p_plus T.F__law_p_plus.kp (b__law_p_plus T) .nil pass0 (pa_cons (pv 2) (pa_cons (pe_call (ok__law_scaled T) (hr.mono (by decide)) (by rfl) T.g__law_scaled T.F__law_scaled.kp (b__law_scaled T) .nil pass0 (pa_cons (pv 4) (pa_cons (pe_call (ok__law_times T) (hr.mono (by decide)) (by rfl) T.g__law_times T.F__law_times.kp (b__law_times T) .nil pass0 (pa_cons (pe_ix ix_tup (pv 0) (pv 3) (fun _ _ => rfl)) (pa_cons (pe_tup (pa_cons (pe_call (ok__law_choose T) (hr.mono (by decide)) (by rfl) T.g__law_choose T.F__law_choose.kp (b__law_choose T) .nil pass0 (pa_cons (pv 1) (pa_cons (pv 3) pa_nil))) (pa_cons pe_int pa_nil))) pa_nil))) pa_nil))) pa_nil))))))))
      (pss_one (ps_ret (pv 2))))), ?_⟩
  have kBe : kB = 2250 := rfl
  refine ⟨_, rfl, a, xs, rfl, .inr ha, _, _, rfl, rfl, sz_of (by show 0 ≤ 100000; decide), fun t ht => ⟨_, _, rfl, ?_⟩⟩
  have e1 : Same H (upd H t (.tup [])) := same_upd ht
  have z1 : Pl K (upd H t (.tup [])) (.ref t) [] := pl_nil (st_of upd_same)
  generalize upd H t (.tup []) = H1 at e1 z1
  have ha1 := kp_t (kp_same e1) ha
  generalize hdd : p.length - 1 = d at *
  have ed : (xs.length : Int) - 1 = (d : Int) := by omega
  have hd9 : d < 9 := by omega
  refine ⟨_, rfl, _, _, rfl, rfl, (xs.length : Int) - 1 + 1, rfl, by omega, by omega, ?_⟩
  have en : ((xs.length : Int) - 1 + 1).toNat = d + 1 := by omega
  rw [en]
  refine for_range (lo := 0) (n := d + 1) (fun i σ H' => Same H1 H' ∧ ∃ v z3 z4 z5, Pl K H' v (fu p d i) ∧ σ = [some (.ref a), some (.int ((xs.length : Int) - 1)), some v, z3, z4, z5]) ⟨Same.refl _, .ref t, none, none, none, z1, rfl⟩ ?_ ?_
  · rintro i σ H' hi ⟨e, v, z3, z4, z5, hv, rfl⟩
    have ei : (0 : Int) + (i : Int) = (i : Int) := Int.zero_add _
    refine ⟨sz_of (by show 2 ≤ 100000; decide), fun t1 ht1 => ⟨sz_of (by show 1 ≤ 100000; decide), fun t2 ht2 => ?_⟩⟩
    have g1 := same_upd (o := .tup [.int 1, .int 1]) ht1
    have g2 := same_upd (o := .tup [.ref t1]) ht2
    have z2 : Pl K (upd (upd H' t1 (.tup [.int 1, .int 1])) t2 (.tup [.ref t1])) (.ref t2) (prt i 0) := ⟨t2, _, rfl, st_of upd_same, .cons ((rt_one (st_of upd_same)).sm g2) .nil⟩
    have g := g1.trans g2
    generalize upd (upd H' t1 (.tup [.int 1, .int 1])) t2 (.tup [.ref t1]) = H2 at z2 g
    refine ⟨_, rfl, (xs.length : Int) - 1, rfl, by omega, by omega, ?_⟩
    have en2 : ((xs.length : Int) - 1).toNat = d := by omega
    rw [en2]
    refine for_range (lo := 0) (n := d) (fun j σ H3 => Same H2 H3 ∧ ∃ u z5, Pl K H3 u (prt i j) ∧ σ = [some (.ref a), some (.int ((xs.length : Int) - 1)), some v, some (.int (0 + (i : Int))), some u, z5]) ⟨Same.refl _, .ref t2, z5, z2, rfl⟩ ?_ ?_
    · rintro j σ H3 hj ⟨e3, u, z5, hu, rfl⟩
      have pl := prt_len i j
      have pb : ∀ c ∈ prt i j, Bd 9 c := dn_list (prt_dn i j) (by decide) (by decide) (by
        have : 2 ^ j ≤ 2 ^ 8 := Nat.pow_le_pow_right (by decide) (by omega)
        have : (2 : Nat) ^ 8 < 2 ^ 9 := by decide
        omega)
      refine ⟨_, rfl, _, rfl, _, rfl, _, _, rfl, rfl, _, rfl, ite2 (fun c => ?_) (fun c => ?_)⟩
      · have c' : j < i := by have := of_decide_eq_true c; omega
        refine ⟨sz_of (by show 2 ≤ 100000; decide), fun s1 hs1 => ⟨sz_of (by show 2 ≤ 100000; decide), fun s2 hs2 => ⟨sz_of (by show 2 ≤ 100000; decide), fun s3 hs3 => ?_⟩⟩⟩
        have f1 := same_upd (o := .tup [.int 0, .int 1]) hs1
        have f2 := same_upd (o := .tup [.int 1, .int 1]) hs2
        have f3 := same_upd (o := .tup [.ref s1, .ref s2]) hs3
        have f := (f1.trans f2).trans f3
        refine ⟨u, .ref s3, prt i j, [0, 1], 9, 1, rfl, hu.sm f, ⟨s3, _, rfl, st_of upd_same, .cons (((rt_zero (st_of upd_same)).sm f2).sm f3) (.cons ((rt_one (st_of upd_same)).sm f3) .nil)⟩, by omega, by show 2 ≤ 100; decide, by decide, by decide, pb, fun c hc => ?_, ?_, fun r H4 e4 hr4 => ⟨e3.trans (f.trans e4), r, some (.int (0 + (j : Int))), ?_, rfl⟩⟩
        · rcases List.mem_cons.mp hc with h | h
          · rw [h]; exact Bd.zero
          · rw [List.mem_singleton.mp h]; exact Bd.one
        · show 1 + min (prt i j).length 2 * (9 + 1 + 1) ≤ kB
          omega
        · rw [prt, if_pos c']; exact hr4
      · have c' : ¬ j < i := fun z => c (decide_eq_true (by omega))
        refine ⟨sz_of (by show 2 ≤ 100000; decide), fun s1 hs1 => ⟨1, rfl, sz_of (by show 2 ≤ 100000; decide), fun s2 hs2 => ⟨sz_of (by show 2 ≤ 100000; decide), fun s3 hs3 => ?_⟩⟩⟩
        have f1 := same_upd (o := .tup [.int 1, .int 1]) hs1
        have f2 := same_upd (o := .tup [.int (-1), .int 1]) hs2
        have f3 := same_upd (o := .tup [.ref s1, .ref s2]) hs3
        have f := (f1.trans f2).trans f3
        have hm1 : Rt K (upd (upd H3 s1 (.tup [.int 1, .int 1])) s2 (.tup [.int (-1), .int 1])) (.ref s2) (-1) := ⟨s2, rfl, st_of upd_same⟩
        refine ⟨u, .ref s3, prt i j, [1, -1], 9, 1, rfl, hu.sm f, ⟨s3, _, rfl, st_of upd_same, .cons (((rt_one (st_of upd_same)).sm f2).sm f3) (.cons (hm1.sm f3) .nil)⟩, by omega, by show 2 ≤ 100; decide, by decide, by decide, pb, fun c hc => ?_, ?_, fun r H4 e4 hr4 => ⟨e3.trans (f.trans e4), r, some (.int (0 + (j : Int))), ?_, rfl⟩⟩
        · rcases List.mem_cons.mp hc with h | h
          · rw [h]; exact Bd.one
          · rw [List.mem_singleton.mp h]; exact Bd.m1
        · show 1 + min (prt i j).length 2 * (9 + 1 + 1) ≤ kB
          omega
        · rw [prt, if_neg c']; exact hr4
    rintro σ H3 ⟨e3, u, z5, hu, rfl⟩
    have hip : i < p.length := by omega
    obtain ⟨w1, hw1, hw2⟩ := pr_get rs (List.getElem?_eq_getElem hip)
    have ec : p[i] = cf p i := (cf_lt hip).symm
    rw [ec] at hw2
    have f3 := (e1.trans e).trans (g.trans e3)
    have hi9 : i < 9 := by omega
    have kM : M < 2 ^ k := by omega
    have bc : Bd k (cf p i) := (hd i).bd hm0 hm kM
    have bn : Bd 7 (nq (chs d i)) := nq_bd (k := 7) (by have := chs_le d hd9 i hi9; omega) (by decide)
    refine ⟨_, rfl, _, rfl, _, rfl, _, rfl, a, xs, _, w1, rfl, rfl, kp_t (kp_same f3) ha, by rw [ei]; exact atI_nat hw1, ?_⟩
    refine ⟨_, rfl, _, rfl, d, i, by rw [← ed]; rw [ei]; rfl, by omega, by omega, sz_of (by show 2 ≤ 100000; decide), fun s1 hs1 => ?_⟩
    have g3 := same_upd (o := .tup [.int (chs d i : Nat), .int 1]) hs1
    refine ⟨w1, .ref s1, cf p i, nq (chs d i), rfl, (hw2.sm f3).sm g3, ⟨s1, rfl, st_of upd_same⟩, bc.le (by omega), bn.le (by decide), fun v1 H4 e4 hv1 => ?_⟩
    have g4 := g3.trans e4
    have pl := prt_len i d
    have pb : ∀ c ∈ prt i d, Bd 9 c := dn_list (prt_dn i d) (by decide) (by decide) (by
      have : 2 ^ d ≤ 2 ^ 8 := Nat.pow_le_pow_right (by decide) (by omega)
      have : (2 : Nat) ^ 8 < 2 ^ 9 := by decide
      omega)
    refine ⟨u, v1, prt i d, _, rfl, hu.sm g4, hv1, by omega, fun c hc => (pb c hc).le (by decide), (bc.mul bn).le (by omega), fun v2 H5 e5 hv2 => ?_⟩
    have g5 := (g.trans e3).trans (g4.trans e5)
    have l1 := fu_len p d i
    have l2 : (trim (smul (cf p i * nq (chs d i)) (prt i d))).length ≤ d + 1 := by
      have h1 := trim_len (smul (cf p i * nq (chs d i)) (prt i d))
      have h2 : (smul (cf p i * nq (chs d i)) (prt i d)).length = (prt i d).length := List.length_map _
      omega
    have b1 : ∀ c ∈ fu p d i, Bd k c := dn_list (fu_dn hd hd9 i (by omega)) hm0 hm (by
      have : i * (M * 17920) ≤ 9 * (M * 17920) := Nat.mul_le_mul_right _ (by omega)
      omega)
    have b2 : ∀ c ∈ trim (smul (cf p i * nq (chs d i)) (prt i d)), Bd k c := dn_list (smul_dn hd hd9 hi9) hm0 hm (by omega)
    refine ⟨v, v2, fu p d i, trim (smul (cf p i * nq (chs d i)) (prt i d)), rfl, hv.sm g5, hv2, by omega, by omega, fun c hc => (b1 c hc).le (by omega), fun c hc => (b2 c hc).le (by omega), fun v3 H6 e6 hv3 => ?_⟩
    exact ⟨e.trans (g5.trans e6), v3, _, _, _, hv3, rfl⟩
  · rintro σ H' ⟨e, v, z3, z4, z5, hv, rfl⟩
    refine ⟨_, rfl, q _ _ (e1.trans e) ?_⟩
    have eu : up p = fu p d (d + 1) := by
      have e5 : p.length = d + 1 := by omega
      unfold up
      rw [e5]; rfl
    rw [eu]
    exact hv
theorem ok_check_degree_of (T : Txt K mg) : FnOk P w K mg base CX0 4 T.f_check_degree_of T.d_check_degree_of P_check_degree_of (spCheckDegreeOf K) := by
  refine T.F_check_degree_of.ok sc_check_degree_of (fun vs H Q E h => ?_) (fun cdv A outer s H vs Q E hr h => ?_)
  · obtain ⟨x, t, _, _, rfl, _⟩ := h; rfl
  obtain ⟨_, p, v, m, rfl, hp, h1, h2, h3, q⟩ := h
  obtain ⟨a, xs, rfl, ha, rs, hl⟩ := hp.len
  refine ⟨_, (pss_one (ps_expr (pe_call (ok_check_degree T) (hr.mono (by decide)) (by rfl) T.g_check_degree T.F_check_degree.kp (b_check_degree T) .nil pass0 (pa_cons (pv 1) (pa_cons (pe_callB (call_max2 rfl) (by rfl) T.n_max (by decide +kernel) (pa_cons (pe_op op_sub (pe_callB call_len_seq (by rfl) T.n_len PySem.boot_len (pa_cons (pv 0) pa_nil)) pe_int) (pa_cons pe_int pa_nil))) (pa_cons (pv 2) pa_nil)))))), ?_⟩
  refine ⟨_, rfl, _, rfl, a, xs, rfl, .inr ha, _, _, rfl, rfl, _, _, rfl, ?_⟩
  refine ⟨_, rfl, _, _, _, rfl, ?_, h3, q⟩
  split <;> omega
theorem ok_check_places (T : Txt K mg) : FnOk P w K mg base CX0 4 T.f_check_places T.d_check_places P_check_places (spAreRatios' K) := by
  refine T.F_check_places.ok sc_check_places (fun vs H Q E h => ?_) (fun cdv A outer s H vs Q E hr h => ?_)
  · obtain ⟨x, t, _, rfl, _⟩ := h; rfl
  obtain ⟨x, p, n, rfl, hp, hz, hn, q⟩ := h
  refine ⟨_, (pss_one (ps_if (pt_not (pt_val (pe_call (ok_are_ratios T) (hr.mono (by decide)) (by rfl) T.g_are_ratios T.F_are_ratios.kp (b_are_ratios T) .nil pass0 (pa_cons (pv 0) (pa_cons (pv 1) pa_nil))))) (pss_one ps_never) pss_nil)), ?_⟩
  exact ⟨_, rfl, _, rfl, x, p, n, rfl, hp, hz, hn, fun H1 e1 => ⟨true, rfl, iteF (q _ e1)⟩⟩
theorem ok_blossom_at (T : Txt K mg) : FnOk P w K mg base CX0 4 T.f_blossom_at T.d_blossom_at P_blossom_at (spBlossomAt K) := by
  refine T.F_blossom_at.ok sc_blossom_at (fun vs H Q E h => ?_) (fun cdv A outer s H vs Q E hr h => ?_)
  · obtain ⟨x, y, _, _, _, _, rfl, _⟩ := h; rfl
  obtain ⟨_, _, p, q0, k1, k, rfl, hp, hq, hpq, hz, hb1, hb2, hpe, hk, hsz, hk1, hk2, q⟩ := h
  obtain ⟨a, xs, rfl, ha, rs, hl⟩ := hp.len
  obtain ⟨b, ys, rfl, hb, ss, hm⟩ := hq.len
  refine ⟨_, (pss_cons (ps_set (i := 2) sc_blossom_at.nd rfl (.inl rfl) (pe_call (ok_place_products T) (hr.mono (by decide)) (by rfl) T.g_place_products T.F_place_products.kp (b_place_products T) .nil pass0 (pa_cons (pv 1) pa_nil)))
      (pss_cons (ps_setLc (i := 3) (own := [("many", 4), ("item", 5)]) (g := gTup K 2 (gCons (gName 4) (gCons (gName 5) gNil))) (tt := tYes) rfl sc_blossom_at.nd rfl rfl (sw_true rfl rfl rfl (by decide +kernel)) (pi_enum (by rfl) T.n_enumerate (pa_cons (pv 2) pa_nil)) (blkOk_by (own := [("many", 4), ("item", 5)]) (N := N_blossom_at) (sc := defScope s_blossom_at) (by decide +kernel)) (fun _ _ _ _ _ => (pg_tup rfl (pgs_cons (pg_name (i := 4) sc_blossom_at.nd rfl (Or.inl rfl)) (pgs_cons (pg_name (i := 5) sc_blossom_at.nd rfl (Or.inl rfl)) pgs_nil)))) (fun _ _ _ _ _ => pts_nil) (fun _ _ _ _ _ => (pe_call (ok_over T) (hr.mono (by decide)) (by rfl) T.g_over T.F_over.kp (b_over T) .nil pass0 (pa_cons (pv 5) (pa_cons (pe_tup (pa_cons (pe_callBfun cr_comb (by rfl) T.g_comb (pa_cons (pe_callB (show CallR _ _ (rLen K) from cr_len) (by rfl) T.n_len PySem.boot_len (pa_cons (pv 1) pa_nil)) (pa_cons (pv 4) pa_nil))) (pa_cons pe_int pa_nil))) pa_nil)))))
      (pss_one (ps_ret (pe_call (ok_total_of T) (hr.mono (by decide)) (by rfl) T.g_total_of T.F_total_of.kp (b_total_of T) .nil pass0 (pa_cons (pe_lc (own := [("number", 6), ("mean", 7)]) (g := gTup K 2 (gCons (gName 6) (gCons (gName 7) gNil))) (tt := tYes) rfl sc_blossom_at.nd (pi_zipM (by rfl) T.n_zip (pa_cons (pv 0) (pa_cons (pv 3) pa_nil))) (blkOk_by (own := [("number", 6), ("mean", 7)]) (N := N_blossom_at) (sc := defScope s_blossom_at) (by decide +kernel)) (fun _ _ _ _ _ => (pg_tup rfl (pgs_cons (pg_name (i := 6) sc_blossom_at.nd rfl (Or.inl rfl)) (pgs_cons (pg_name (i := 7) sc_blossom_at.nd rfl (Or.inl rfl)) pgs_nil)))) (fun _ _ _ _ _ => pts_nil) (fun _ _ _ _ _ => (pe_call (ok_times T) (hr.mono (by decide)) (by rfl) T.g_times T.F_times.kp (b_times T) .nil pass0 (pa_cons (pv 6) (pa_cons (pv 7) pa_nil))))) pa_nil)))))), ?_⟩
  refine ⟨_, rfl, _, q0, k, rfl, hq, hz, hb2, hpe, by omega, fun D ws H1 e1 hD hw => ?_⟩
  have hwl : ws.length = q0.length + 1 := by rw [hw.length, pe_len]
  have hb1' := kp_t (kp_same e1) hb
  -- means
  refine ⟨_, rfl, D, ws, rfl, sl_of hD, fun D1 hD1 => lc_it walk_enum (fun i H' => ∃ us L, Lc H1 D1 us H' ∧ us.length = i ∧ Rts K H' us L ∧ ∀ n, n < i → cf L n = cf (pe (cf q0) q0.length) n / nq (chs q0.length n)) ⟨[], [], Lc.start hD1, rfl, .nil, fun n hn => absurd hn (Nat.not_lt_zero _)⟩ (fun i H' _ ⟨_, _, l, _⟩ => sl_of (l.2.1 _ _ hD)) ?_ ?_⟩
  · rintro i v H' H5 hi ⟨us, L, l, hul, hu, hL⟩ ⟨t3, x1, y1, rfl, ht3, rfl, h3, h4⟩
    cases h3
    refine ⟨t3, _, rfl, st_of upd_same, rfl, _, _, rfl, y1, _, rfl, rfl, rfl, ?_⟩
    have f5 : Same H' (upd H' t3 (.tup [.int (i : Nat), y1])) := same_upd ht3
    obtain ⟨c, hc1, hc2⟩ := pr_get' hw h4
    have ec : cf (pe (cf q0) q0.length) i = c := cf_at hc1
    show tCall (spOver K) [] E0 (tCons (tVar 5) (tCons (tTup (tCons (tCB rComb (tCons (tCB (rLen K) (tCons (tVar 1) tNil)) (tCons (tVar 4) tNil))) (tCons (tC (.int 1)) tNil))) tNil)) _ _ _
    have f6 := l.2.1.trans f5
    have hin : i ≤ q0.length := by omega
    have b8 : chs q0.length i < 2 ^ 17 := by
      have h1 := chs_two q0.length i
      have h2 : 2 ^ q0.length ≤ 2 ^ 16 := Nat.pow_le_pow_right (by decide) hz
      have h3 : (2 : Nat) ^ 16 < 2 ^ 17 := by decide
      omega
    have bn : Bd 17 (nq (chs q0.length i)) := nq_bd b8 (by decide)
    refine ⟨_, rfl, _, rfl, b, ys, rfl, .inr (kp_t (kp_same f6) hb1'), _, rfl, q0.length, i, by rw [hm], by omega, by omega, sz_of (by show 2 ≤ 100000; decide), fun u hu' => ?_⟩
    have f7 := same_upd (o := .tup [.int (chs q0.length i : Nat), .int 1]) hu'
    have bcc : Bd k c := by rw [← ec]; exact hpe _ _ (Nat.le_refl _)
    refine ⟨y1, .ref u, c, nq (chs q0.length i), rfl, (hc2.sm f6).sm f7, ⟨u, rfl, st_of upd_same⟩, bcc.le (by omega), bn.le (by decide), nq_ne (chs_pos _ _ hin), fun v H6 e6 hv => ?_⟩
    have f8 := (f5.trans f7).trans e6
    have h6 := e6 _ _ (f7 _ _ (f5 _ _ l.2.2))
    have hLl : L.length = i := by rw [← hu.length]; exact hul
    refine ⟨us, h6, sz_lt (by omega), us ++ [v], L ++ [c / nq (chs q0.length i)], l.next f8 rfl, by rw [List.length_append, hul]; rfl, pr_app (Rts.kp (Rts.sm hu f8) (ro_upd.kp h6)) (.cons (hv.kp (ro_upd.kp h6)) .nil), fun n hn => ?_⟩
    rw [cf_snoc, hLl]
    by_cases z : n = i
    · subst z; rw [if_pos rfl, ec]
    · rw [if_neg z]; exact hL n (by omega)
  rintro H2 ⟨us, L, l, hul, hu, hL⟩
  have f2 := e1.trans l.2.1
  have hD1' := l.2.2
  have hLl : L.length = q0.length + 1 := by rw [← hu.length, hul, hwl]
  have bm : ∀ n, n < q0.length + 1 → Bd (k + 17) (cf L n) := fun n hn => by
    rw [hL n (by omega), Rat.div_def]
    have h1 := hpe q0.length n (Nat.le_refl _)
    have b8 : chs q0.length n < 2 ^ 17 := by
      have h1 := chs_two q0.length n
      have h2 : 2 ^ q0.length ≤ 2 ^ 16 := Nat.pow_le_pow_right (by decide) hz
      have h3 : (2 : Nat) ^ 16 < 2 ^ 17 := by decide
      omega
    have h4 := h1.div (nq_bd (k := 17) b8 (by decide)) (nq_ne (chs_pos _ _ (show n ≤ q0.length by omega)))
    rw [Rat.div_def] at h4
    exact h4
  -- the sum
  have ha2 := kp_t (kp_same f2) ha
  have rs2 := rs.sm f2
  refine ⟨_, rfl, _, rfl, a, D1, xs, us, rfl, ha2, sl_of hD1', fun D2 hD2 => ?_⟩
  have hn : p.length = min xs.length us.length := by rw [hl, hul, hwl]; omega
  have tb : ∀ i, i < p.length → Bd (k1 + (k + 17)) (cf p i * cf L i) := fun i hi => by
    have h1 : Bd k1 (cf p i) := by rw [cf_lt hi]; exact hb1 _ (List.getElem_mem hi)
    exact h1.mul (bm i (by omega))
  refine lc_it (walk_zipM hn) (fun i H' => ∃ vs M, Lc H2 D2 vs H' ∧ vs.length = i ∧ Rts K H' vs M ∧ ∀ n, n < i → cf M n = cf p n * cf L n) ⟨[], [], Lc.start hD2, rfl, .nil, fun n hn => absurd hn (Nat.not_lt_zero _)⟩ (fun i H' _ ⟨_, _, l, _⟩ => ⟨kp_t (kp_same l.2.1) ha2, sl_of (l.2.1 _ _ hD1')⟩) ?_ ?_
  · rintro i v H' H5 hi ⟨vs, M, l2, hvl, hv, hM⟩ ⟨t3, x1, y1, rfl, ht3, rfl, h3, h4⟩
    refine ⟨t3, _, rfl, st_of upd_same, rfl, x1, _, rfl, y1, _, rfl, rfl, rfl, ?_⟩
    have f5 : Same H' (upd H' t3 (.tup [x1, y1])) := same_upd ht3
    obtain ⟨c1, hc1, hc1'⟩ := pr_get' rs2 h3
    obtain ⟨d1, hd1, hd1'⟩ := pr_get' hu h4
    have ec1 : c1 = cf p i := (cf_at hc1).symm
    have ed1 : d1 = cf L i := (cf_at hd1).symm
    subst ec1 ed1
    show tCall (spTwo K (· * ·)) [] E0 (tCons (tVar 6) (tCons (tVar 7) tNil)) _ _ _
    have b1 : Bd k1 (cf p i) := by rw [cf_lt hi]; exact hb1 _ (List.getElem_mem hi)
    refine ⟨_, rfl, _, rfl, x1, y1, _, _, rfl, hc1'.sm (l2.2.1.trans f5), hd1'.sm (l2.2.1.trans f5), b1.le hk1, (bm i (by omega)).le (by omega), fun v H6 e6 hv' => ?_⟩
    have h6 := e6 _ _ (f5 _ _ l2.2.2)
    have hMl : M.length = i := by rw [← hv.length]; exact hvl
    refine ⟨vs, h6, sz_lt (by omega), vs ++ [v], M ++ [cf p i * cf L i], l2.next (f5.trans e6) rfl, by rw [List.length_append, hvl]; rfl, pr_app (Rts.kp (Rts.sm hv (f5.trans e6)) (ro_upd.kp h6)) (.cons (hv'.kp (ro_upd.kp h6)) .nil), fun n hn => ?_⟩
    rw [cf_snoc, hMl]
    by_cases z : n = i
    · subst z; rw [if_pos rfl]
    · rw [if_neg z]; exact hM n (by omega)
  · rintro H3 ⟨vs, M, l2, hvl, hv, hM⟩
    have hMl : M.length = p.length := by rw [← hv.length]; exact hvl
    have eS : ∀ i, i ≤ p.length → sums (cf M) i = sums (fun n => cf p n * cf L n) i := fun i hi => sums_congr fun n hn => hM n (by omega)
    refine ⟨D2, vs, M, rfl, sl_of l2.2.2, hv, fun c hc => ?_, fun i hi => ?_, fun v H4 e4 hv4 => q v H4 ((f2.trans l2.2.1).trans e4) ?_⟩
    · obtain ⟨i, hi, e⟩ := List.mem_iff_getElem.mp hc
      rw [← e, ← cf_lt hi, hM i (by omega)]
      exact (tb i (by omega)).le (by omega)
    · rw [eS i (by omega)]
      refine (sums_bd fun n hn => tb n (by omega)).le (Nat.le_trans ?_ hsz)
      have := Nat.mul_le_mul_right (k1 + (k + 17) + 1) (show i ≤ p.length by omega)
      omega
    · have e : bls p (cf q0) q0.length = sums (cf M) M.length := by
        rw [hMl, eS _ (Nat.le_refl _)]
        exact sums_congr fun n hn => by rw [hL n (by omega)]
      rw [e]
      exact hv4
theorem ok_is_interval (T : Txt K mg) : FnOk P w K mg base CX0 4 T.f_is_interval T.d_is_interval P_is_interval (spIsInterval K) := by
  refine T.F_is_interval.ok sc_is_interval (fun vs H Q E h => ?_) (fun cdv A outer s H vs Q E hr h => ?_)
  · obtain ⟨x, t, _, rfl, _⟩ := h; rfl
  obtain ⟨_, lo, hi, rfl, hp, hlt, b1, b2, q⟩ := h
  obtain ⟨a, u, v, rfl, ha, hu, hv⟩ := pl_two hp
  refine ⟨_, (pss_one (ps_ret (pe_and (pe_call (ok_are_ratios T) (hr.mono (by decide)) (by rfl) T.g_are_ratios T.F_are_ratios.kp (b_are_ratios T) .nil pass0 (pa_cons (pv 0) (pa_cons pe_int pa_nil))) (pe_one (pe_call (ok_is_below T) (hr.mono (by decide)) (by rfl) T.g_is_below T.F_is_below.kp (b_is_below T) .nil pass0 (pa_cons (pe_ix ix_tup (pv 0) pe_int (fun _ _ => rfl)) (pa_cons (pe_ix ix_tup (pv 0) pe_int (fun _ _ => rfl)) pa_nil))))))), ?_⟩
  refine ⟨_, rfl, _, [lo, hi], 2, rfl, hp, by show 2 ≤ 1000; decide, rfl, fun H1 e1 => ⟨true, rfl, iteT ?_⟩⟩
  have ha1 := kp_t (kp_same e1) ha
  refine ⟨_, rfl, a, _, _, _, rfl, rfl, ha1, rfl, _, rfl, a, _, _, _, rfl, rfl, ha1, rfl, u, v, lo, hi, rfl, hu.sm e1, hv.sm e1, b1, b2, ?_⟩
  rw [decide_eq_true hlt]
  exact q _ e1
theorem ok__law_moved (T : Txt K mg) : FnOk P w K mg base CX0 4 T.f__law_moved T.d__law_moved P_law_moved (spMoved K) := by
  refine T.F__law_moved.ok sc_law_moved (fun vs H Q E h => ?_) (fun cdv A outer s H vs Q E hr h => ?_)
  · obtain ⟨x, t, _, _, _, _, _, _, rfl, _⟩ := h; rfl
  obtain ⟨_, y, z, p, a, b, k1, k2, rfl, hp, hy, hz, hl, h1, h2, b1, ba, bb, hk, hs, q⟩ := h
  obtain ⟨c, xs, rfl, hc, rs, hxl⟩ := hp.len
  refine ⟨_, (pss_cons (ps_asg (pe_tup (pa_cons (pe_tup pa_nil) (pa_cons (pe_tup (pa_cons (pe_tup (pa_cons pe_int (pa_cons pe_int pa_nil))) pa_nil)) pa_nil))) (pg_tup rfl (pgs_cons (pg_name (i := 3) sc_law_moved.nd rfl (.inl rfl)) (pgs_cons (pg_name (i := 4) sc_law_moved.nd rfl (.inl rfl)) pgs_nil))))
      (pss_cons (ps_for PassesOwn.never rfl (pi_tup (pv 0)) (pg_name (i := 5) sc_law_moved.nd rfl (.inl rfl)) (pss_cons (ps_set (i := 3) sc_law_moved.nd rfl (.inl rfl) (pe_call (ok__law_p_plus T) (hr.mono (by decide)) (by rfl) T.g__law_p_plus T.F__law_p_plus.kp (b__law_p_plus T) .nil pass0 (pa_cons (pv 3) (pa_cons (pe_call (ok__law_scaled T) (hr.mono (by decide)) (by rfl) T.g__law_scaled T.F__law_scaled.kp (b__law_scaled T) .nil pass0 (pa_cons (pv 4) (pa_cons (pv 5) pa_nil))) pa_nil))))
      (pss_one (ps_set (i := 4) sc_law_moved.nd rfl (.inl rfl) (pe_call (ok__law_p_times T) (hr.mono (by decide)) (by rfl) T.g__law_p_times T.F__law_p_times.kp (b__law_p_times T) .nil pass0 (pa_cons (pv 4) (pa_cons (pe_call (ok__law_trim T) (hr.mono (by decide)) (by rfl) T.g__law_trim T.F__law_trim.kp (b__law_trim T) .nil pass0 (pa_cons (pe_lst (pa_cons (pv 1) (pa_cons (pv 2) pa_nil))) pa_nil)) pa_nil)))))))
      (pss_one (ps_ret (pv 3))))), ?_⟩
  have kBe : kB = 2250 := rfl
  refine ⟨sz_of (by show 0 ≤ 100000; decide), fun t1 ht1 => ⟨sz_of (by show 2 ≤ 100000; decide), fun t2 ht2 => ⟨sz_of (by show 1 ≤ 100000; decide), fun t3 ht3 => ⟨sz_of (by show 2 ≤ 100000; decide), fun t4 ht4 => ?_⟩⟩⟩⟩
  have g1 := same_upd (o := .tup []) ht1
  have g2 := same_upd (o := .tup [.int 1, .int 1]) ht2
  have g3 := same_upd (o := .tup [.ref t2]) ht3
  have g4 := same_upd (o := .tup [.ref t1, .ref t3]) ht4
  have z1 := (((pl_nil (K := K) (st_of (upd_same (H := H) (a := t1)))).sm g2).sm g3).sm g4
  have z2 : Pl K (upd (upd (upd H t1 (.tup [])) t2 (.tup [.int 1, .int 1])) t3 (.tup [.ref t2])) (.ref t3) [1] := ⟨t3, _, rfl, st_of upd_same, .cons ((rt_one (st_of upd_same)).sm g3) .nil⟩
  replace z2 := z2.sm g4
  refine ⟨t4, _, rfl, st_of upd_same, rfl, _, _, rfl, _, _, rfl, rfl, ?_⟩
  have f5 := ((g1.trans g2).trans g3).trans g4
  generalize upd (upd (upd (upd H t1 (.tup [])) t2 (.tup [.int 1, .int 1])) t3 (.tup [.ref t2])) t4 (.tup [.ref t1, .ref t3]) = H5 at z1 z2 f5
  replace hc := kp_t (kp_same f5) hc
  replace rs := Rts.sm rs f5
  replace hy := hy.sm f5
  replace hz := hz.sm f5
  have bq : ∀ d ∈ trim [a, b], Bd k2 d := fun d hd => by
    have := trim_mem hd
    rcases List.mem_cons.mp this with h | h
    · rw [h]; exact ba
    · rw [List.mem_singleton.mp h]; exact bb
  have lq : (trim [a, b]).length ≤ 2 := trim_len [a, b]
  have elin : lin p a b = trim (comp p (trim [a, b])) := rfl
  generalize hQ : trim [a, b] = p2 at bq lq elin
  have sz := hs p2.length lq
  have szc : ∀ L, L < 3 → ∀ i, i < 7 → clen L i ≤ 10 ∧ i * (L - 1) + 1 ≤ 13 := by decide +kernel
  refine ⟨_, rfl, c, rfl, ⟨_, hc⟩, for_tup (fun i σ H' => i ≤ xs.length ∧ Same H5 H' ∧ ∃ y1 y2 w, Pl K H' y1 (trim (comp (p.take i) p2)) ∧ Pl K H' y2 (trim (ppow p2 i)) ∧ (∀ d ∈ trim (comp (p.take i) p2), Bd (dbits k1 k2 p2.length i) d) ∧ σ = [some (.ref c), some y, some z, some y1, some y2, w]) ⟨Nat.zero_le _, Same.refl _, _, _, none, z1, by rw [show trim (ppow p2 0) = [1] from trim_snoc [] (by decide)]; exact z2, fun d hd => (nomatch (show d ∈ ([] : List Rat) from hd)), rfl⟩ (fun i σ H' _ h => kp_t (kp_same h.2.1) hc) ?_ ?_⟩
  · rintro i v σ H' hv ⟨_, e, y1, y2, w, hy1, hy2, hdb, rfl⟩
    obtain ⟨d, hc1, hc2⟩ := pr_get' rs hv
    have hi := (List.getElem?_eq_some_iff.mp hc1).1
    have bd := b1 d (List.mem_of_getElem? hc1)
    obtain ⟨pb, pl⟩ := ppow_bd bq h2 i
    obtain ⟨s3, s4⟩ := sz i (by omega)
    obtain ⟨s3', s4'⟩ := sz (i + 1) (by omega)
    rw [pbits] at s3'
    rw [dbits] at s4'
    obtain ⟨c5, c6⟩ := szc p2.length (by omega) i (by omega)
    have pb' : ∀ d ∈ trim (ppow p2 i), Bd kB d := fun d hd => (pb d hd).le (by omega)
    have cl : (trim (comp (p.take i) p2)).length ≤ 10 := by
      obtain ⟨_, cl⟩ := comp_bd bq (k1 := k1) h1 h2 (p := p.take i) fun c hc => b1 c (List.mem_of_mem_take hc)
      rw [List.length_take, Nat.min_eq_left (by omega)] at cl
      omega
    have sl : (trim (smul d (trim (ppow p2 i)))).length ≤ 13 := by
      have h1 := trim_len (smul d (trim (ppow p2 i)))
      unfold smul at h1
      rw [List.length_map] at h1
      unfold smul
      omega
    have sb : ∀ u ∈ trim (smul d (trim (ppow p2 i))), Bd (k1 + pbits k2 p2.length i) u := fun u hu => bd_mem (fun n => by rw [cf_smul]; exact bd.mul (bd_cf pb (pbits_pos ..) n)) u (trim_mem hu)
    refine ⟨_, rfl, _, rfl, _, rfl, _, _, _, _, rfl, hy2, hc2.sm e, by omega, pb', bd.le hk, fun u1 K1 e1 hu1 => ?_⟩
    refine ⟨_, _, _, _, rfl, hy1.sm e1, hu1, by omega, by omega, fun u hu => (hdb u hu).le (by omega), fun u hu => (sb u hu).le (by omega), fun u2 K2 e2 hu2 => ?_⟩
    have m1 : min (trim (ppow p2 i)).length p2.length ≤ min (i * (p2.length - 1) + 1) p2.length := by omega
    have m2 := Nat.mul_le_mul_right (pbits k2 p2.length i + k2 + 1) m1
    have f2 := (e.trans e1).trans e2
    refine ⟨_, rfl, _, rfl, _, rfl, sz_of (by show 2 ≤ 100000; decide), fun t5 ht5 => ?_⟩
    have g5 := same_upd (o := .lst [y, z]) ht5
    refine ⟨t5, [y, z], [a, b], rfl, upd_same, .cons ((hy.sm f2).sm g5) (.cons ((hz.sm f2).sm g5) .nil), by show 2 ≤ 1000; decide, fun u4 K4 e4 hu4 => ?_⟩
    rw [hQ] at hu4
    have f4 := g5.trans e4
    refine ⟨_, _, _, p2, pbits k2 p2.length i, k2, rfl, hy2.sm ((e1.trans e2).trans f4), hu4, by omega, by omega, pbits_pos .., h2, pb, bq, by omega, fun u3 K3 e3 hu3 => ?_⟩
    rw [due_step hc1] at hu2
    rw [pow_step] at hu3
    refine ⟨by omega, (f2.trans f4).trans e3, u2, u3, some v, hu2.sm (f4.trans e3), hu3, fun u hu => ?_, rfl⟩
    rw [← due_step hc1] at hu
    rw [dbits]
    exact bd_padd hdb sb (dbits_pos ..) (by have := pbits_pos k2 p2.length i; omega) u hu
  rintro σ H6 ⟨_, e6, y1, y2, w, hy1, hy2, hdb, rfl⟩
  rw [hxl, List.take_length, ← elin] at hy1
  exact ⟨_, rfl, q _ _ (f5.trans e6) hy1⟩
theorem ok_poly_told (T : Txt K mg) : FnOk P w K mg base CX0 4 T.f_poly_told T.d_poly_told P_poly_told (spPolyTold K) := by
  refine T.F_poly_told.ok sc_poly_told (fun vs H Q E h => ?_) (fun cdv A outer s H vs Q E hr h => ?_)
  · obtain ⟨x, y, _, _, _, _, _, _, _, _, rfl, _⟩ := h; rfl
  obtain ⟨_, _, p, r0, r1, m, M, m0, M0, k, rfl, hp, hr', h1, h9, dp, d0, d1, mp, mp0, hmM, hsz, hb, hk, q⟩ := h
  obtain ⟨a, xs, rfl, ha, rs, hl⟩ := hp.len
  obtain ⟨c, u, v, rfl, hc, hu, hv⟩ := pl_two hr'
  refine ⟨_, (pss_cons (ps_set (i := 2) sc_poly_told.nd rfl (.inr rfl) (pe_call (ok_sum_of T) (hr.mono (by decide)) (by rfl) T.g_sum_of T.F_sum_of.kp (b_sum_of T) .nil pass0 (pa_cons (pe_tup (pa_cons (pe_glob (v := .ref T.a_ONE) (by rfl) T.g_ONE rfl) pa_nil)) (pa_cons (pe_callTy call_tuple_of (by rfl) T.n_tuple (by decide +kernel) (pa_cons (pe_lc (own := [("number", 4)]) (g := gName 4) (tt := tYes) rfl sc_poly_told.nd (pi_tup (pv 1)) (blkOk_by (own := [("number", 4)]) (N := N_poly_told) (sc := defScope s_poly_told) (by decide +kernel)) (fun _ _ _ _ _ => (pg_name (i := 4) sc_poly_told.nd rfl (Or.inl rfl))) (fun _ _ _ _ _ => pts_nil) (fun _ _ _ _ _ => (pe_call (ok_opposite T) (hr.mono (by decide)) (by rfl) T.g_opposite T.F_opposite.kp (b_opposite T) .nil pass0 (pa_cons (pv 4) pa_nil)))) pa_nil)) pa_nil))))
      (pss_cons (ps_setLc (i := 3) (own := [("number", 4)]) (g := gName 4) (tt := tYes) rfl sc_poly_told.nd rfl rfl (sw_true rfl rfl rfl (by decide +kernel)) (pi_tup (pv 0)) (blkOk_by (own := [("number", 4)]) (N := N_poly_told) (sc := defScope s_poly_told) (by decide +kernel)) (fun _ _ _ _ _ => (pg_name (i := 4) sc_poly_told.nd rfl (Or.inl rfl))) (fun _ _ _ _ _ => pts_nil) (fun _ _ _ _ _ => (pe_call (ok_trimmed T) (hr.mono (by decide)) (by rfl) T.g_trimmed T.F_trimmed.kp (b_trimmed T) .nil pass0 (pa_cons (pe_lst (pa_cons (pv 4) pa_nil)) pa_nil))))
      (pss_cons (ps_while PassesOwn.never (pt_cmpR op_gt (pe_callB call_len_seq (by rfl) T.n_len PySem.boot_len (pa_cons (pv 3) pa_nil)) pe_int (nomark _)) (pss_one (ps_setLc (i := 3) (own := [("one", 5), ("after", 6)]) (g := gTup K 2 (gCons (gName 5) (gCons (gName 6) gNil))) (tt := tYes) rfl sc_poly_told.nd rfl rfl (sw_true rfl rfl rfl (by decide +kernel)) (pi_zipA (by rfl) T.n_zip (pa_cons (pv 3) (pa_cons (pe_slice sl_list (pv 3) (po_some pe_int) po_none) pa_nil))) (blkOk_by (own := [("one", 5), ("after", 6)]) (N := N_poly_told) (sc := defScope s_poly_told) (by decide +kernel)) (fun _ _ _ _ _ => (pg_tup rfl (pgs_cons (pg_name (i := 5) sc_poly_told.nd rfl (Or.inl rfl)) (pgs_cons (pg_name (i := 6) sc_poly_told.nd rfl (Or.inl rfl)) pgs_nil)))) (fun _ _ _ _ _ => pts_nil) (fun _ _ _ _ _ => (pe_call (ok_sum_of T) (hr.mono (by decide)) (by rfl) T.g_sum_of T.F_sum_of.kp (b_sum_of T) .nil pass0 (pa_cons (pe_call (ok_product_of T) (hr.mono (by decide)) (by rfl) T.g_product_of T.F_product_of.kp (b_product_of T) .nil pass0 (pa_cons (pv 2) (pa_cons (pv 5) pa_nil))) (pa_cons (pe_call (ok_product_of T) (hr.mono (by decide)) (by rfl) T.g_product_of T.F_product_of.kp (b_product_of T) .nil pass0 (pa_cons (pv 1) (pa_cons (pv 6) pa_nil))) pa_nil)))))))
      (pss_one (ps_ret (pe_ix ix_list (pv 3) pe_int (fun _ _ => rfl))))))), ?_⟩
  have kBe : kB = 2250 := rfl
  -- falling
  refine ⟨sz_of (by show 1 ≤ 100000; decide), fun t1 ht1 => ?_⟩
  have g1 := same_upd (o := .tup [.ref T.a_ONE]) ht1
  have z1 : Pl K (upd H t1 (.tup [.ref T.a_ONE])) (.ref t1) [1] := ⟨t1, _, rfl, st_of upd_same, .cons (rt_one (T.k_ONE _)) .nil⟩
  generalize upd H t1 (.tup [.ref T.a_ONE]) = H1 at g1 z1
  have hc1 := kp_t (kp_same g1) hc
  refine ⟨_, rfl, c, rfl, ⟨_, hc1⟩, fun D hD => lc_tup (xs := [u, v]) (fun i H' => ∃ ws, Lc H1 D ws H' ∧ ws.length = i ∧ Rts K H' ws (([r0, r1].take i).map fun r => -r)) ⟨[], Lc.start hD, rfl, .nil⟩ (fun i H' _ ⟨ws, l, _⟩ => kp_t (kp_same l.2.1) hc1) ?_ ?_⟩
  · rintro i z H' hz ⟨ws, l, hwl, hw⟩
    obtain ⟨e, he1, he2⟩ := pr_get' (Paired.cons (hu.sm g1) (.cons (hv.sm g1) .nil) : Rts K H1 [u, v] [r0, r1]) hz
    have hi := (List.getElem?_eq_some_iff.mp hz).1
    have hi2 : i < 2 := hi
    refine ⟨rfl, ?_⟩
    refine ⟨_, rfl, z, e, rfl, he2.sm l.2.1, fun w H6 e6 hw6 => ?_⟩
    have h6 := e6 _ _ l.2.2
    refine ⟨ws, h6, sz_lt (by omega), ws ++ [w], l.next e6 rfl, by rw [List.length_append, hwl]; rfl, ?_⟩
    have et : [r0, r1].take (i + 1) = [r0, r1].take i ++ [e] := by rw [List.take_succ, he1]; rfl
    rw [et, List.map_append]
    exact pr_app (Rts.kp (Rts.sm hw e6) (ro_upd.kp h6)) (.cons (hw6.kp (ro_upd.kp h6)) .nil)
  rintro H2 ⟨ws, l, hwl, hw⟩
  refine ⟨D, ws, rfl, .inl ⟨sl_of l.2.2, fun t2 ht2 => ?_⟩⟩
  have g2 := same_upd (o := .tup ws) ht2
  have z2 : Pl K (upd H2 t2 (.tup ws)) (.ref t2) [-r0, -r1] := ⟨t2, ws, rfl, st_of upd_same, Rts.sm hw g2⟩
  have g3 := l.2.1.trans g2
  replace z1 := z1.sm g3
  replace g1 := g1.trans g3
  generalize upd H2 t2 (.tup ws) = H3 at z1 z2 g1
  clear l hw hwl g2 g3 hD ht2 ht1 hc1
  have m1 : m < 2 ^ k := by omega
  have M1 : M < 2 ^ k := by omega
  have br0 : Bd k r0 := d0.bd mp m1 M1
  have br1 : Bd k r1 := d1.bd mp m1 M1
  have nb : ∀ {x : Rat}, Bd k x → Bd k (-x) := fun {x} h => by
    unfold Bd at h ⊢
    rw [Rat.neg_num, Rat.neg_den, Int.natAbs_neg]; exact h
  have bB : ∀ {x : Rat}, Bd k x → Bd kB x := fun h => h.le (by omega)
  refine ⟨_, _, [1], [-r0, -r1], rfl, z1, z2, by show 1 ≤ 100; decide, by show 2 ≤ 100; decide, fun d hd => by rw [List.mem_singleton.mp hd]; exact Bd.one.le (by decide), fun d hd => ?_, fun fv H4 e4 hF => ?_⟩
  · rcases List.mem_cons.mp hd with h | h
    · rw [h]; exact bB (nb br0)
    · rw [List.mem_singleton.mp h]; exact bB (nb br1)
  have hend := ptl_end (p := p) (n := p.length - 1) (by omega) r0 r1
  have lF : (trim (padd [1] [-r0, -r1])).length ≤ 2 := by
    have h := trim_len (padd [1] [-r0, -r1])
    rw [padd_len] at h
    exact h
  have lR : [r0, r1].length ≤ 2 := Nat.le_refl _
  have z0 : Dn m 0 (0 : Rat) := Dn.zero _
  have dF : ∀ i, Dn m (m + M) (cf (trim (padd [1] [-r0, -r1])) i) := fun i => by
    rw [cf_trim, cf_padd]
    match i with
    | 0 =>
      have e := ((Dn.one.scale m).sub (show Dn (1 * m) M r0 by rw [Nat.one_mul]; exact d0))
      rw [Nat.one_mul] at e
      have e2 : cf [1] 0 + cf [-r0, -r1] 0 = 1 - r0 := by show (1 : Rat) + -r0 = _; grind
      rw [e2]; exact e
    | 1 =>
      have e := z0.sub d1
      have e2 : cf [1] 1 + cf [-r0, -r1] 1 = 0 - r1 := by show (0 : Rat) + -r1 = _; grind
      rw [e2]; exact e.le (by omega)
    | i + 2 =>
      have e2 : cf [1] (i + 2) + cf [-r0, -r1] (i + 2) = 0 := by show (0 : Rat) + 0 = _; grind
      rw [e2]; exact z0.le (Nat.zero_le _)
  have dR : ∀ i, Dn m (m + M) (cf [r0, r1] i) := fun i => by
    match i with
    | 0 => exact d0.le (by omega)
    | 1 => exact d1.le (by omega)
    | i + 2 => exact z0.le (Nat.zero_le _)
  generalize trim (padd [1] [-r0, -r1]) = F at hF hend lF dF
  have bF : ∀ d ∈ F, Bd k d := dn_list dF mp m1 hmM
  have bR : ∀ d ∈ [r0, r1], Bd k d := dn_list dR mp m1 hmM
  have bT : ∀ j i, j ≤ p.length → ∀ d ∈ ptl F [r0, r1] p j i, Bd k d := fun j i hj => dn_list (ptl_dn lF lR dF dR dp j i) (Nat.mul_pos (Nat.pow_pos mp) mp0) (hsz j hj).1 (hsz j hj).2
  have lT := ptl_len lF lR p
  have f4 := g1.trans e4
  replace ha := kp_t (kp_same f4) ha
  replace rs := Rts.sm rs f4
  have hR : Pl K H4 (.ref c) [r0, r1] := hr'.sm f4
  clear z1 z2 e4 g1 hc hu hv hr' hp
  -- the first step
  refine ⟨_, rfl, a, rfl, ⟨_, ha⟩, fun D hD => lc_tup (xs := xs) (fun i H' => ∃ ws, Lc H4 D ws H' ∧ ws.length = i ∧ ∀ j z, ws[j]? = some z → Pl K H' z (ptl F [r0, r1] p 0 j)) ⟨[], Lc.start hD, rfl, fun j z hz => nomatch hz⟩ (fun i H' _ ⟨ws, l, _⟩ => kp_t (kp_same l.2.1) ha) ?_ ?_⟩
  · rintro i z H' hz ⟨ws, l, hwl, hw⟩
    obtain ⟨e, he1, he2⟩ := pr_get' rs hz
    have hi := (List.getElem?_eq_some_iff.mp hz).1
    refine ⟨rfl, ?_⟩
    refine ⟨_, rfl, sz_of (by show 1 ≤ 100000; decide), fun t ht => ?_⟩
    have gt := same_upd (o := .lst [z]) ht
    refine ⟨t, [z], [e], rfl, upd_same, .cons ((he2.sm l.2.1).sm gt) .nil, by show 1 ≤ 1000; decide, fun w H6 e6 hw6 => ?_⟩
    have f6 := gt.trans e6
    have h6 := f6 _ _ l.2.2
    have ku : Kp H6 (upd H6 D (.lst (ws ++ [w]))) := (ro_upd (a := D)).kp h6
    refine ⟨ws, h6, sz_lt (by omega), ws ++ [w], l.next f6 rfl, by rw [List.length_append, hwl]; rfl, fun j y hy => ?_⟩
    rcases get_snoc hy with h | ⟨h, h'⟩
    · exact ((hw j y h).sm f6).kp ku
    · subst h'
      rw [h, hwl, ptl, cf_at he1]
      exact hw6.kp ku
  rintro H5 ⟨ws, l, hwl, hw⟩
  rw [hl] at hwl
  -- the other steps
  refine ⟨fun n σ H' => ∃ j ws D, n + j + 1 = p.length ∧ Same H4 H' ∧ H' D = some (.lst ws) ∧ ws.length = n + 1 ∧ (∀ i z, ws[i]? = some z → Pl K H' z (ptl F [r0, r1] p j i)) ∧ σ = [some (.ref a), some (.ref c), some fv, some (.ref D), none, none, none], ⟨p.length - 1, 0, ws, D, by omega, l.2.1, l.2.2, by omega, hw, rfl⟩, ?_⟩
  clear hw hwl l hD
  rintro n σ H' ⟨j, ws, D, hn, e, hD, hwl, hw, rfl⟩
  refine ⟨_, rfl, D, ws, rfl, .inl (sl_of hD), _, _, rfl, rfl, _, rfl, ite2 (fun tst => ?_) (fun tst => ?_)⟩
  · have c' : (ws.length : Int) > 1 := of_decide_eq_true tst
    obtain ⟨n', rfl⟩ : ∃ n', n = n' + 1 := ⟨n - 1, by omega⟩
    refine ⟨fun σ' H2 => ∃ j ws D, n' + j + 1 = p.length ∧ Same H4 H2 ∧ H2 D = some (.lst ws) ∧ ws.length = n' + 1 ∧ (∀ i z, ws[i]? = some z → Pl K H2 z (ptl F [r0, r1] p j i)) ∧ σ' = [some (.ref a), some (.ref c), some fv, some (.ref D), none, none, none], fun σ' H2 h2 => ⟨n', Nat.lt_succ_self _, h2⟩, ?_⟩
    refine ⟨_, rfl, _, rfl, 1, rfl, D, _, rfl, sl_of hD, fun c1 hc1 => ?_⟩
    rw [cut_from1]
    have g1 := same_upd (o := .lst (ws.drop 1)) hc1
    have hk2 : SqL K (upd H' c1 (.lst (ws.drop 1))) c1 (ws.drop 1) := sl_of upd_same
    have hk1 : SqL K (upd H' c1 (.lst (ws.drop 1))) D ws := g1.seq (sl_of hD)
    generalize upd H' c1 (.lst (ws.drop 1)) = H2 at hk1 hk2 g1
    refine ⟨D, c1, _, _, rfl, .inl ⟨hk1, hk2, fun D2 hD2 => ?_⟩⟩
    refine lc_it (walk_zipQ (n := n' + 1) (by rw [List.length_drop]; omega)) (fun i H3 => ∃ us, Lc H2 D2 us H3 ∧ us.length = i ∧ ∀ l z, us[l]? = some z → Pl K H3 z (ptl F [r0, r1] p (j + 1) l)) ⟨[], Lc.start hD2, rfl, fun j z hz => nomatch hz⟩ (fun i H3 _ ⟨us, l, _⟩ => ⟨l.2.1.seq hk1, l.2.1.seq hk2⟩) ?_ ?_
    · rintro i y H3 H5 hi ⟨us, l, hul, hus⟩ ⟨t3, x1, y1, rfl, ht3, rfl, h3, h4⟩
      have h3 : ws[i]? = some x1 := h3
      have h4 : (ws.drop 1)[i]? = some y1 := h4
      rw [List.getElem?_drop, Nat.add_comm] at h4
      refine ⟨t3, _, rfl, st_of upd_same, rfl, _, _, rfl, _, _, rfl, rfl, rfl, ?_⟩
      have f5 : Same H3 (upd H3 t3 (.tup [x1, y1])) := same_upd ht3
      have f0 := (g1.trans l.2.1).trans f5
      have hx := (hw i x1 h3).sm f0
      have hy := (hw (i + 1) y1 h4).sm f0
      have hF' := hF.sm (e.trans f0)
      have hR' := hR.sm (e.trans f0)
      have hj : j ≤ p.length := by omega
      have mn : ∀ {U V : List Rat}, U.length ≤ 2 → 1 + min U.length V.length * (k + k + 1) ≤ kB := fun {U V} hU => by
        have h := Nat.mul_le_mul_right (k + k + 1) (show min U.length V.length ≤ 2 by omega)
        omega
      refine ⟨_, rfl, _, rfl, fv, x1, F, _, k, k, rfl, hF', hx, by omega, by have := lT j i; omega, hk, hk, bF, bT j i hj, mn lF, fun w1 H6 e6 hw1 => ?_⟩
      refine ⟨_, rfl, _, rfl, _, y1, [r0, r1], _, k, k, rfl, hR'.sm e6, hy.sm e6, by show 2 ≤ 100; decide, by have := lT j (i + 1); omega, hk, hk, bR, bT j (i + 1) hj, mn lR, fun w2 H7 e7 hw2 => ?_⟩
      have l1 : (trim (pmul F (ptl F [r0, r1] p j i))).length ≤ 100 := by
        have h1 := trim_len (pmul F (ptl F [r0, r1] p j i))
        have h2 := pmul_len F (ptl F [r0, r1] p j i)
        have h3 := lT j i
        omega
      have l2 : (trim (pmul [r0, r1] (ptl F [r0, r1] p j (i + 1)))).length ≤ 100 := by
        have h1 := trim_len (pmul [r0, r1] (ptl F [r0, r1] p j (i + 1)))
        have h2 := pmul_len [r0, r1] (ptl F [r0, r1] p j (i + 1))
        have h3 := lT j (i + 1)
        omega
      refine ⟨w1, w2, _, _, rfl, hw1.sm e7, hw2, l1, l2, fun d hd => (bd_pmulT bF (bT j i hj) hk hk d hd).le (mn lF), fun d hd => (bd_pmulT bR (bT j (i + 1) hj) hk hk d hd).le (mn lR), fun w3 H8 e8 hw3 => ?_⟩
      have f8 := ((f5.trans e6).trans e7).trans e8
      have h8 := f8 _ _ l.2.2
      have ku : Kp H8 (upd H8 D2 (.lst (us ++ [w3]))) := (ro_upd (a := D2)).kp h8
      refine ⟨us, h8, sz_lt (by omega), us ++ [w3], l.next f8 rfl, by rw [List.length_append, hul]; rfl, fun m y hy => ?_⟩
      rcases get_snoc hy with h | ⟨h, h'⟩
      · exact ((hus m y h).sm f8).kp ku
      · subst h'
        rw [h, hul]
        exact hw3.kp ku
    rintro H3 ⟨us, l, hul, hus⟩
    exact ⟨j + 1, us, D2, by omega, (e.trans g1).trans l.2.1, l.2.2, hul, hus, rfl⟩
  · have c' : n = 0 := by
      have : ¬ (ws.length : Int) > 1 := fun z => tst (decide_eq_true z)
      omega
    subst c'
    have h0 : ws[0]? = some ws[0] := List.getElem?_eq_getElem (by omega)
    have hz := hw 0 _ h0
    rw [show j = p.length - 1 by omega, hend] at hz
    exact ⟨_, rfl, D, ws, 0, _, rfl, rfl, sl_of hD, atI_nat (j := 0) h0, q _ _ (f4.trans e) hz⟩
theorem okR__law_plus (T : Txt K mg) : FnOk P w K mg base CX0 2 T.f__law_plus T.d__law_plus P_law_plus (spPlusRaw K) := by
  refine T.F__law_plus.ok sc_law_plus (fun vs H Q E h => ?_) (fun cdv A outer s H vs Q E hr h => ?_)
  · obtain ⟨x, t, _, _, _, rfl, _⟩ := h; rfl
  obtain ⟨_, b, a, n, d, rfl, ⟨x, rfl, ha⟩, hb, ka, n0, n8, d0, d8, q⟩ := h
  refine ⟨_, (pss_one (ps_ret (pe_call (ok__law_made T) (hr.mono (by decide)) (by rfl) T.g__law_made T.F__law_made.kp (b__law_made T) .nil pass0 (pa_cons (pe_op op_add (pe_op op_mulW (pe_ix ix_tup (pv 0) pe_int (fun _ _ => rfl)) (pe_ix ix_tup (pv 1) pe_int (fun _ _ => rfl))) (pe_op op_mulW (pe_ix ix_tup (pv 1) pe_int (fun _ _ => rfl)) (pe_ix ix_tup (pv 0) pe_int (fun _ _ => rfl)))) (pa_cons (pe_op op_mulW (pe_ix ix_tup (pv 0) pe_int (fun _ _ => rfl)) (pe_ix ix_tup (pv 1) pe_int (fun _ _ => rfl))) pa_nil))))), ?_⟩
  have an : a.num.natAbs < 2 ^ 3 := ka.1
  have ad : (a.den : Int).natAbs < 2 ^ 3 := ka.2
  have nn : n.natAbs < 2 ^ 3 := by omega
  have dn : d.natAbs < 2 ^ 3 := by omega
  refine ⟨_, rfl, _, _, _, _, rfl, rfl, ha, rfl, _, rfl, _, _, _, _, rfl, rfl, hb, rfl, _, _, rfl, rfl, wide_mul an dn (by decide) (by decide) (by decide), ?_⟩
  refine ⟨_, rfl, _, _, _, _, rfl, rfl, hb, rfl, _, rfl, _, _, _, _, rfl, rfl, ha, rfl, _, _, rfl, rfl, wide_mul nn ad (by decide) (by decide) (by decide), _, _, rfl, rfl, ?_⟩
  refine ⟨_, rfl, _, _, _, _, rfl, rfl, ha, rfl, _, rfl, _, _, _, _, rfl, rfl, hb, rfl, _, _, rfl, rfl, wide_mul ad dn (by decide) (by decide) (by decide), ?_⟩
  have b1 := abs_mul_lt an dn
  have b2 := abs_mul_lt nn ad
  have b3 := abs_mul_lt ad dn
  refine ⟨_, _, rfl, Int.mul_ne_zero (den_ne a) (by omega), pow_mono (abs_add_lt b1 b2) (by decide), pow_mono b3 (by decide), ?_⟩
  rw [add_raw a (by omega)]
  exact q
theorem ok__law_interval (T : Txt K mg) : FnOk P w K mg base CX0 4 T.f__law_interval T.d__law_interval P_law_interval (spInterval K) := by
  refine T.F__law_interval.ok sc_law_interval (fun vs H Q E h => ?_) (fun cdv A outer s H vs Q E hr h => ?_)
  · obtain ⟨x, rfl, _⟩ := h; rfl
  obtain ⟨r, rfl, hR, q⟩ := h
  refine ⟨_, (pss_cons (ps_set (i := 1) sc_law_interval.nd rfl (.inl rfl) (pe_call (ok__law_draw T) (hr.mono (by decide)) (by rfl) T.g__law_draw T.F__law_draw.kp (b__law_draw T) .nil pass0 (pa_cons (pv 0) pa_nil)))
      (pss_one (ps_ret (pe_tup (pa_cons (pv 1) (pa_cons (pe_call (okR__law_plus T) (hr.mono (by decide)) (by rfl) T.g__law_plus T.F__law_plus.kp (b__law_plus T) .nil pass0 (pa_cons (pv 1) (pa_cons (pe_tup (pa_cons (pe_op op_add pe_int (pe_call (ok__law_taken T) (hr.mono (by decide)) (by rfl) T.g__law_taken T.F__law_taken.kp (b__law_taken T) .nil pass0 (pa_cons (pv 0) (pa_cons pe_int pa_nil)))) (pa_cons (pe_call (ok__law_pick T) (hr.mono (by decide)) (by rfl) T.g__law_pick T.F__law_pick.kp (b__law_pick T) .nil pass0 (pa_cons (pv 0) (pa_cons (pe_lst (pa_cons pe_int (pa_cons pe_int (pa_cons pe_int pa_nil)))) pa_nil))) pa_nil))) pa_nil))) pa_nil)))))), ?_⟩
  refine ⟨_, rfl, r, rfl, hR, fun v1 lo H1 hlo bl hR1 o1 => ?_⟩
  refine ⟨_, rfl, _, rfl, _, rfl, r, 6, rfl, hR1, by decide, by decide, fun kI H2 k0 k1 hR2 o2 => ⟨_, _, rfl, rfl, ?_⟩⟩
  refine ⟨_, rfl, sz_of (by show 3 ≤ 100000; decide), fun b hb => ?_⟩
  have e2 := same_upd (o := .lst [.int 1, .int 1, .int 5]) hb
  refine ⟨r, b, _, rfl, hR2.sm e2, upd_same, hR2.ne hb, (by decide : 0 < 3), (by decide : 3 ≤ 1000), fun v H3 hv hR3 o3 => ?_⟩
  obtain ⟨d, rfl, hd⟩ : ∃ d : Nat, v = .int (d : Int) ∧ (d = 1 ∨ d = 5) := by
    simp only [List.mem_cons, List.not_mem_nil, or_false] at hv
    rcases hv with h | h | h
    · exact ⟨1, h, .inl rfl⟩
    · exact ⟨1, h, .inl rfl⟩
    · exact ⟨5, h, .inr rfl⟩
  obtain ⟨k, rfl⟩ : ∃ k : Nat, kI = (k : Int) := ⟨kI.toNat, by omega⟩
  refine ⟨sz_of (by show 2 ≤ 100000; decide), fun t2 ht2 => ?_⟩
  have g2 := same_upd (o := .tup [.int (1 + (k : Int)), .int (d : Int)]) ht2
  have k3 : Kp H1 H3 := ((hR1.kp o2).trans (kp_same e2)).trans ((hR2.sm e2).kp o3)
  refine ⟨v1, t2, lo, 1 + (k : Int), (d : Int), rfl, (hlo.kp k3).sm g2, st_of upd_same, bl, by omega, by omega, by omega, by omega, fun v4 H4 e4 hv4 => ?_⟩
  refine ⟨sz_of (by show 2 ≤ 100000; decide), fun t3 ht3 => ?_⟩
  have g3 := same_upd (o := .tup [v1, v4]) ht3
  obtain ⟨w0, w1, w2, w3, w4⟩ := wide_ok k (by omega) d hd
  have f := (g2.trans e4).trans g3
  refine q (.ref t3) lo (lo + Rat.divInt (1 + (k : Int)) (d : Int)) _ ⟨t3, _, rfl, st_of upd_same, .cons ((hlo.kp k3).sm f) (.cons (hv4.sm g3) .nil)⟩ (okI_of bl w0 ⟨_, w1, by rw [Int.natAbs_natCast]; exact w2⟩ ⟨_, w3, by rw [Int.natAbs_natCast]; exact w4⟩) (hR3.sm f) (o1.trans (o2.trans ((ro_same e2).trans (o3.trans (ro_same f)))))
theorem ok_check_polynomial (T : Txt K mg) : FnOk P w K mg base CX0 5 T.f_check_polynomial T.d_check_polynomial P_check_polynomial (spCheckPoly K) := by
  refine T.F_check_polynomial.ok sc_check_polynomial (fun vs H Q E h => ?_) (fun cdv A outer s H vs Q E hr h => ?_)
  · obtain ⟨x, t, rfl, _⟩ := h; rfl
  obtain ⟨x, p, rfl, hp, hc, hz, q⟩ := h
  refine ⟨_, (pss_one (ps_if (pt_not (pt_val (pe_call (ok_is_polynomial T) (hr.mono (by decide)) (by rfl) T.g_is_polynomial T.F_is_polynomial.kp (b_is_polynomial T) .nil pass0 (pa_cons (pv 0) pa_nil)))) (pss_one ps_never) pss_nil)), ?_⟩
  exact ⟨_, rfl, x, p, rfl, hp, hc, hz, fun H1 e1 => ⟨true, rfl, iteF (q _ e1)⟩⟩
theorem ok_check_interval (T : Txt K mg) : FnOk P w K mg base CX0 5 T.f_check_interval T.d_check_interval P_check_interval (spCheckInterval K) := by
  refine T.F_check_interval.ok sc_check_interval (fun vs H Q E h => ?_) (fun cdv A outer s H vs Q E hr h => ?_)
  · obtain ⟨x, t, _, rfl, _⟩ := h; rfl
  obtain ⟨x, lo, hi, rfl, hp, hlt, b1, b2, q⟩ := h
  refine ⟨_, (pss_one (ps_if (pt_not (pt_val (pe_call (ok_is_interval T) (hr.mono (by decide)) (by rfl) T.g_is_interval T.F_is_interval.kp (b_is_interval T) .nil pass0 (pa_cons (pv 0) pa_nil)))) (pss_one ps_never) pss_nil)), ?_⟩
  exact ⟨_, rfl, x, lo, hi, rfl, hp, hlt, b1, b2, fun H1 e1 => ⟨true, rfl, iteF (q _ e1)⟩⟩
theorem ok_row_telling (T : Txt K mg) : FnOk P w K mg base CX0 5 T.f_row_telling T.d_row_telling P_row_telling (spRowTelling K) := by
  refine T.F_row_telling.ok sc_row_telling (fun vs H Q E h => ?_) (fun cdv A outer s H vs Q E hr h => ?_)
  · obtain ⟨x, y, _, _, _, _, _, _, rfl, _⟩ := h; rfl
  obtain ⟨x, _, p, n, lo, hi, k1, k, rfl, hp, hv, hl, hn, b1, bl, bh, bpe, s1, s2, s3, s4, q⟩ := h
  obtain ⟨c, u, v, rfl, hc, hu, hw⟩ := pl_two hv
  refine ⟨_, (pss_cons (ps_asg (pv 2) (pg_tup rfl (pgs_cons (pg_name (i := 3) sc_row_telling.nd rfl (.inr rfl)) (pgs_cons (pg_name (i := 4) sc_row_telling.nd rfl (.inr rfl)) pgs_nil))))
      (pss_one (ps_ret (pe_callTy call_tuple_of (by rfl) T.n_tuple (by decide +kernel) (pa_cons (pe_lc (own := [("at", 5)]) (g := gName 5) (tt := tYes) rfl sc_row_telling.nd (pi_range1 (by rfl) T.n_range (pa_cons (pe_op op_add (pv 1) pe_int) pa_nil)) (blkOk_by (own := [("at", 5)]) (N := N_row_telling) (sc := defScope s_row_telling) (by decide +kernel)) (fun _ _ _ _ _ => (pg_name (i := 5) sc_row_telling.nd rfl (Or.inl rfl))) (fun _ _ _ _ _ => pts_nil) (fun _ _ _ _ _ => (pe_call (ok_blossom_at T) (hr.mono (by decide)) (by rfl) T.g_blossom_at T.F_blossom_at.kp (b_blossom_at T) .nil pass0 (pa_cons (pv 0) (pa_cons (pe_op (show OpR _ _ (rCatA K) from op_catA) (pe_op (show OpR _ _ (rRepA K) from op_repA) (pe_tup (pa_cons (pv 3) pa_nil)) (pe_op op_sub (pv 1) (pv 5))) (pe_op (show OpR _ _ (rRepA K) from op_repA) (pe_tup (pa_cons (pv 4) pa_nil)) (pv 5))) pa_nil))))) pa_nil))))), ?_⟩
  refine ⟨_, rfl, c, _, rfl, hc, rfl, u, _, rfl, v, _, rfl, rfl, ?_⟩
  refine ⟨_, rfl, _, _, rfl, rfl, (n : Int) + 1, rfl, by omega, by omega, fun D hD => ?_⟩
  rw [show ((n : Int) + 1).toNat = n + 1 by omega]
  refine lc_range (lo := 0) (n := n + 1) (fun i H' => ∃ ws, Lc H D ws H' ∧ ws.length = i ∧ Rts K H' ws ((List.range i).map fun i => bls p (fun k => if k < n - i then lo else hi) n)) ⟨[], Lc.start hD, rfl, .nil⟩ ?_ ?_
  · rintro i H' hin ⟨ws, l, hwl, hw'⟩
    refine ⟨rfl, ?_⟩
    rw [show (0 : Int) + (i : Int) = (i : Int) by omega]
    refine ⟨_, rfl, _, rfl, sz_of (by show 1 ≤ 100000; decide), fun t1 ht1 => ?_⟩
    have g1 := same_upd (o := .tup [u]) ht1
    refine ⟨_, rfl, _, rfl, _, _, rfl, rfl, ?_⟩
    refine rep_p (c := lo) ⟨t1, _, rfl, st_of upd_same, .cons ((hu.sm l.2.1).sm g1) .nil⟩ (by omega) (by omega) fun v1 H1 f1 hv1 => ?_
    have g1' := g1.trans f1
    refine ⟨_, rfl, sz_of (by show 1 ≤ 100000; decide), fun t2 ht2 => ?_⟩
    have g2 := same_upd (o := .tup [v]) ht2
    refine ⟨_, rfl, ?_⟩
    refine rep_p (c := hi) ⟨t2, _, rfl, st_of upd_same, .cons (((hw.sm l.2.1).sm g1').sm g2) .nil⟩ (by omega) (by omega) fun v2 H2 f2 hv2 => ?_
    have g2' := g2.trans f2
    have e1 : ((n : Int) - (i : Int)).toNat = n - i := by omega
    rw [e1] at hv1
    rw [Int.toNat_natCast] at hv2
    refine cat_p (hv1.sm g2') hv2 (by rw [List.length_replicate, List.length_replicate]; omega) fun v3 H3 f3 hv3 => ?_
    have g3 := (g1'.trans g2').trans f3
    have el : (List.replicate (n - i) lo ++ List.replicate i hi).length = n := by rw [List.length_append, List.length_replicate, List.length_replicate]; omega
    have ec : ∀ k, k < n → cf (List.replicate (n - i) lo ++ List.replicate i hi) k = pk lo hi (n - i) k := fun k hk => cf_two (by omega)
    refine ⟨x, v3, p, _, k1, k, rfl, (hp.sm l.2.1).sm g3, hv3, by rw [el]; omega, by rw [el]; omega, b1, fun c hc => ?_, fun j i' hj => ?_, s1, s2, s3, s4, fun v4 H4 e4 hv4 => ?_⟩
    · rcases List.mem_append.mp hc with h | h
      · rw [List.eq_of_mem_replicate h]; exact bl
      · rw [List.eq_of_mem_replicate h]; exact bh
    · rw [el] at hj
      rw [pe_congr fun i hii => ec i (by omega)]
      exact bpe _ j i' hj
    have f4 := g3.trans e4
    have h6 := f4 _ _ l.2.2
    refine ⟨ws, h6, sz_lt (by omega), ws ++ [v4], l.next f4 rfl, by rw [List.length_append, hwl]; rfl, ?_⟩
    rw [List.range_succ, List.map_append, List.map_singleton]
    have eb : bls p (cf (List.replicate (n - i) lo ++ List.replicate i hi)) (List.replicate (n - i) lo ++ List.replicate i hi).length = bls p (fun k => if k < n - i then lo else hi) n := by
      rw [el]
      refine bls_congr fun z => prg_congr fun k hk => ?_
      rw [ec k hk]; rfl
    rw [eb] at hv4
    exact pr_app (Rts.kp (Rts.sm hw' f4) (ro_upd.kp h6)) (.cons (hv4.kp (ro_upd.kp h6)) .nil)
  · rintro H' ⟨ws, l, hwl, hw'⟩
    refine ⟨D, ws, rfl, .inl ⟨sl_of l.2.2, fun z hz => ?_⟩⟩
    have gz := same_upd (o := .tup ws) hz
    exact q _ _ (l.2.1.trans gz) ⟨z, ws, rfl, st_of upd_same, Rts.sm hw' gz⟩
theorem ok__law_row_poly (T : Txt K mg) : FnOk P w K mg base CX0 5 T.f__law_row_poly T.d__law_row_poly P_law_row_poly (spRowPoly K) := by
  refine T.F__law_row_poly.ok sc_law_row_poly (fun vs H Q E h => ?_) (fun cdv A outer s H vs Q E hr h => ?_)
  · obtain ⟨x, y, _, _, _, rfl, _⟩ := h; rfl
  obtain ⟨x, _, p, lo, hi, rfl, hp, hI, ok, h1, h6, dp, q⟩ := h
  obtain ⟨c, u, v, rfl, hc, hu, hv⟩ := pl_two hI
  refine ⟨_, (pss_cons (ps_set (i := 2) sc_law_row_poly.nd rfl (.inl rfl) (pe_call (ok__law_minus T) (hr.mono (by decide)) (by rfl) T.g__law_minus T.F__law_minus.kp (b__law_minus T) .nil pass0 (pa_cons (pe_ix ix_tup (pv 1) pe_int (fun _ _ => rfl)) (pa_cons (pe_ix ix_tup (pv 1) pe_int (fun _ _ => rfl)) pa_nil))))
      (pss_cons (ps_set (i := 3) sc_law_row_poly.nd rfl (.inl rfl) (pe_call (ok__law_over T) (hr.mono (by decide)) (by rfl) T.g__law_over T.F__law_over.kp (b__law_over T) .nil pass0 (pa_cons (pe_tup (pa_cons pe_int (pa_cons pe_int pa_nil))) (pa_cons (pv 2) pa_nil))))
      (pss_one (ps_ret (pe_call (ok__law_moved T) (hr.mono (by decide)) (by rfl) T.g__law_moved T.F__law_moved.kp (b__law_moved T) .nil pass0 (pa_cons (pe_call (ok__law_unit_poly T) (hr.mono (by decide)) (by rfl) T.g__law_unit_poly T.F__law_unit_poly.kp (b__law_unit_poly T) .nil pass0 (pa_cons (pv 0) pa_nil)) (pa_cons (pe_call (ok__law_times T) (hr.mono (by decide)) (by rfl) T.g__law_times T.F__law_times.kp (b__law_times T) .nil pass0 (pa_cons (pe_call (ok__law_times T) (hr.mono (by decide)) (by rfl) T.g__law_times T.F__law_times.kp (b__law_times T) .nil pass0 (pa_cons (pe_ix ix_tup (pv 1) pe_int (fun _ _ => rfl)) (pa_cons (pe_tup (pa_cons (pe_un un_neg pe_int) (pa_cons pe_int pa_nil))) pa_nil))) (pa_cons (pv 3) pa_nil))) (pa_cons (pv 3) pa_nil)))))))), ?_⟩
  have bw : Bd 41 (hi - lo) := ok.bh.sub ok.bl
  refine ⟨_, rfl, c, _, _, _, rfl, rfl, hc, rfl, _, rfl, c, _, _, _, rfl, rfl, hc, rfl, v, u, hi, lo, rfl, hv, hu, ok.bh.le (by decide), ok.bl.le (by decide), fun w H1 e1 hw => ?_⟩
  refine ⟨sz_of (by show 2 ≤ 100000; decide), fun t1 ht1 => ?_⟩
  have g1 := same_upd (o := .tup [.int 1, .int 1]) ht1
  refine ⟨_, rfl, .ref t1, w, 1, hi - lo, rfl, rt_one (st_of upd_same), hw.sm g1, Bd.one.le (by decide), bw.le (by decide), ok.ne, fun bk H2 e2 hbk => ?_⟩
  have f2 := (e1.trans g1).trans e2
  refine ⟨_, rfl, x, p, 840, 5880, 30, rfl, hp.sm f2, h1, by omega, dp, by decide, by decide, by decide, by decide, fun P H3 e3 hP => ?_⟩
  have f3 := f2.trans e3
  have hc3 := kp_t (kp_same f3) hc
  refine ⟨_, rfl, c, _, _, _, rfl, rfl, hc3, rfl, 1, rfl, sz_of (by show 2 ≤ 100000; decide), fun t2 ht2 => ?_⟩
  have g2 := same_upd (o := .tup [.int (-1), .int 1]) ht2
  refine ⟨u, .ref t2, lo, -1, rfl, (hu.sm f3).sm g2, ⟨t2, rfl, st_of upd_same⟩, ok.bl.le (by decide), Bd.m1.le (by decide), fun w2 H4 e4 hw2 => ?_⟩
  have bi : Bd 21 (1 / (hi - lo)) := ok.dw.bd (by decide) (by decide) (by decide)
  have br : Bd 21 (-lo / (hi - lo)) := ok.dr.bd (by decide) (by decide) (by decide)
  have f4 := g2.trans e4
  refine ⟨_, rfl, w2, bk, lo * -1, 1 / (hi - lo), rfl, hw2, (hbk.sm e3).sm f4, (ok.bl.mul Bd.m1).le (by decide), bi.le (by decide), fun w3 H5 e5 hw3 => ?_⟩
  have f5 := f4.trans e5
  have ea : lo * -1 * (1 / (hi - lo)) = -lo / (hi - lo) := by
    have := ok.ne
    grind
  have hw3 : Rt K H5 w3 (lo * -1 * (1 / (hi - lo))) := hw3
  rw [ea] at hw3
  have l1 := up_len_le p h1
  refine ⟨_, rfl, P, w3, bk, up p, -lo / (hi - lo), 1 / (hi - lo), 30, 21, rfl, hP.sm f5, hw3, (hbk.sm e3).sm f5, by omega, by decide, by decide, up_bd dp h1 (by omega) (by decide) (by decide) (by decide), br, bi, by decide, fun L hL i hi => szm21 L (by omega) i (by omega), fun v H6 e6 hv => q v H6 ((f3.trans f5).trans e6) hv⟩
theorem ok_blossom (T : Txt K mg) : FnOk P w K mg base CX0 6 T.f_blossom T.d_blossom P_blossom (spBlossom K) := by
  refine T.F_blossom.ok sc_blossom (fun vs H Q E h => ?_) (fun cdv A outer s H vs Q E hr h => ?_)
  · obtain ⟨x, y, _, _, _, _, _, rfl, _⟩ := h; rfl
  obtain ⟨x, y, p, q0, d, k1, k, rfl, hp, hq, hd, hc, hpq, hz, hb1, hb2, hpe, hk, hsz, hk1, hk2, q⟩ := h
  refine ⟨_, (pss_cons (ps_expr (pe_call (ok_check_polynomial T) (hr.mono (by decide)) (by rfl) T.g_check_polynomial T.F_check_polynomial.kp (b_check_polynomial T) .nil pass0 (pa_cons (pv 0) pa_nil)))
      (pss_cons (ps_expr (pe_call (ok_check_degree_of T) (hr.mono (by decide)) (by rfl) T.g_check_degree_of T.F_check_degree_of.kp (b_check_degree_of T) .nil pass0 (pa_cons (pv 0) (pa_cons (pv 1) (pa_cons (pe_glob (v := .int 8) (by rfl) T.g_ROW_DEGREE ⟨T.t_ROW_DEGREE, rfl⟩) pa_nil)))))
      (pss_cons (ps_expr (pe_call (ok_check_places T) (hr.mono (by decide)) (by rfl) T.g_check_places T.F_check_places.kp (b_check_places T) .nil pass0 (pa_cons (pv 2) (pa_cons (pv 1) pa_nil))))
      (pss_one (ps_ret (pe_call (ok_blossom_at T) (hr.mono (by decide)) (by rfl) T.g_blossom_at T.F_blossom_at.kp (b_blossom_at T) .nil pass0 (pa_cons (pv 0) (pa_cons (pv 2) pa_nil)))))))), ?_⟩
  refine ⟨_, rfl, x, p, rfl, hp, hc, by omega, fun H1 e1 => ?_⟩
  refine ⟨_, rfl, _, rfl, x, p, d, 8, rfl, hp.sm e1, by omega, by omega, by omega, ?_⟩
  refine ⟨_, rfl, _, rfl, y, q0, d, rfl, hq.sm e1, by omega, hd, fun H2 e2 => ?_⟩
  exact ⟨_, rfl, _, rfl, x, y, p, q0, k1, k, rfl, hp.sm (e1.trans e2), hq.sm (e1.trans e2), hpq, by omega, hb1, hb2, hpe, hk, hsz, hk1, hk2, fun v H3 e3 hv => q v H3 ((e1.trans e2).trans e3) hv⟩
theorem ok_row_of (T : Txt K mg) : FnOk P w K mg base CX0 6 T.f_row_of T.d_row_of P_row_of (spRowOf K) := by
  refine T.F_row_of.ok sc_row_of (fun vs H Q E h => ?_) (fun cdv A outer s H vs Q E hr h => ?_)
  · obtain ⟨x, y, _, _, _, _, _, _, rfl, _⟩ := h; rfl
  obtain ⟨x, y, p, n, lo, hi, k1, k, rfl, hp, hv, cp, hlt, hl, hn, b1, bl, bh, bpe, s1, s2, s3, s4, q⟩ := h
  refine ⟨_, (pss_cons (ps_expr (pe_call (ok_check_polynomial T) (hr.mono (by decide)) (by rfl) T.g_check_polynomial T.F_check_polynomial.kp (b_check_polynomial T) .nil pass0 (pa_cons (pv 0) pa_nil)))
      (pss_cons (ps_expr (pe_call (ok_check_degree_of T) (hr.mono (by decide)) (by rfl) T.g_check_degree_of T.F_check_degree_of.kp (b_check_degree_of T) .nil pass0 (pa_cons (pv 0) (pa_cons (pv 1) (pa_cons (pe_glob (v := .int 8) (by rfl) T.g_ROW_DEGREE ⟨T.t_ROW_DEGREE, rfl⟩) pa_nil)))))
      (pss_cons (ps_expr (pe_call (ok_check_interval T) (hr.mono (by decide)) (by rfl) T.g_check_interval T.F_check_interval.kp (b_check_interval T) .nil pass0 (pa_cons (pv 2) pa_nil)))
      (pss_one (ps_ret (pe_call (ok_row_telling T) (hr.mono (by decide)) (by rfl) T.g_row_telling T.F_row_telling.kp (b_row_telling T) .nil pass0 (pa_cons (pv 0) (pa_cons (pv 1) (pa_cons (pv 2) pa_nil))))))))), ?_⟩
  refine ⟨_, rfl, x, p, rfl, hp, cp, by omega, fun H1 e1 => ?_⟩
  refine ⟨_, rfl, _, rfl, x, p, n, 8, rfl, hp.sm e1, by omega, by omega, by omega, ?_⟩
  refine ⟨_, rfl, y, lo, hi, rfl, hv.sm e1, hlt, bl.le (by omega), bh.le (by omega), fun H2 e2 => ?_⟩
  exact ⟨_, rfl, _, rfl, _, rfl, x, y, p, n, lo, hi, k1, k, rfl, hp.sm (e1.trans e2), hv.sm (e1.trans e2), hl, by omega, b1, bl, bh, bpe, s1, s2, s3, s4, fun v H3 e3 hv => q v H3 ((e1.trans e2).trans e3) hv⟩
theorem ok_poly_of (T : Txt K mg) : FnOk P w K mg base CX0 6 T.f_poly_of T.d_poly_of P_poly_of (spPolyOf K) := by
  refine T.F_poly_of.ok sc_poly_of (fun vs H Q E h => ?_) (fun cdv A outer s H vs Q E hr h => ?_)
  · obtain ⟨x, y, _, _, _, _, _, _, rfl, _⟩ := h; rfl
  obtain ⟨x, _, p, lo, hi, m0, M0, k, rfl, hp, hI, ok, h1, h9, dp, mp0, hmM, hsz, hb, hk, q⟩ := h
  refine ⟨_, (pss_cons (ps_expr (pe_call (ok_check_row T) (hr.mono (by decide)) (by rfl) T.g_check_row T.F_check_row.kp (b_check_row_1 T).choose_spec.2 (b_check_row_1 T).choose_spec.1 pass0 (pa_cons (pv 0) pa_nil)))
      (pss_cons (ps_expr (pe_call (ok_check_interval T) (hr.mono (by decide)) (by rfl) T.g_check_interval T.F_check_interval.kp (b_check_interval T) .nil pass0 (pa_cons (pv 1) pa_nil)))
      (pss_cons (ps_asg (pv 1) (pg_tup rfl (pgs_cons (pg_name (i := 2) sc_poly_of.nd rfl (.inl rfl)) (pgs_cons (pg_name (i := 3) sc_poly_of.nd rfl (.inl rfl)) pgs_nil))))
      (pss_cons (ps_set (i := 4) sc_poly_of.nd rfl (.inl rfl) (pe_call (ok_minus T) (hr.mono (by decide)) (by rfl) T.g_minus T.F_minus.kp (b_minus T) .nil pass0 (pa_cons (pv 3) (pa_cons (pv 2) pa_nil))))
      (pss_cons (ps_set (i := 5) sc_poly_of.nd rfl (.inl rfl) (pe_tup (pa_cons (pe_call (ok_over T) (hr.mono (by decide)) (by rfl) T.g_over T.F_over.kp (b_over T) .nil pass0 (pa_cons (pe_call (ok_opposite T) (hr.mono (by decide)) (by rfl) T.g_opposite T.F_opposite.kp (b_opposite T) .nil pass0 (pa_cons (pv 2) pa_nil)) (pa_cons (pv 4) pa_nil))) (pa_cons (pe_call (ok_over T) (hr.mono (by decide)) (by rfl) T.g_over T.F_over.kp (b_over T) .nil pass0 (pa_cons (pe_glob (v := .ref T.a_ONE) (by rfl) T.g_ONE rfl) (pa_cons (pv 4) pa_nil))) pa_nil))))
      (pss_one (ps_ret (pe_call (ok_poly_told T) (hr.mono (by decide)) (by rfl) T.g_poly_told T.F_poly_told.kp (b_poly_told T) .nil pass0 (pa_cons (pv 0) (pa_cons (pv 5) pa_nil)))))))))), ?_⟩
  refine ⟨_, rfl, x, p, rfl, hp, h1, h9, fun H1 e1 => ?_⟩
  refine ⟨_, rfl, _, lo, hi, rfl, hI.sm e1, ok.lt, ok.bl.le (by decide), ok.bh.le (by decide), fun H2 e2 => ?_⟩
  obtain ⟨c, u, v, rfl, hc, hu, hv⟩ := pl_two (hI.sm (e1.trans e2))
  refine ⟨_, rfl, c, _, rfl, hc, rfl, u, _, rfl, v, _, rfl, rfl, ?_⟩
  refine ⟨_, rfl, _, rfl, v, u, hi, lo, rfl, hv, hu, ok.bh.le (by decide), ok.bl.le (by decide), fun w H3 e3 hw => ?_⟩
  have bw : Bd 41 (hi - lo) := ok.bh.sub ok.bl
  refine ⟨_, rfl, u, lo, rfl, hu.sm e3, fun o H4 e4 ho => ?_⟩
  refine ⟨_, rfl, o, w, -lo, hi - lo, rfl, ho, hw.sm e4, ?_, bw.le (by decide), ok.ne, fun s1 H5 e5 hs1 => ?_⟩
  · have := ok.bl.le (show 20 ≤ kB by decide)
    unfold Bd at this ⊢
    rw [Rat.neg_num, Rat.neg_den, Int.natAbs_neg]; exact this
  refine ⟨_, rfl, _, w, 1, hi - lo, rfl, rt_one (T.k_ONE _), (hw.sm e4).sm e5, Bd.one.le (by decide), bw.le (by decide), ok.ne, fun s2 H6 e6 hs2 => ?_⟩
  refine ⟨sz_of (by show 2 ≤ 100000; decide), fun t ht => ?_⟩
  have gt := same_upd (o := .tup [s1, s2]) ht
  have f := ((((e1.trans e2).trans e3).trans e4).trans e5).trans (e6.trans gt)
  refine ⟨_, rfl, _, rfl, x, .ref t, p, -lo / (hi - lo), 1 / (hi - lo), 50400, 1764000, m0, M0, k, rfl, hp.sm f, ⟨t, _, rfl, st_of upd_same, .cons (hs1.sm (e6.trans gt)) (.cons (hs2.sm gt) .nil)⟩, h1, h9, dp, ok.dr, ok.dw, by decide, mp0, hmM, hsz, hb, hk, fun v H7 e7 hv => q v H7 (f.trans e7) hv⟩
end
end Bc
namespace Bc
open PySem PySem.Spec PyProof.Rows L2 RZ RT
def spLaw (K : PySem.W.Frag) : Sp := fun vs H Q _ => ∃ (a : Addr) (ns : List Int), vs = [.ref a] ∧ Sc K H a (ns.map V.int) ∧ ∀ H', Q (.bl true) H'
section
variable {P : Program} {w : World} {K : PySem.W.Frag} {mg : Str → Option Value} {base : Heap}
theorem ok_law (T : Txt K mg) : FnOk P w K mg base CX0 7 T.f_law T.d_law P_law (spLaw K) := by
  refine T.F_law.ok sc_law (fun vs H Q E h => ?_) (fun cdv A outer s H vs Q E hr h => ?_)
  · obtain ⟨x, t, rfl, _⟩ := h; rfl
  obtain ⟨a, ns, rfl, hS, q⟩ := h
  refine ⟨_, (pss_cons (ps_set (i := 1) sc_law.nd rfl (.inl rfl) (pe_lst (pa_cons (pv 0) (pa_cons pe_int (pa_cons pe_int (pa_cons pe_int pa_nil))))))
      (pss_cons (ps_par (i := 2) (j := 3) rfl sc_law.nd rfl rfl (by decide) rfl rfl (pa_cons (pe_call (ok__law_row T) (hr.mono (by decide)) (by rfl) T.g__law_row T.F__law_row.kp (b__law_row T) .nil pass0 (pa_cons (pv 1) (pa_cons pe_int pa_nil))) (pa_cons (pe_call (ok__law_interval T) (hr.mono (by decide)) (by rfl) T.g__law_interval T.F__law_interval.kp (b__law_interval T) .nil pass0 (pa_cons (pv 1) pa_nil)) pa_nil)) (by rfl))
      (pss_cons (ps_set (i := 4) sc_law.nd rfl (.inl rfl) (pe_call (ok_poly_of T) (hr.mono (by decide)) (by rfl) T.g_poly_of T.F_poly_of.kp (b_poly_of T) .nil pass0 (pa_cons (pv 2) (pa_cons (pv 3) pa_nil))))
      (pss_cons (ps_if (pt_not (pt_val (pe_call (ok__law_alike T) (hr.mono (by decide)) (by rfl) T.g__law_alike T.F__law_alike.kp (b__law_alike T) .nil pass0 (pa_cons (pv 4) (pa_cons (pe_call (ok__law_row_poly T) (hr.mono (by decide)) (by rfl) T.g__law_row_poly T.F__law_row_poly.kp (b__law_row_poly T) .nil pass0 (pa_cons (pv 2) (pa_cons (pv 3) pa_nil))) pa_nil))))) (pss_one (ps_ret pe_bl)) pss_nil)
      (pss_cons (ps_set (i := 5) sc_law.nd rfl (.inl rfl) (pe_op op_sub (pe_callB call_len_seq (by rfl) T.n_len PySem.boot_len (pa_cons (pv 2) pa_nil)) pe_int))
      (pss_cons (ps_if (pt_not (pt_val (pe_call (ok__law_alike T) (hr.mono (by decide)) (by rfl) T.g__law_alike T.F__law_alike.kp (b__law_alike T) .nil pass0 (pa_cons (pe_call (ok_row_of T) (hr.mono (by decide)) (by rfl) T.g_row_of T.F_row_of.kp (b_row_of T) .nil pass0 (pa_cons (pv 4) (pa_cons (pv 5) (pa_cons (pv 3) pa_nil)))) (pa_cons (pv 2) pa_nil))))) (pss_one (ps_ret pe_bl)) pss_nil)
      (pss_cons (ps_for PassesOwn.never rfl (pi_range1 (by rfl) T.n_range (pa_cons (pe_op op_add (pv 5) pe_int) pa_nil)) (pg_name (i := 6) sc_law.nd rfl (.inl rfl)) (pss_cons (ps_set (i := 7) sc_law.nd rfl (.inl rfl) (pe_op op_catA (pe_op op_repA (pe_tup (pa_cons (pe_ix ix_tup (pv 3) pe_int (fun _ _ => rfl)) pa_nil)) (pe_op op_sub (pv 5) (pv 6))) (pe_op op_repA (pe_tup (pa_cons (pe_ix ix_tup (pv 3) pe_int (fun _ _ => rfl)) pa_nil)) (pv 6))))
      (pss_one (ps_if (pt_cmpR (op_neD hr.units) (pe_call (ok_blossom T) (hr.mono (by decide)) (by rfl) T.g_blossom T.F_blossom.kp (b_blossom T) .nil pass0 (pa_cons (pv 4) (pa_cons (pv 5) (pa_cons (pv 7) pa_nil)))) (pe_ix ix_tup (pv 2) (pv 6) (fun _ _ => rfl)) (nomark _)) (pss_one (ps_ret pe_bl)) pss_nil))))
      (pss_cons (ps_set (i := 8) sc_law.nd rfl (.inl rfl) (pe_call (ok__law_poly T) (hr.mono (by decide)) (by rfl) T.g__law_poly T.F__law_poly.kp (b__law_poly T) .nil pass0 (pa_cons (pv 1) (pa_cons pe_int pa_nil))))
      (pss_cons (ps_set (i := 5) sc_law.nd rfl (.inl rfl) (pe_op op_add (pe_callB (call_max2 rfl) (by rfl) T.n_max (by decide +kernel) (pa_cons pe_int (pa_cons (pe_op op_sub (pe_callB call_len_seq (by rfl) T.n_len PySem.boot_len (pa_cons (pv 8) pa_nil)) pe_int) pa_nil))) (pe_call (ok__law_taken T) (hr.mono (by decide)) (by rfl) T.g__law_taken T.F__law_taken.kp (b__law_taken T) .nil pass0 (pa_cons (pv 1) (pa_cons pe_int pa_nil)))))
      (pss_cons (ps_set (i := 9) sc_law.nd rfl (.inl rfl) (pe_call (ok_row_of T) (hr.mono (by decide)) (by rfl) T.g_row_of T.F_row_of.kp (b_row_of T) .nil pass0 (pa_cons (pv 8) (pa_cons (pv 5) (pa_cons (pv 3) pa_nil)))))
      (pss_cons (ps_if (PW.pt (pw_or (pt_not (pt_val (pe_callB call_isi (by rfl) T.n_isinstance (by decide +kernel) (pa_cons (pv 9) (pa_cons (pe_bltn (v := .ty "tuple") (by rfl) T.n_tuple (by decide +kernel) rfl) pa_nil))))) (pw_or (pt_cmpR op_ne (pe_callB call_len_seq (by rfl) T.n_len PySem.boot_len (pa_cons (pv 9) pa_nil)) (pe_op op_add (pv 5) pe_int) (nomark _)) (pw_or1 (pt_cmpR (op_neD hr.units) (pe_call (ok_poly_of T) (hr.mono (by decide)) (by rfl) T.g_poly_of T.F_poly_of.kp (b_poly_of T) .nil pass0 (pa_cons (pv 9) (pa_cons (pv 3) pa_nil))) (pv 8) (nomark _)))))) (pss_one (ps_ret pe_bl)) pss_nil)
      (pss_one (ps_ret (pe_and (pe_cmpR (op_eqD hr.units) (pe_ix ix_tup (pv 9) pe_int (fun _ _ => rfl)) (pe_call (ok__law_at T) (hr.mono (by decide)) (by rfl) T.g__law_at T.F__law_at.kp (b__law_at T) .nil pass0 (pa_cons (pv 8) (pa_cons (pe_ix ix_tup (pv 3) pe_int (fun _ _ => rfl)) pa_nil))) (nomark _)) (pe_one (pe_cmpR (op_eqD hr.units) (pe_ix ix_tup (pv 9) (pe_un un_neg pe_int) (fun _ _ => rfl)) (pe_call (ok__law_at T) (hr.mono (by decide)) (by rfl) T.g__law_at T.F__law_at.kp (b__law_at T) .nil pass0 (pa_cons (pv 8) (pa_cons (pe_ix ix_tup (pv 3) pe_int (fun _ _ => rfl)) pa_nil))) (nomark _))))))))))))))))), ?_⟩
  refine ⟨_, rfl, sz_of (by show 4 ≤ 100000; decide), fun r hr0 => ?_⟩
  have hR : Row K (upd H r (.lst [.ref a, .int 0, .int 4111, .int 0])) r := ⟨a, ns, 0, 4111, 0, upd_same, hS.kp (kp_same (same_upd hr0)), by decide, by decide, by decide⟩
  refine ⟨_, rfl, r, 5, rfl, hR, by decide, by decide, fun v1 p H1 hp h1 lp bp hR1 o1 => ?_⟩
  refine ⟨_, rfl, r, rfl, hR1, fun v2 lo hi H2 hI ok hR2 o2 => ⟨v1, v2, rfl, ?_⟩⟩
  replace hp := hp.kp (hR1.kp o2)
  clear hR o1 hR1 o2 hS hr0 H1
  have lp6 : p.length ≤ 6 := by omega
  obtain ⟨n, hn⟩ : ∃ n, p.length = n + 1 := ⟨p.length - 1, by omega⟩
  have dp : ∀ i, Dn 840 5880 (cf p i) := fun i => Dn.of_bd (bd_cf bp (by decide) i)
  -- found
  refine ⟨_, rfl, _, rfl, v1, v2, p, lo, hi, 840, 5880, 160, rfl, hp, hI, ok, h1, by omega, dp, by decide, by decide, fun j hj => sz160 j (by omega), by decide, by decide, fun v3 H3 e3 hv3 => ?_⟩
  refine ⟨_, rfl, _, rfl, _, rfl, v1, v2, p, lo, hi, rfl, hp.sm e3, hI.sm e3, ok, h1, lp6, dp, fun v4 H4 e4 hv4 => ?_⟩
  have hPl : (lin (up p) (-lo / (hi - lo)) (1 / (hi - lo))).length ≤ n + 1 := by
    have l1 := up_len_le p h1
    have l2 := lin_len (up p) (-lo / (hi - lo)) (1 / (hi - lo))
    omega
  have hPb := found_bd ok dp h1 lp6
  have hPt := tel_of_row hn ok
  have hPc : Can (lin (up p) (-lo / (hi - lo)) (1 / (hi - lo))) := can_trim _
  generalize lin (up p) (-lo / (hi - lo)) (1 / (hi - lo)) = F at hv3 hv4 hPl hPb hPt hPc
  refine ⟨_, _, 2, rfl, by decide, Al.pl (hv3.sm e4) hv4 (by omega), fun H5 e5 => ⟨true, rfl, iteF ?_⟩⟩
  dsimp only [tNext]
  have f5 := (e3.trans e4).trans e5
  replace hp := hp.sm f5
  replace hI := hI.sm f5
  replace hR2 := hR2.sm f5
  replace hv3 := (hv3.sm e4).sm e5
  clear hv4 e3 e4 e5 f5
  obtain ⟨b1, xs1, rfl, hb1, rs1, hl1⟩ := hp.len
  refine ⟨_, rfl, b1, xs1, rfl, .inr hb1, _, _, rfl, rfl, ?_⟩
  have ed : (fun i j : Int => V.int (i - j)) (xs1.length : Int) 1 = V.int (n : Int) := by
    show V.int ((xs1.length : Int) - 1) = V.int (n : Int)
    rw [show ((xs1.length : Int) - 1) = (n : Int) by omega]
  rw [ed]
  have szF : 1 + F.length * (130 + (96 + 17) + 1) ≤ kB := by
    have := Nat.mul_le_mul_right (130 + (96 + 17) + 1) (show F.length ≤ 6 by omega)
    show _ ≤ 2250
    omega
  have pb : ∀ e j i, j ≤ n → Bd 96 (cf (pe (pk lo hi e) j) i) := fun e j i hj => pk_bd6 ok e j i (by omega)
  refine ⟨_, rfl, _, rfl, _, rfl, v3, v2, F, n, lo, hi, 130, 96, rfl, hv3, hI, hPc, ok.lt, hPl, by omega, hPb, ok.bl.le (by decide), ok.bh.le (by decide), pb, by decide, szF, by decide, by decide, fun v5 H6 e6 hv5 => ?_⟩
  rw [hPt] at hv5
  refine ⟨_, rfl, _, _, 2, rfl, by decide, Al.pl hv5 (hp.sm e6) (by omega), fun H7 e7 => ⟨true, rfl, iteF ?_⟩⟩
  dsimp only [tNext]
  have f7 := e6.trans e7
  replace hp := hp.sm f7
  replace hI := hI.sm f7
  replace hR2 := hR2.sm f7
  replace hv3 := hv3.sm f7
  clear hv5 e6 e7 f7 hb1 rs1 hl1 ed xs1
  obtain ⟨c, u, v, rfl, hc, hu, hv⟩ := pl_two hI
  clear hc hu hv
  refine ⟨_, rfl, _, _, rfl, rfl, (n : Int) + 1, rfl, by omega, by omega, ?_⟩
  rw [show ((n : Int) + 1).toNat = n + 1 by omega]
  refine for_range (lo := 0) (n := n + 1) (fun i σ H' => ∃ z6 z7, Pl K H' (.ref b1) p ∧ Pl K H' (.ref c) [lo, hi] ∧ Row K H' r ∧ Pl K H' v3 F ∧ σ = [some (.ref a), some (.ref r), some (.ref b1), some (.ref c), some v3, some (.int (n : Int)), z6, z7, none, none]) ⟨none, none, hp, hI, hR2, hv3, rfl⟩ ?_ ?_
  · rintro i σ H1 hin ⟨z6, z7, hp, hI, hR2, hv3, rfl⟩
    rw [Int.zero_add]
    obtain ⟨c', u, v, hq, hc, hu, hv⟩ := pl_two hI
    cases hq
    refine ⟨_, rfl, c, _, _, _, rfl, rfl, hc, rfl, sz_of (by show 1 ≤ 100000; decide), fun t1 ht1 => ?_⟩
    have g1 := same_upd (o := .tup [u]) ht1
    refine ⟨_, rfl, _, rfl, _, _, rfl, rfl, ?_⟩
    refine rep_p (c := lo) ⟨t1, _, rfl, st_of upd_same, .cons (hu.sm g1) .nil⟩ (by omega) (by omega) fun w1 H2 f1 hw1 => ?_
    have g1' := g1.trans f1
    refine ⟨_, rfl, c, _, _, _, rfl, rfl, kp_t (kp_same g1') hc, rfl, sz_of (by show 1 ≤ 100000; decide), fun t2 ht2 => ?_⟩
    have g2 := same_upd (o := .tup [v]) ht2
    refine ⟨_, rfl, ?_⟩
    refine rep_p (c := hi) ⟨t2, _, rfl, st_of upd_same, .cons ((hv.sm g1').sm g2) .nil⟩ (by omega) (by omega) fun w2 H3 f2 hw2 => ?_
    have g2' := g2.trans f2
    rw [show ((n : Int) - (i : Int)).toNat = n - i by omega] at hw1
    rw [Int.toNat_natCast] at hw2
    refine cat_p (hw1.sm g2') hw2 (by rw [List.length_replicate, List.length_replicate]; omega) fun w3 H4 f3 hw3 => ?_
    have g3 := (g1'.trans g2').trans f3
    have el : (List.replicate (n - i) lo ++ List.replicate i hi).length = n := by rw [List.length_append, List.length_replicate, List.length_replicate]; omega
    have ec : ∀ k, k < n → cf (List.replicate (n - i) lo ++ List.replicate i hi) k = pk lo hi (n - i) k := fun k hk => cf_two (by omega)
    refine ⟨_, rfl, _, rfl, _, rfl, v3, w3, F, _, (n : Int), 130, 96, rfl, hv3.sm g3, hw3, by rw [el], hPc, by rw [el]; exact hPl, by rw [el]; omega, hPb, fun d hd => ?_, fun j i' hj => ?_, by decide, szF, by decide, by decide, fun w4 H5 e5 hw4 => ?_⟩
    · rcases List.mem_append.mp hd with h | h
      · rw [List.eq_of_mem_replicate h]; exact ok.bl.le (by decide)
      · rw [List.eq_of_mem_replicate h]; exact ok.bh.le (by decide)
    · rw [el] at hj
      rw [pe_congr fun i hii => ec i (by omega)]
      exact pb _ j i' hj
    have eb : bls F (cf (List.replicate (n - i) lo ++ List.replicate i hi)) (List.replicate (n - i) lo ++ List.replicate i hi).length = cf p i := by
      rw [el, ← hPt, cf_tel (by omega)]
      refine bls_congr fun z => prg_congr fun k hk => ?_
      rw [ec k hk]; rfl
    rw [eb] at hw4
    have f5 := g3.trans e5
    replace hp := hp.sm f5
    obtain ⟨b', xs1, hq, hb1, rs1, hl1⟩ := hp.len
    cases hq
    obtain ⟨y, hy1, hy2⟩ := pr_get rs1 (show p[i]? = some (cf p i) by
      have h : i < p.length := by omega
      rw [List.getElem?_eq_getElem h, cf_lt h])
    refine ⟨_, rfl, _, rfl, b1, xs1, _, y, rfl, rfl, hb1, atI_nat hy1, ne_rr hw4 hy2 ⟨false, by rw [decide_eq_true rfl]; rfl, iteF ?_⟩⟩
    exact ⟨_, _, hp, hI.sm f5, hR2.sm f5, hv3.sm f5, rfl⟩
  rintro σ H1 ⟨z6, z7, hp, hI, hR2, hv3, rfl⟩
  clear hp hv3 hPb hPt hPc hPl szF pb
  -- a polynomial
  refine ⟨_, rfl, r, 4, rfl, hR2, by decide, by decide, fun v8 g H2 hg cg lg bg hR3 o3 => ?_⟩
  replace hI := hI.kp (hR2.kp o3)
  have lg5 : g.length ≤ 5 := by omega
  have dg : ∀ i, Dn 840 5880 (cf g i) := fun i => Dn.of_bd (bd_cf bg (by decide) i)
  obtain ⟨b8, xs8, rfl, hb8, rs8, hl8⟩ := hg.len
  refine ⟨_, rfl, b8, xs8, rfl, .inr hb8, _, _, rfl, rfl, _, _, rfl, ?_⟩
  refine ⟨_, rfl, r, 3, rfl, hR3, by decide, by decide, fun kI H3 k0 k1 hR4 o4 => ⟨_, _, rfl, rfl, ?_⟩⟩
  obtain ⟨d, hd, hd1, hd6⟩ : ∃ d : Nat, (if (xs8.length : Int) - 1 > 0 then (xs8.length : Int) - 1 else 0) + kI = (d : Int) ∧ g.length ≤ d + 1 ∧ d ≤ 6 := by
    refine ⟨((if (xs8.length : Int) - 1 > 0 then (xs8.length : Int) - 1 else 0) + kI).toNat, ?_, ?_, ?_⟩
    · split <;> omega
    · split <;> omega
    · split <;> omega
  have ed : (fun i j : Int => V.int (i + j)) (if (xs8.length : Int) - 1 > 0 then (xs8.length : Int) - 1 else 0) kI = V.int (d : Int) := congrArg V.int hd
  rw [ed]
  replace hg := hg.kp (hR3.kp o4)
  replace hI := hI.kp (hR3.kp o4)
  clear hb8 rs8
  have pb : ∀ e j i, j ≤ d → Bd 96 (cf (pe (pk lo hi e) j) i) := fun e j i hj => pk_bd6 ok e j i (by omega)
  have szg : 1 + g.length * (3 + (96 + 17) + 1) ≤ kB := by
    have := Nat.mul_le_mul_right (3 + (96 + 17) + 1) lg5
    show _ ≤ 2250
    omega
  refine ⟨_, rfl, _, rfl, _, rfl, _, .ref c, g, d, lo, hi, 3, 96, rfl, hg, hI, cg, ok.lt, hd1, by omega, bg, ok.bl.le (by decide), ok.bh.le (by decide), pb, by decide, szg, by decide, by decide, fun v9 H4 e4 hv9 => ?_⟩
  replace hg := hg.sm e4
  replace hI := hI.sm e4
  have dt : ∀ i, Dn (840 * 4200 ^ 6 * 840) (5 * (5880 * 58800 ^ 6 * 840)) (cf (tel g d lo hi) i) := tel_dn ok hd6 lg5 dg
  have lt : (tel g d lo hi).length = d + 1 := tel_len _ _ _ _
  have tu : up (tel g d lo hi) = lin g lo (hi - lo) := up_tel hd1 lo hi
  have t0 : cf (tel g d lo hi) 0 = pev g lo := tel_first hd1
  have t1 : cf (tel g d lo hi) d = pev g hi := tel_last hd1
  generalize tel g d lo hi = S at hv9 dt lt tu t0 t1
  obtain ⟨b9, xs9, rfl, hb9, rs9, hl9⟩ := hv9.len
  refine ⟨_, rfl, _, _, _, _, true, rfl, .ty _, sq_ty hb9, kit_ty (by decide +kernel), true, rfl, iteF ?_⟩
  refine ⟨_, rfl, b9, xs9, rfl, .inr hb9, _, rfl, _, _, rfl, rfl, rfl, false, ?_, iteF ?_⟩
  · have e : (xs9.length : Int) = (d : Int) + 1 := by omega
    show V.bl (!decide (V.int (xs9.length : Int) = V.int ((d : Int) + 1))) = V.bl false
    rw [e, decide_eq_true rfl]; rfl
  refine ⟨_, rfl, _, rfl, _, .ref c, S, lo, hi, 840 * 4200 ^ 6 * 840, 5 * (5880 * 58800 ^ 6 * 840), 290, rfl, hv9, hI, ok, by omega, by omega, dt, by decide, by decide, fun j hj => sz290 j (by omega), by decide, by decide, fun v10 H5 e5 hv10 => ?_⟩
  rw [tu, lin_there cg ok] at hv10
  replace hg := hg.sm e5
  replace hI := hI.sm e5
  replace hv9 := hv9.sm e5
  refine ⟨_, rfl, ne_pp hv10 hg ⟨false, by rw [decide_eq_true rfl]; rfl, iteF ?_⟩⟩
  dsimp only [tNext]
  clear hv10 hb9 rs9 hl9
  obtain ⟨b', xs9, hq, hb9, rs9, hl9⟩ := hv9.len
  cases hq
  obtain ⟨c', u, v, hq, hc, hu, hv⟩ := pl_two hI
  cases hq
  obtain ⟨y0, hy0, hy0'⟩ := pr_get rs9 (show S[0]? = some (cf S 0) by
    have h : 0 < S.length := by omega
    rw [List.getElem?_eq_getElem h, cf_lt h])
  obtain ⟨us, y1, rfl, hus⟩ := last_split (show xs9.length = d + 1 by omega)
  have hy1 := last_get rs9 hus
  have szh : 1 + g.length * (3 + 20 + 1) ≤ kB := by
    have := Nat.mul_le_mul_right (3 + 20 + 1) lg5
    show _ ≤ 2250
    omega
  refine ⟨_, rfl, b9, _, _, y0, rfl, rfl, hb9, atI_nat (j := 0) hy0, _, rfl, _, rfl, c, _, _, _, rfl, rfl, hc, rfl, _, u, g, lo, 3, 20, rfl, hg, hu, bg, ok.bl, szh, by omega, fun w1 H6 e6 hw1 => ?_⟩
  rw [t0] at hy0'
  refine eq_rr (hy0'.sm e6) hw1 ⟨true, by rw [decide_eq_true rfl], iteT ?_⟩
  refine ⟨_, rfl, 1, rfl, b9, _, _, y1, rfl, rfl, kp_t (kp_same e6) hb9, atI_last us _, _, rfl, _, rfl, c, _, _, _, rfl, rfl, kp_t (kp_same e6) hc, rfl, _, v, g, hi, 3, 20, rfl, hg.sm e6, hv.sm e6, bg, ok.bh, szh, by omega, fun w2 H7 e7 hw2 => ?_⟩
  rw [t1] at hy1
  refine eq_rr ((hy1.sm e6).sm e7) hw2 ?_
  rw [decide_eq_true rfl]
  exact q _
end
end Bc
namespace Bc
open PySem PySem.Spec PyProof.Rows L2 RZ RT
theorem sc_only {K : PySem.W.Frag} {H : Hp} {a : Addr} {xs : List V} (hO : Only H) (h : SqL K H a xs) : Sc K H a xs := by
  rcases h with (h | ⟨ob, h⟩) | h
  · rcases hO a with e | ⟨ob, ys, e⟩
    · rw [e] at h; cases h
    · rw [e] at h; cases h
  · exact .inl ⟨ob, h⟩
  · exact .inr h
theorem all_mk {l : PySem.W.OpenLaw} {w : World} {K : PySem.W.Frag} {h : Heap} {mg : Str → Option Value} {fa : Addr} (X : K.In h) (G : h.Ns mainGlobals mg) (hfa : mg "law" = some (.ref fa))
    {f0 : Addr} {od0 an0 : Option Addr} {sl0 : Array (Option Value)} {oc0 kV0 dc0 pm0 cd0 ct0 : Value}
    {f1 : Addr} {od1 an1 : Option Addr} {sl1 : Array (Option Value)} {oc1 kV1 dc1 pm1 cd1 ct1 : Value}
    {f2 : Addr} {od2 an2 : Option Addr} {sl2 : Array (Option Value)} {oc2 kV2 dc2 pm2 cd2 ct2 : Value}
    {f3 : Addr} {od3 an3 : Option Addr} {sl3 : Array (Option Value)} {oc3 kV3 dc3 pm3 cd3 ct3 : Value}
    {f4 : Addr} {od4 an4 : Option Addr} {sl4 : Array (Option Value)} {oc4 kV4 dc4 pm4 cd4 ct4 : Value}
    {f5 : Addr} {od5 an5 : Option Addr} {sl5 : Array (Option Value)} {oc5 kV5 dc5 pm5 cd5 ct5 : Value}
    {f6 : Addr} {od6 an6 : Option Addr} {sl6 : Array (Option Value)} {oc6 kV6 dc6 pm6 cd6 ct6 : Value}
    {f7 : Addr} {od7 an7 : Option Addr} {sl7 : Array (Option Value)} {oc7 kV7 dc7 pm7 cd7 ct7 : Value}
    {f8 : Addr} {od8 an8 : Option Addr} {sl8 : Array (Option Value)} {oc8 kV8 dc8 pm8 cd8 ct8 : Value}
    {f9 : Addr} {od9 an9 : Option Addr} {sl9 : Array (Option Value)} {oc9 kV9 dc9 pm9 cd9 ct9 : Value}
    {f10 : Addr} {od10 an10 : Option Addr} {sl10 : Array (Option Value)} {oc10 kV10 dc10 pm10 cd10 ct10 : Value}
    {f11 : Addr} {od11 an11 : Option Addr} {sl11 : Array (Option Value)} {oc11 kV11 dc11 pm11 cd11 ct11 : Value}
    {f12 : Addr} {od12 an12 : Option Addr} {sl12 : Array (Option Value)} {oc12 kV12 dc12 pm12 cd12 ct12 : Value}
    {f13 : Addr} {od13 an13 : Option Addr} {sl13 : Array (Option Value)} {oc13 kV13 dc13 pm13 cd13 ct13 : Value}
    {f14 : Addr} {od14 an14 : Option Addr} {sl14 : Array (Option Value)} {oc14 kV14 dc14 pm14 cd14 ct14 : Value}
    {f15 : Addr} {od15 an15 : Option Addr} {sl15 : Array (Option Value)} {oc15 kV15 dc15 pm15 cd15 ct15 : Value}
    {f16 : Addr} {od16 an16 : Option Addr} {sl16 : Array (Option Value)} {oc16 kV16 dc16 pm16 cd16 ct16 : Value}
    {f17 : Addr} {od17 an17 : Option Addr} {sl17 : Array (Option Value)} {oc17 kV17 dc17 pm17 cd17 ct17 : Value}
    {f18 : Addr} {od18 an18 : Option Addr} {sl18 : Array (Option Value)} {oc18 kV18 dc18 pm18 cd18 ct18 : Value}
    {f19 : Addr} {od19 an19 : Option Addr} {sl19 : Array (Option Value)} {oc19 kV19 dc19 pm19 cd19 ct19 : Value}
    {dd19 : Addr} {oy19 : Value} {dy19 : Option Addr} {ny19 : Nat} {sy19 : Array (Option Value)} {ty19_0 : Tok}
    {f20 : Addr} {od20 an20 : Option Addr} {sl20 : Array (Option Value)} {oc20 kV20 dc20 pm20 cd20 ct20 : Value}
    {f21 : Addr} {od21 an21 : Option Addr} {sl21 : Array (Option Value)} {oc21 kV21 dc21 pm21 cd21 ct21 : Value}
    {f22 : Addr} {od22 an22 : Option Addr} {sl22 : Array (Option Value)} {oc22 kV22 dc22 pm22 cd22 ct22 : Value}
    {f23 : Addr} {od23 an23 : Option Addr} {sl23 : Array (Option Value)} {oc23 kV23 dc23 pm23 cd23 ct23 : Value}
    {f24 : Addr} {od24 an24 : Option Addr} {sl24 : Array (Option Value)} {oc24 kV24 dc24 pm24 cd24 ct24 : Value}
    {f25 : Addr} {od25 an25 : Option Addr} {sl25 : Array (Option Value)} {oc25 kV25 dc25 pm25 cd25 ct25 : Value}
    {f26 : Addr} {od26 an26 : Option Addr} {sl26 : Array (Option Value)} {oc26 kV26 dc26 pm26 cd26 ct26 : Value}
    {f27 : Addr} {od27 an27 : Option Addr} {sl27 : Array (Option Value)} {oc27 kV27 dc27 pm27 cd27 ct27 : Value}
    {f28 : Addr} {od28 an28 : Option Addr} {sl28 : Array (Option Value)} {oc28 kV28 dc28 pm28 cd28 ct28 : Value}
    {f29 : Addr} {od29 an29 : Option Addr} {sl29 : Array (Option Value)} {oc29 kV29 dc29 pm29 cd29 ct29 : Value}
    {f30 : Addr} {od30 an30 : Option Addr} {sl30 : Array (Option Value)} {oc30 kV30 dc30 pm30 cd30 ct30 : Value}
    {f31 : Addr} {od31 an31 : Option Addr} {sl31 : Array (Option Value)} {oc31 kV31 dc31 pm31 cd31 ct31 : Value}
    {f32 : Addr} {od32 an32 : Option Addr} {sl32 : Array (Option Value)} {oc32 kV32 dc32 pm32 cd32 ct32 : Value}
    {f33 : Addr} {od33 an33 : Option Addr} {sl33 : Array (Option Value)} {oc33 kV33 dc33 pm33 cd33 ct33 : Value}
    {f34 : Addr} {od34 an34 : Option Addr} {sl34 : Array (Option Value)} {oc34 kV34 dc34 pm34 cd34 ct34 : Value}
    {f35 : Addr} {od35 an35 : Option Addr} {sl35 : Array (Option Value)} {oc35 kV35 dc35 pm35 cd35 ct35 : Value}
    {f36 : Addr} {od36 an36 : Option Addr} {sl36 : Array (Option Value)} {oc36 kV36 dc36 pm36 cd36 ct36 : Value}
    {f37 : Addr} {od37 an37 : Option Addr} {sl37 : Array (Option Value)} {oc37 kV37 dc37 pm37 cd37 ct37 : Value}
    {f38 : Addr} {od38 an38 : Option Addr} {sl38 : Array (Option Value)} {oc38 kV38 dc38 pm38 cd38 ct38 : Value}
    {f39 : Addr} {od39 an39 : Option Addr} {sl39 : Array (Option Value)} {oc39 kV39 dc39 pm39 cd39 ct39 : Value}
    {f40 : Addr} {od40 an40 : Option Addr} {sl40 : Array (Option Value)} {oc40 kV40 dc40 pm40 cd40 ct40 : Value}
    {f41 : Addr} {od41 an41 : Option Addr} {sl41 : Array (Option Value)} {oc41 kV41 dc41 pm41 cd41 ct41 : Value}
    {f42 : Addr} {od42 an42 : Option Addr} {sl42 : Array (Option Value)} {oc42 kV42 dc42 pm42 cd42 ct42 : Value}
    {f43 : Addr} {od43 an43 : Option Addr} {sl43 : Array (Option Value)} {oc43 kV43 dc43 pm43 cd43 ct43 : Value}
    {f44 : Addr} {od44 an44 : Option Addr} {sl44 : Array (Option Value)} {oc44 kV44 dc44 pm44 cd44 ct44 : Value}
    {f45 : Addr} {od45 an45 : Option Addr} {sl45 : Array (Option Value)} {oc45 kV45 dc45 pm45 cd45 ct45 : Value}
    {f46 : Addr} {od46 an46 : Option Addr} {sl46 : Array (Option Value)} {oc46 kV46 dc46 pm46 cd46 ct46 : Value}
    {f47 : Addr} {od47 an47 : Option Addr} {sl47 : Array (Option Value)} {oc47 kV47 dc47 pm47 cd47 ct47 : Value}
    {f48 : Addr} {od48 an48 : Option Addr} {sl48 : Array (Option Value)} {oc48 kV48 dc48 pm48 cd48 ct48 : Value}
    {f49 : Addr} {od49 an49 : Option Addr} {sl49 : Array (Option Value)} {oc49 kV49 dc49 pm49 cd49 ct49 : Value}
    {f50 : Addr} {od50 an50 : Option Addr} {sl50 : Array (Option Value)} {oc50 kV50 dc50 pm50 cd50 ct50 : Value}
    {f51 : Addr} {od51 an51 : Option Addr} {sl51 : Array (Option Value)} {oc51 kV51 dc51 pm51 cd51 ct51 : Value}
    {f52 : Addr} {od52 an52 : Option Addr} {sl52 : Array (Option Value)} {oc52 kV52 dc52 pm52 cd52 ct52 : Value}
    {q0 : Addr} {dq0 : Option Addr} {nq0 : Nat} {sq0 : Array (Option Value)} {tq0_0 : Tok} {tq0_1 : Tok}
    {q1 : Addr} {dq1 : Option Addr} {nq1 : Nat} {sq1 : Array (Option Value)} {tq1_0 : Tok} {tq1_1 : Tok}
    {tk2 : Tok}
    {tk3 : Tok}
    (a0 : PySem.W.nsIn K mainGlobals "is_whole" = some (some (.ref f0))) (l0 : K.lookup f0 = some ⟨oc0, od0, .func (PySem.W.fnOf "is_whole" "is_whole" (defArgs s_is_whole) (defBody s_is_whole) (defScope s_is_whole) .none kV0 dc0 pm0 an0 cd0 ct0), sl0⟩) (c0 : PySem.W.codeIn K cd0 "is_whole" = true) (k0 : PySem.W.keepIn K (.ref f0) = true)
    (a1 : PySem.W.nsIn K mainGlobals "is_ratio" = some (some (.ref f1))) (l1 : K.lookup f1 = some ⟨oc1, od1, .func (PySem.W.fnOf "is_ratio" "is_ratio" (defArgs s_is_ratio) (defBody s_is_ratio) (defScope s_is_ratio) .none kV1 dc1 pm1 an1 cd1 ct1), sl1⟩) (c1 : PySem.W.codeIn K cd1 "is_ratio" = true) (k1 : PySem.W.keepIn K (.ref f1) = true)
    (a2 : PySem.W.nsIn K mainGlobals "lowest" = some (some (.ref f2))) (l2 : K.lookup f2 = some ⟨oc2, od2, .func (PySem.W.fnOf "lowest" "lowest" (defArgs s_lowest) (defBody s_lowest) (defScope s_lowest) .none kV2 dc2 pm2 an2 cd2 ct2), sl2⟩) (c2 : PySem.W.codeIn K cd2 "lowest" = true) (k2 : PySem.W.keepIn K (.ref f2) = true)
    (a3 : PySem.W.nsIn K mainGlobals "opposite" = some (some (.ref f3))) (l3 : K.lookup f3 = some ⟨oc3, od3, .func (PySem.W.fnOf "opposite" "opposite" (defArgs s_opposite) (defBody s_opposite) (defScope s_opposite) .none kV3 dc3 pm3 an3 cd3 ct3), sl3⟩) (c3 : PySem.W.codeIn K cd3 "opposite" = true) (k3 : PySem.W.keepIn K (.ref f3) = true)
    (a4 : PySem.W.nsIn K mainGlobals "plus" = some (some (.ref f4))) (l4 : K.lookup f4 = some ⟨oc4, od4, .func (PySem.W.fnOf "plus" "plus" (defArgs s_plus) (defBody s_plus) (defScope s_plus) .none kV4 dc4 pm4 an4 cd4 ct4), sl4⟩) (c4 : PySem.W.codeIn K cd4 "plus" = true) (k4 : PySem.W.keepIn K (.ref f4) = true)
    (a5 : PySem.W.nsIn K mainGlobals "minus" = some (some (.ref f5))) (l5 : K.lookup f5 = some ⟨oc5, od5, .func (PySem.W.fnOf "minus" "minus" (defArgs s_minus) (defBody s_minus) (defScope s_minus) .none kV5 dc5 pm5 an5 cd5 ct5), sl5⟩) (c5 : PySem.W.codeIn K cd5 "minus" = true) (k5 : PySem.W.keepIn K (.ref f5) = true)
    (a6 : PySem.W.nsIn K mainGlobals "times" = some (some (.ref f6))) (l6 : K.lookup f6 = some ⟨oc6, od6, .func (PySem.W.fnOf "times" "times" (defArgs s_times) (defBody s_times) (defScope s_times) .none kV6 dc6 pm6 an6 cd6 ct6), sl6⟩) (c6 : PySem.W.codeIn K cd6 "times" = true) (k6 : PySem.W.keepIn K (.ref f6) = true)
    (a7 : PySem.W.nsIn K mainGlobals "over" = some (some (.ref f7))) (l7 : K.lookup f7 = some ⟨oc7, od7, .func (PySem.W.fnOf "over" "over" (defArgs s_over) (defBody s_over) (defScope s_over) .none kV7 dc7 pm7 an7 cd7 ct7), sl7⟩) (c7 : PySem.W.codeIn K cd7 "over" = true) (k7 : PySem.W.keepIn K (.ref f7) = true)
    (a8 : PySem.W.nsIn K mainGlobals "is_below" = some (some (.ref f8))) (l8 : K.lookup f8 = some ⟨oc8, od8, .func (PySem.W.fnOf "is_below" "is_below" (defArgs s_is_below) (defBody s_is_below) (defScope s_is_below) .none kV8 dc8 pm8 an8 cd8 ct8), sl8⟩) (c8 : PySem.W.codeIn K cd8 "is_below" = true) (k8 : PySem.W.keepIn K (.ref f8) = true)
    (a9 : PySem.W.nsIn K mainGlobals "total_of" = some (some (.ref f9))) (l9 : K.lookup f9 = some ⟨oc9, od9, .func (PySem.W.fnOf "total_of" "total_of" (defArgs s_total_of) (defBody s_total_of) (defScope s_total_of) .none kV9 dc9 pm9 an9 cd9 ct9), sl9⟩) (c9 : PySem.W.codeIn K cd9 "total_of" = true) (k9 : PySem.W.keepIn K (.ref f9) = true)
    (a10 : PySem.W.nsIn K mainGlobals "are_ratios" = some (some (.ref f10))) (l10 : K.lookup f10 = some ⟨oc10, od10, .func (PySem.W.fnOf "are_ratios" "are_ratios" (defArgs s_are_ratios) (defBody s_are_ratios) (defScope s_are_ratios) .none kV10 dc10 pm10 an10 cd10 ct10), sl10⟩) (c10 : PySem.W.codeIn K cd10 "are_ratios" = true) (k10 : PySem.W.keepIn K (.ref f10) = true)
    (a11 : PySem.W.nsIn K mainGlobals "is_interval" = some (some (.ref f11))) (l11 : K.lookup f11 = some ⟨oc11, od11, .func (PySem.W.fnOf "is_interval" "is_interval" (defArgs s_is_interval) (defBody s_is_interval) (defScope s_is_interval) .none kV11 dc11 pm11 an11 cd11 ct11), sl11⟩) (c11 : PySem.W.codeIn K cd11 "is_interval" = true) (k11 : PySem.W.keepIn K (.ref f11) = true)
    (a12 : PySem.W.nsIn K mainGlobals "has_length" = some (some (.ref f12))) (l12 : K.lookup f12 = some ⟨oc12, od12, .func (PySem.W.fnOf "has_length" "has_length" (defArgs s_has_length) (defBody s_has_length) (defScope s_has_length) .none kV12 dc12 pm12 an12 cd12 ct12), sl12⟩) (c12 : PySem.W.codeIn K cd12 "has_length" = true) (k12 : PySem.W.keepIn K (.ref f12) = true)
    (a13 : PySem.W.nsIn K mainGlobals "is_polynomial" = some (some (.ref f13))) (l13 : K.lookup f13 = some ⟨oc13, od13, .func (PySem.W.fnOf "is_polynomial" "is_polynomial" (defArgs s_is_polynomial) (defBody s_is_polynomial) (defScope s_is_polynomial) .none kV13 dc13 pm13 an13 cd13 ct13), sl13⟩) (c13 : PySem.W.codeIn K cd13 "is_polynomial" = true) (k13 : PySem.W.keepIn K (.ref f13) = true)
    (a14 : PySem.W.nsIn K mainGlobals "is_integer" = some (some (.ref f14))) (l14 : K.lookup f14 = some ⟨oc14, od14, .func (PySem.W.fnOf "is_integer" "is_integer" (defArgs s_is_integer) (defBody s_is_integer) (defScope s_is_integer) .none kV14 dc14 pm14 an14 cd14 ct14), sl14⟩) (c14 : PySem.W.codeIn K cd14 "is_integer" = true) (k14 : PySem.W.keepIn K (.ref f14) = true)
    (a15 : PySem.W.nsIn K mainGlobals "check_polynomial" = some (some (.ref f15))) (l15 : K.lookup f15 = some ⟨oc15, od15, .func (PySem.W.fnOf "check_polynomial" "check_polynomial" (defArgs s_check_polynomial) (defBody s_check_polynomial) (defScope s_check_polynomial) .none kV15 dc15 pm15 an15 cd15 ct15), sl15⟩) (c15 : PySem.W.codeIn K cd15 "check_polynomial" = true) (k15 : PySem.W.keepIn K (.ref f15) = true)
    (a16 : PySem.W.nsIn K mainGlobals "check_degree" = some (some (.ref f16))) (l16 : K.lookup f16 = some ⟨oc16, od16, .func (PySem.W.fnOf "check_degree" "check_degree" (defArgs s_check_degree) (defBody s_check_degree) (defScope s_check_degree) .none kV16 dc16 pm16 an16 cd16 ct16), sl16⟩) (c16 : PySem.W.codeIn K cd16 "check_degree" = true) (k16 : PySem.W.keepIn K (.ref f16) = true)
    (a17 : PySem.W.nsIn K mainGlobals "check_degree_of" = some (some (.ref f17))) (l17 : K.lookup f17 = some ⟨oc17, od17, .func (PySem.W.fnOf "check_degree_of" "check_degree_of" (defArgs s_check_degree_of) (defBody s_check_degree_of) (defScope s_check_degree_of) .none kV17 dc17 pm17 an17 cd17 ct17), sl17⟩) (c17 : PySem.W.codeIn K cd17 "check_degree_of" = true) (k17 : PySem.W.keepIn K (.ref f17) = true)
    (a18 : PySem.W.nsIn K mainGlobals "check_places" = some (some (.ref f18))) (l18 : K.lookup f18 = some ⟨oc18, od18, .func (PySem.W.fnOf "check_places" "check_places" (defArgs s_check_places) (defBody s_check_places) (defScope s_check_places) .none kV18 dc18 pm18 an18 cd18 ct18), sl18⟩) (c18 : PySem.W.codeIn K cd18 "check_places" = true) (k18 : PySem.W.keepIn K (.ref f18) = true)
    (a19 : PySem.W.nsIn K mainGlobals "check_row" = some (some (.ref f19))) (l19 : K.lookup f19 = some ⟨oc19, od19, .func (PySem.W.fnOf "check_row" "check_row" (defArgs s_check_row) (defBody s_check_row) (defScope s_check_row) (.ref dd19) kV19 dc19 pm19 an19 cd19 ct19), sl19⟩) (c19 : PySem.W.codeIn K cd19 "check_row" = true) (k19 : PySem.W.keepIn K (.ref f19) = true) (y19 : K.lookup dd19 = some ⟨oy19, dy19, .seq #[.int 8 ty19_0] ny19, sy19⟩)
    (a20 : PySem.W.nsIn K mainGlobals "check_interval" = some (some (.ref f20))) (l20 : K.lookup f20 = some ⟨oc20, od20, .func (PySem.W.fnOf "check_interval" "check_interval" (defArgs s_check_interval) (defBody s_check_interval) (defScope s_check_interval) .none kV20 dc20 pm20 an20 cd20 ct20), sl20⟩) (c20 : PySem.W.codeIn K cd20 "check_interval" = true) (k20 : PySem.W.keepIn K (.ref f20) = true)
    (a21 : PySem.W.nsIn K mainGlobals "blossom" = some (some (.ref f21))) (l21 : K.lookup f21 = some ⟨oc21, od21, .func (PySem.W.fnOf "blossom" "blossom" (defArgs s_blossom) (defBody s_blossom) (defScope s_blossom) .none kV21 dc21 pm21 an21 cd21 ct21), sl21⟩) (c21 : PySem.W.codeIn K cd21 "blossom" = true) (k21 : PySem.W.keepIn K (.ref f21) = true)
    (a22 : PySem.W.nsIn K mainGlobals "blossom_at" = some (some (.ref f22))) (l22 : K.lookup f22 = some ⟨oc22, od22, .func (PySem.W.fnOf "blossom_at" "blossom_at" (defArgs s_blossom_at) (defBody s_blossom_at) (defScope s_blossom_at) .none kV22 dc22 pm22 an22 cd22 ct22), sl22⟩) (c22 : PySem.W.codeIn K cd22 "blossom_at" = true) (k22 : PySem.W.keepIn K (.ref f22) = true)
    (a23 : PySem.W.nsIn K mainGlobals "place_products" = some (some (.ref f23))) (l23 : K.lookup f23 = some ⟨oc23, od23, .func (PySem.W.fnOf "place_products" "place_products" (defArgs s_place_products) (defBody s_place_products) (defScope s_place_products) .none kV23 dc23 pm23 an23 cd23 ct23), sl23⟩) (c23 : PySem.W.codeIn K cd23 "place_products" = true) (k23 : PySem.W.keepIn K (.ref f23) = true)
    (a24 : PySem.W.nsIn K mainGlobals "trimmed" = some (some (.ref f24))) (l24 : K.lookup f24 = some ⟨oc24, od24, .func (PySem.W.fnOf "trimmed" "trimmed" (defArgs s_trimmed) (defBody s_trimmed) (defScope s_trimmed) .none kV24 dc24 pm24 an24 cd24 ct24), sl24⟩) (c24 : PySem.W.codeIn K cd24 "trimmed" = true) (k24 : PySem.W.keepIn K (.ref f24) = true)
    (a25 : PySem.W.nsIn K mainGlobals "sum_of" = some (some (.ref f25))) (l25 : K.lookup f25 = some ⟨oc25, od25, .func (PySem.W.fnOf "sum_of" "sum_of" (defArgs s_sum_of) (defBody s_sum_of) (defScope s_sum_of) .none kV25 dc25 pm25 an25 cd25 ct25), sl25⟩) (c25 : PySem.W.codeIn K cd25 "sum_of" = true) (k25 : PySem.W.keepIn K (.ref f25) = true)
    (a26 : PySem.W.nsIn K mainGlobals "product_of" = some (some (.ref f26))) (l26 : K.lookup f26 = some ⟨oc26, od26, .func (PySem.W.fnOf "product_of" "product_of" (defArgs s_product_of) (defBody s_product_of) (defScope s_product_of) .none kV26 dc26 pm26 an26 cd26 ct26), sl26⟩) (c26 : PySem.W.codeIn K cd26 "product_of" = true) (k26 : PySem.W.keepIn K (.ref f26) = true)
    (a27 : PySem.W.nsIn K mainGlobals "row_of" = some (some (.ref f27))) (l27 : K.lookup f27 = some ⟨oc27, od27, .func (PySem.W.fnOf "row_of" "row_of" (defArgs s_row_of) (defBody s_row_of) (defScope s_row_of) .none kV27 dc27 pm27 an27 cd27 ct27), sl27⟩) (c27 : PySem.W.codeIn K cd27 "row_of" = true) (k27 : PySem.W.keepIn K (.ref f27) = true)
    (a28 : PySem.W.nsIn K mainGlobals "poly_of" = some (some (.ref f28))) (l28 : K.lookup f28 = some ⟨oc28, od28, .func (PySem.W.fnOf "poly_of" "poly_of" (defArgs s_poly_of) (defBody s_poly_of) (defScope s_poly_of) .none kV28 dc28 pm28 an28 cd28 ct28), sl28⟩) (c28 : PySem.W.codeIn K cd28 "poly_of" = true) (k28 : PySem.W.keepIn K (.ref f28) = true)
    (a29 : PySem.W.nsIn K mainGlobals "row_telling" = some (some (.ref f29))) (l29 : K.lookup f29 = some ⟨oc29, od29, .func (PySem.W.fnOf "row_telling" "row_telling" (defArgs s_row_telling) (defBody s_row_telling) (defScope s_row_telling) .none kV29 dc29 pm29 an29 cd29 ct29), sl29⟩) (c29 : PySem.W.codeIn K cd29 "row_telling" = true) (k29 : PySem.W.keepIn K (.ref f29) = true)
    (a30 : PySem.W.nsIn K mainGlobals "poly_told" = some (some (.ref f30))) (l30 : K.lookup f30 = some ⟨oc30, od30, .func (PySem.W.fnOf "poly_told" "poly_told" (defArgs s_poly_told) (defBody s_poly_told) (defScope s_poly_told) .none kV30 dc30 pm30 an30 cd30 ct30), sl30⟩) (c30 : PySem.W.codeIn K cd30 "poly_told" = true) (k30 : PySem.W.keepIn K (.ref f30) = true)
    (a31 : PySem.W.nsIn K mainGlobals "_law_taken" = some (some (.ref f31))) (l31 : K.lookup f31 = some ⟨oc31, od31, .func (PySem.W.fnOf "_law_taken" "_law_taken" (defArgs s_law_taken) (defBody s_law_taken) (defScope s_law_taken) .none kV31 dc31 pm31 an31 cd31 ct31), sl31⟩) (c31 : PySem.W.codeIn K cd31 "_law_taken" = true) (k31 : PySem.W.keepIn K (.ref f31) = true)
    (a32 : PySem.W.nsIn K mainGlobals "_law_pick" = some (some (.ref f32))) (l32 : K.lookup f32 = some ⟨oc32, od32, .func (PySem.W.fnOf "_law_pick" "_law_pick" (defArgs s_law_pick) (defBody s_law_pick) (defScope s_law_pick) .none kV32 dc32 pm32 an32 cd32 ct32), sl32⟩) (c32 : PySem.W.codeIn K cd32 "_law_pick" = true) (k32 : PySem.W.keepIn K (.ref f32) = true)
    (a33 : PySem.W.nsIn K mainGlobals "_law_alike" = some (some (.ref f33))) (l33 : K.lookup f33 = some ⟨oc33, od33, .func (PySem.W.fnOf "_law_alike" "_law_alike" (defArgs s_law_alike) (defBody s_law_alike) (defScope s_law_alike) .none kV33 dc33 pm33 an33 cd33 ct33), sl33⟩) (c33 : PySem.W.codeIn K cd33 "_law_alike" = true) (k33 : PySem.W.keepIn K (.ref f33) = true)
    (a34 : PySem.W.nsIn K mainGlobals "_law_made" = some (some (.ref f34))) (l34 : K.lookup f34 = some ⟨oc34, od34, .func (PySem.W.fnOf "_law_made" "_law_made" (defArgs s_law_made) (defBody s_law_made) (defScope s_law_made) .none kV34 dc34 pm34 an34 cd34 ct34), sl34⟩) (c34 : PySem.W.codeIn K cd34 "_law_made" = true) (k34 : PySem.W.keepIn K (.ref f34) = true)
    (a35 : PySem.W.nsIn K mainGlobals "_law_plus" = some (some (.ref f35))) (l35 : K.lookup f35 = some ⟨oc35, od35, .func (PySem.W.fnOf "_law_plus" "_law_plus" (defArgs s_law_plus) (defBody s_law_plus) (defScope s_law_plus) .none kV35 dc35 pm35 an35 cd35 ct35), sl35⟩) (c35 : PySem.W.codeIn K cd35 "_law_plus" = true) (k35 : PySem.W.keepIn K (.ref f35) = true)
    (a36 : PySem.W.nsIn K mainGlobals "_law_minus" = some (some (.ref f36))) (l36 : K.lookup f36 = some ⟨oc36, od36, .func (PySem.W.fnOf "_law_minus" "_law_minus" (defArgs s_law_minus) (defBody s_law_minus) (defScope s_law_minus) .none kV36 dc36 pm36 an36 cd36 ct36), sl36⟩) (c36 : PySem.W.codeIn K cd36 "_law_minus" = true) (k36 : PySem.W.keepIn K (.ref f36) = true)
    (a37 : PySem.W.nsIn K mainGlobals "_law_times" = some (some (.ref f37))) (l37 : K.lookup f37 = some ⟨oc37, od37, .func (PySem.W.fnOf "_law_times" "_law_times" (defArgs s_law_times) (defBody s_law_times) (defScope s_law_times) .none kV37 dc37 pm37 an37 cd37 ct37), sl37⟩) (c37 : PySem.W.codeIn K cd37 "_law_times" = true) (k37 : PySem.W.keepIn K (.ref f37) = true)
    (a38 : PySem.W.nsIn K mainGlobals "_law_over" = some (some (.ref f38))) (l38 : K.lookup f38 = some ⟨oc38, od38, .func (PySem.W.fnOf "_law_over" "_law_over" (defArgs s_law_over) (defBody s_law_over) (defScope s_law_over) .none kV38 dc38 pm38 an38 cd38 ct38), sl38⟩) (c38 : PySem.W.codeIn K cd38 "_law_over" = true) (k38 : PySem.W.keepIn K (.ref f38) = true)
    (a39 : PySem.W.nsIn K mainGlobals "_law_draw" = some (some (.ref f39))) (l39 : K.lookup f39 = some ⟨oc39, od39, .func (PySem.W.fnOf "_law_draw" "_law_draw" (defArgs s_law_draw) (defBody s_law_draw) (defScope s_law_draw) .none kV39 dc39 pm39 an39 cd39 ct39), sl39⟩) (c39 : PySem.W.codeIn K cd39 "_law_draw" = true) (k39 : PySem.W.keepIn K (.ref f39) = true)
    (a40 : PySem.W.nsIn K mainGlobals "_law_trim" = some (some (.ref f40))) (l40 : K.lookup f40 = some ⟨oc40, od40, .func (PySem.W.fnOf "_law_trim" "_law_trim" (defArgs s_law_trim) (defBody s_law_trim) (defScope s_law_trim) .none kV40 dc40 pm40 an40 cd40 ct40), sl40⟩) (c40 : PySem.W.codeIn K cd40 "_law_trim" = true) (k40 : PySem.W.keepIn K (.ref f40) = true)
    (a41 : PySem.W.nsIn K mainGlobals "_law_poly" = some (some (.ref f41))) (l41 : K.lookup f41 = some ⟨oc41, od41, .func (PySem.W.fnOf "_law_poly" "_law_poly" (defArgs s_law_poly) (defBody s_law_poly) (defScope s_law_poly) .none kV41 dc41 pm41 an41 cd41 ct41), sl41⟩) (c41 : PySem.W.codeIn K cd41 "_law_poly" = true) (k41 : PySem.W.keepIn K (.ref f41) = true)
    (a42 : PySem.W.nsIn K mainGlobals "_law_at" = some (some (.ref f42))) (l42 : K.lookup f42 = some ⟨oc42, od42, .func (PySem.W.fnOf "_law_at" "_law_at" (defArgs s_law_at) (defBody s_law_at) (defScope s_law_at) .none kV42 dc42 pm42 an42 cd42 ct42), sl42⟩) (c42 : PySem.W.codeIn K cd42 "_law_at" = true) (k42 : PySem.W.keepIn K (.ref f42) = true)
    (a43 : PySem.W.nsIn K mainGlobals "_law_p_plus" = some (some (.ref f43))) (l43 : K.lookup f43 = some ⟨oc43, od43, .func (PySem.W.fnOf "_law_p_plus" "_law_p_plus" (defArgs s_law_p_plus) (defBody s_law_p_plus) (defScope s_law_p_plus) .none kV43 dc43 pm43 an43 cd43 ct43), sl43⟩) (c43 : PySem.W.codeIn K cd43 "_law_p_plus" = true) (k43 : PySem.W.keepIn K (.ref f43) = true)
    (a44 : PySem.W.nsIn K mainGlobals "_law_p_times" = some (some (.ref f44))) (l44 : K.lookup f44 = some ⟨oc44, od44, .func (PySem.W.fnOf "_law_p_times" "_law_p_times" (defArgs s_law_p_times) (defBody s_law_p_times) (defScope s_law_p_times) .none kV44 dc44 pm44 an44 cd44 ct44), sl44⟩) (c44 : PySem.W.codeIn K cd44 "_law_p_times" = true) (k44 : PySem.W.keepIn K (.ref f44) = true)
    (a45 : PySem.W.nsIn K mainGlobals "_law_scaled" = some (some (.ref f45))) (l45 : K.lookup f45 = some ⟨oc45, od45, .func (PySem.W.fnOf "_law_scaled" "_law_scaled" (defArgs s_law_scaled) (defBody s_law_scaled) (defScope s_law_scaled) .none kV45 dc45 pm45 an45 cd45 ct45), sl45⟩) (c45 : PySem.W.codeIn K cd45 "_law_scaled" = true) (k45 : PySem.W.keepIn K (.ref f45) = true)
    (a46 : PySem.W.nsIn K mainGlobals "_law_choose" = some (some (.ref f46))) (l46 : K.lookup f46 = some ⟨oc46, od46, .func (PySem.W.fnOf "_law_choose" "_law_choose" (defArgs s_law_choose) (defBody s_law_choose) (defScope s_law_choose) .none kV46 dc46 pm46 an46 cd46 ct46), sl46⟩) (c46 : PySem.W.codeIn K cd46 "_law_choose" = true) (k46 : PySem.W.keepIn K (.ref f46) = true)
    (a47 : PySem.W.nsIn K mainGlobals "_law_row" = some (some (.ref f47))) (l47 : K.lookup f47 = some ⟨oc47, od47, .func (PySem.W.fnOf "_law_row" "_law_row" (defArgs s_law_row) (defBody s_law_row) (defScope s_law_row) .none kV47 dc47 pm47 an47 cd47 ct47), sl47⟩) (c47 : PySem.W.codeIn K cd47 "_law_row" = true) (k47 : PySem.W.keepIn K (.ref f47) = true)
    (a48 : PySem.W.nsIn K mainGlobals "_law_interval" = some (some (.ref f48))) (l48 : K.lookup f48 = some ⟨oc48, od48, .func (PySem.W.fnOf "_law_interval" "_law_interval" (defArgs s_law_interval) (defBody s_law_interval) (defScope s_law_interval) .none kV48 dc48 pm48 an48 cd48 ct48), sl48⟩) (c48 : PySem.W.codeIn K cd48 "_law_interval" = true) (k48 : PySem.W.keepIn K (.ref f48) = true)
    (a49 : PySem.W.nsIn K mainGlobals "_law_unit_poly" = some (some (.ref f49))) (l49 : K.lookup f49 = some ⟨oc49, od49, .func (PySem.W.fnOf "_law_unit_poly" "_law_unit_poly" (defArgs s_law_unit_poly) (defBody s_law_unit_poly) (defScope s_law_unit_poly) .none kV49 dc49 pm49 an49 cd49 ct49), sl49⟩) (c49 : PySem.W.codeIn K cd49 "_law_unit_poly" = true) (k49 : PySem.W.keepIn K (.ref f49) = true)
    (a50 : PySem.W.nsIn K mainGlobals "_law_moved" = some (some (.ref f50))) (l50 : K.lookup f50 = some ⟨oc50, od50, .func (PySem.W.fnOf "_law_moved" "_law_moved" (defArgs s_law_moved) (defBody s_law_moved) (defScope s_law_moved) .none kV50 dc50 pm50 an50 cd50 ct50), sl50⟩) (c50 : PySem.W.codeIn K cd50 "_law_moved" = true) (k50 : PySem.W.keepIn K (.ref f50) = true)
    (a51 : PySem.W.nsIn K mainGlobals "_law_row_poly" = some (some (.ref f51))) (l51 : K.lookup f51 = some ⟨oc51, od51, .func (PySem.W.fnOf "_law_row_poly" "_law_row_poly" (defArgs s_law_row_poly) (defBody s_law_row_poly) (defScope s_law_row_poly) .none kV51 dc51 pm51 an51 cd51 ct51), sl51⟩) (c51 : PySem.W.codeIn K cd51 "_law_row_poly" = true) (k51 : PySem.W.keepIn K (.ref f51) = true)
    (a52 : PySem.W.nsIn K mainGlobals "law" = some (some (.ref f52))) (l52 : K.lookup f52 = some ⟨oc52, od52, .func (PySem.W.fnOf "law" "law" (defArgs s_law) (defBody s_law) (defScope s_law) .none kV52 dc52 pm52 an52 cd52 ct52), sl52⟩) (c52 : PySem.W.codeIn K cd52 "law" = true) (k52 : PySem.W.keepIn K (.ref f52) = true)
    (u0 : PySem.W.nsIn K mainGlobals "ZERO" = some (some (.ref q0))) (v0 : K.lookup q0 = some ⟨.type "tuple", dq0, .seq #[.int 0 tq0_0, .int 1 tq0_1] nq0, sq0⟩)
    (u1 : PySem.W.nsIn K mainGlobals "ONE" = some (some (.ref q1))) (v1 : K.lookup q1 = some ⟨.type "tuple", dq1, .seq #[.int 1 tq1_0, .int 1 tq1_1] nq1, sq1⟩)
    (u2 : PySem.W.nsIn K mainGlobals "HIGHEST_POWER" = some (some (.int 12 tk2)))
    (u3 : PySem.W.nsIn K mainGlobals "ROW_DEGREE" = some (some (.int 8 tk3)))
    (b0 : PySem.W.nsIn K mainGlobals "comb" = some (some (.builtin "math.comb")))
    (b1 : PySem.W.nsIn K mainGlobals "gcd" = some (some (.builtin "math.gcd")))
    (z0 : PySem.W.nsIn K mainGlobals "type" = some none)
    (z1 : PySem.W.nsIn K mainGlobals "int" = some none)
    (z2 : PySem.W.nsIn K mainGlobals "tuple" = some none)
    (z3 : PySem.W.nsIn K mainGlobals "len" = some none)
    (z4 : PySem.W.nsIn K mainGlobals "all" = some none)
    (z5 : PySem.W.nsIn K mainGlobals "max" = some none)
    (z6 : PySem.W.nsIn K mainGlobals "enumerate" = some none)
    (z7 : PySem.W.nsIn K mainGlobals "zip" = some none)
    (z8 : PySem.W.nsIn K mainGlobals "range" = some none)
    (z9 : PySem.W.nsIn K mainGlobals "isinstance" = some none)
    (z10 : PySem.W.nsIn K mainGlobals "list" = some none)
    (z11 : PySem.W.nsIn K mainGlobals "str" = some none)
    (z12 : PySem.W.nsIn K mainGlobals "bool" = some none)
    (z13 : PySem.W.nsIn K mainGlobals "abs" = some none) :
    ∃ fd : FuncData, (∀ (s : Shared) (v : Value), BindsTo s fd ⟨[v], []⟩ [("script", v)]) ∧ ∀ base : Heap, K.In base → base.Ns mainGlobals mg → FnOk l.prog w K mg base CX0 7 fa fd ["script"] (spLaw K) := by
  have e := hfa.symm.trans (PySem.W.mg_of X G a52)
  cases e
  let T : Txt K mg := { f_is_whole := f0, d_is_whole := _, F_is_whole := fun_mk (st := s_is_whole) l0 c0 k0, g_is_whole := PySem.W.mg_of X G a0, f_is_ratio := f1, d_is_ratio := _, F_is_ratio := fun_mk (st := s_is_ratio) l1 c1 k1, g_is_ratio := PySem.W.mg_of X G a1, f_lowest := f2, d_lowest := _, F_lowest := fun_mk (st := s_lowest) l2 c2 k2, g_lowest := PySem.W.mg_of X G a2, f_opposite := f3, d_opposite := _, F_opposite := fun_mk (st := s_opposite) l3 c3 k3, g_opposite := PySem.W.mg_of X G a3, f_plus := f4, d_plus := _, F_plus := fun_mk (st := s_plus) l4 c4 k4, g_plus := PySem.W.mg_of X G a4, f_minus := f5, d_minus := _, F_minus := fun_mk (st := s_minus) l5 c5 k5, g_minus := PySem.W.mg_of X G a5, f_times := f6, d_times := _, F_times := fun_mk (st := s_times) l6 c6 k6, g_times := PySem.W.mg_of X G a6, f_over := f7, d_over := _, F_over := fun_mk (st := s_over) l7 c7 k7, g_over := PySem.W.mg_of X G a7, f_is_below := f8, d_is_below := _, F_is_below := fun_mk (st := s_is_below) l8 c8 k8, g_is_below := PySem.W.mg_of X G a8, f_total_of := f9, d_total_of := _, F_total_of := fun_mk (st := s_total_of) l9 c9 k9, g_total_of := PySem.W.mg_of X G a9, f_are_ratios := f10, d_are_ratios := _, F_are_ratios := fun_mk (st := s_are_ratios) l10 c10 k10, g_are_ratios := PySem.W.mg_of X G a10, f_is_interval := f11, d_is_interval := _, F_is_interval := fun_mk (st := s_is_interval) l11 c11 k11, g_is_interval := PySem.W.mg_of X G a11, f_has_length := f12, d_has_length := _, F_has_length := fun_mk (st := s_has_length) l12 c12 k12, g_has_length := PySem.W.mg_of X G a12, f_is_polynomial := f13, d_is_polynomial := _, F_is_polynomial := fun_mk (st := s_is_polynomial) l13 c13 k13, g_is_polynomial := PySem.W.mg_of X G a13, f_is_integer := f14, d_is_integer := _, F_is_integer := fun_mk (st := s_is_integer) l14 c14 k14, g_is_integer := PySem.W.mg_of X G a14, f_check_polynomial := f15, d_check_polynomial := _, F_check_polynomial := fun_mk (st := s_check_polynomial) l15 c15 k15, g_check_polynomial := PySem.W.mg_of X G a15, f_check_degree := f16, d_check_degree := _, F_check_degree := fun_mk (st := s_check_degree) l16 c16 k16, g_check_degree := PySem.W.mg_of X G a16, f_check_degree_of := f17, d_check_degree_of := _, F_check_degree_of := fun_mk (st := s_check_degree_of) l17 c17 k17, g_check_degree_of := PySem.W.mg_of X G a17, f_check_places := f18, d_check_places := _, F_check_places := fun_mk (st := s_check_places) l18 c18 k18, g_check_places := PySem.W.mg_of X G a18, f_check_row := f19, d_check_row := _, F_check_row := fund_mk (st := s_check_row) l19 c19 k19 y19 (.cons ⟨_, rfl⟩ (.nil)) (List.cons_ne_nil _ _), g_check_row := PySem.W.mg_of X G a19, f_check_interval := f20, d_check_interval := _, F_check_interval := fun_mk (st := s_check_interval) l20 c20 k20, g_check_interval := PySem.W.mg_of X G a20, f_blossom := f21, d_blossom := _, F_blossom := fun_mk (st := s_blossom) l21 c21 k21, g_blossom := PySem.W.mg_of X G a21, f_blossom_at := f22, d_blossom_at := _, F_blossom_at := fun_mk (st := s_blossom_at) l22 c22 k22, g_blossom_at := PySem.W.mg_of X G a22, f_place_products := f23, d_place_products := _, F_place_products := fun_mk (st := s_place_products) l23 c23 k23, g_place_products := PySem.W.mg_of X G a23, f_trimmed := f24, d_trimmed := _, F_trimmed := fun_mk (st := s_trimmed) l24 c24 k24, g_trimmed := PySem.W.mg_of X G a24, f_sum_of := f25, d_sum_of := _, F_sum_of := fun_mk (st := s_sum_of) l25 c25 k25, g_sum_of := PySem.W.mg_of X G a25, f_product_of := f26, d_product_of := _, F_product_of := fun_mk (st := s_product_of) l26 c26 k26, g_product_of := PySem.W.mg_of X G a26, f_row_of := f27, d_row_of := _, F_row_of := fun_mk (st := s_row_of) l27 c27 k27, g_row_of := PySem.W.mg_of X G a27, f_poly_of := f28, d_poly_of := _, F_poly_of := fun_mk (st := s_poly_of) l28 c28 k28, g_poly_of := PySem.W.mg_of X G a28, f_row_telling := f29, d_row_telling := _, F_row_telling := fun_mk (st := s_row_telling) l29 c29 k29, g_row_telling := PySem.W.mg_of X G a29, f_poly_told := f30, d_poly_told := _, F_poly_told := fun_mk (st := s_poly_told) l30 c30 k30, g_poly_told := PySem.W.mg_of X G a30, f__law_taken := f31, d__law_taken := _, F__law_taken := fun_mk (st := s_law_taken) l31 c31 k31, g__law_taken := PySem.W.mg_of X G a31, f__law_pick := f32, d__law_pick := _, F__law_pick := fun_mk (st := s_law_pick) l32 c32 k32, g__law_pick := PySem.W.mg_of X G a32, f__law_alike := f33, d__law_alike := _, F__law_alike := fun_mk (st := s_law_alike) l33 c33 k33, g__law_alike := PySem.W.mg_of X G a33, f__law_made := f34, d__law_made := _, F__law_made := fun_mk (st := s_law_made) l34 c34 k34, g__law_made := PySem.W.mg_of X G a34, f__law_plus := f35, d__law_plus := _, F__law_plus := fun_mk (st := s_law_plus) l35 c35 k35, g__law_plus := PySem.W.mg_of X G a35, f__law_minus := f36, d__law_minus := _, F__law_minus := fun_mk (st := s_law_minus) l36 c36 k36, g__law_minus := PySem.W.mg_of X G a36, f__law_times := f37, d__law_times := _, F__law_times := fun_mk (st := s_law_times) l37 c37 k37, g__law_times := PySem.W.mg_of X G a37, f__law_over := f38, d__law_over := _, F__law_over := fun_mk (st := s_law_over) l38 c38 k38, g__law_over := PySem.W.mg_of X G a38, f__law_draw := f39, d__law_draw := _, F__law_draw := fun_mk (st := s_law_draw) l39 c39 k39, g__law_draw := PySem.W.mg_of X G a39, f__law_trim := f40, d__law_trim := _, F__law_trim := fun_mk (st := s_law_trim) l40 c40 k40, g__law_trim := PySem.W.mg_of X G a40, f__law_poly := f41, d__law_poly := _, F__law_poly := fun_mk (st := s_law_poly) l41 c41 k41, g__law_poly := PySem.W.mg_of X G a41, f__law_at := f42, d__law_at := _, F__law_at := fun_mk (st := s_law_at) l42 c42 k42, g__law_at := PySem.W.mg_of X G a42, f__law_p_plus := f43, d__law_p_plus := _, F__law_p_plus := fun_mk (st := s_law_p_plus) l43 c43 k43, g__law_p_plus := PySem.W.mg_of X G a43, f__law_p_times := f44, d__law_p_times := _, F__law_p_times := fun_mk (st := s_law_p_times) l44 c44 k44, g__law_p_times := PySem.W.mg_of X G a44, f__law_scaled := f45, d__law_scaled := _, F__law_scaled := fun_mk (st := s_law_scaled) l45 c45 k45, g__law_scaled := PySem.W.mg_of X G a45, f__law_choose := f46, d__law_choose := _, F__law_choose := fun_mk (st := s_law_choose) l46 c46 k46, g__law_choose := PySem.W.mg_of X G a46, f__law_row := f47, d__law_row := _, F__law_row := fun_mk (st := s_law_row) l47 c47 k47, g__law_row := PySem.W.mg_of X G a47, f__law_interval := f48, d__law_interval := _, F__law_interval := fun_mk (st := s_law_interval) l48 c48 k48, g__law_interval := PySem.W.mg_of X G a48, f__law_unit_poly := f49, d__law_unit_poly := _, F__law_unit_poly := fun_mk (st := s_law_unit_poly) l49 c49 k49, g__law_unit_poly := PySem.W.mg_of X G a49, f__law_moved := f50, d__law_moved := _, F__law_moved := fun_mk (st := s_law_moved) l50 c50 k50, g__law_moved := PySem.W.mg_of X G a50, f__law_row_poly := f51, d__law_row_poly := _, F__law_row_poly := fun_mk (st := s_law_row_poly) l51 c51 k51, g__law_row_poly := PySem.W.mg_of X G a51, f_law := fa, d_law := _, F_law := fun_mk (st := s_law) l52 c52 k52, g_law := PySem.W.mg_of X G a52, a_ZERO := q0, g_ZERO := PySem.W.mg_of X G u0, k_ZERO := fun H => .inr ⟨_, _, _, v0, rfl, rfl, (by show 2 ≤ sizeLine; decide), .cons ⟨_, rfl⟩ (.cons ⟨_, rfl⟩ (.nil))⟩, a_ONE := q1, g_ONE := PySem.W.mg_of X G u1, k_ONE := fun H => .inr ⟨_, _, _, v1, rfl, rfl, (by show 2 ≤ sizeLine; decide), .cons ⟨_, rfl⟩ (.cons ⟨_, rfl⟩ (.nil))⟩, t_HIGHEST_POWER := tk2, g_HIGHEST_POWER := PySem.W.mg_of X G u2, t_ROW_DEGREE := tk3, g_ROW_DEGREE := PySem.W.mg_of X G u3, g_comb := PySem.W.mg_of X G b0, g_gcd := PySem.W.mg_of X G b1, n_type := PySem.W.mg_none_of X G z0, n_int := PySem.W.mg_none_of X G z1, n_tuple := PySem.W.mg_none_of X G z2, n_len := PySem.W.mg_none_of X G z3, n_all := PySem.W.mg_none_of X G z4, n_max := PySem.W.mg_none_of X G z5, n_enumerate := PySem.W.mg_none_of X G z6, n_zip := PySem.W.mg_none_of X G z7, n_range := PySem.W.mg_none_of X G z8, n_isinstance := PySem.W.mg_none_of X G z9, n_list := PySem.W.mg_none_of X G z10, n_str := PySem.W.mg_none_of X G z11, n_bool := PySem.W.mg_none_of X G z12, n_abs := PySem.W.mg_none_of X G z13 }
  exact ⟨T.d_law, fun s v => .of_eq rfl, fun base _ _ => ok_law T⟩
theorem walk {l : PySem.W.OpenLaw} {q : Program} {loose : List Str} {XP : (Str → Option Value) → Heap → Prop} {YP : World → Heap → Prop} {d : DefRec} {K : Params → PySem.W.Frag} (hn : l.most = some 63) (hdf : d.params.defaults = [])
    (hY : ∀ (w : World) (h : Heap), YP w h → (K w.params).In h)
    (F : ∀ (w : World) (mg : Str → Option Value) (fa : Addr) (h : Heap), (K w.params).In h → h.Ns mainGlobals mg → mg d.name = some (.ref fa) →
      ∃ fd : FuncData, (∀ (s : Shared) (u : Value), BindsTo s fd ⟨[u], []⟩ [("script", u)]) ∧ ∀ base : Heap, (K w.params).In base → base.Ns mainGlobals mg → FnOk l.prog w (K w.params) mg base CX0 7 fa fd ["script"] (spLaw (K w.params))) :
    PySem.W.WalkO q loose XP YP l.row.toRowW d [] (fun f vs => PySem.call f vs) :=
  L2.walk_of (n := 63) (k := 7) (x := "script") (CX := fun _ => CX0) (sp := fun w => spLaw (K w.params)) hn (by decide) hdf ⟨rfl, by decide, by decide⟩ hY F (fun _ _ a ns _ hO hS => ⟨a, ns, rfl, sc_only hO hS, fun _ => rfl⟩) fun _ _ _ _ _ z => z
end Bc
open PySem PySem.W PyProof.Rows
set_option maxRecDepth 100000 in
set_option maxHeartbeats 0 in
theorem PySem.Challenge.cw_blendcurves_k11_whole_control_rows_holds : PySem.Challenge.rw_blendcurves_k11_whole_control_rows.Holds := by
  w_on; o_law; k_head; (case hw => w_witness2)
  k_fill
  refine Bc.walk (l := PySem.Challenge.rw_blendcurves_k11_whole_control_rows) rfl rfl (fun w h Y => PySem.W.kIn_of Y) ?F
  case F =>
    intro w mg fa h KX G hmg
    refine' Bc.all_mk KX G hmg ?a0 ?l0 ?c0 ?k0 ?a1 ?l1 ?c1 ?k1 ?a2 ?l2 ?c2 ?k2 ?a3 ?l3 ?c3 ?k3 ?a4 ?l4 ?c4 ?k4 ?a5 ?l5 ?c5 ?k5 ?a6 ?l6 ?c6 ?k6 ?a7 ?l7 ?c7 ?k7 ?a8 ?l8 ?c8 ?k8 ?a9 ?l9 ?c9 ?k9 ?a10 ?l10 ?c10 ?k10 ?a11 ?l11 ?c11 ?k11 ?a12 ?l12 ?c12 ?k12 ?a13 ?l13 ?c13 ?k13 ?a14 ?l14 ?c14 ?k14 ?a15 ?l15 ?c15 ?k15 ?a16 ?l16 ?c16 ?k16 ?a17 ?l17 ?c17 ?k17 ?a18 ?l18 ?c18 ?k18 ?a19 ?l19 ?c19 ?k19 ?y19 ?a20 ?l20 ?c20 ?k20 ?a21 ?l21 ?c21 ?k21 ?a22 ?l22 ?c22 ?k22 ?a23 ?l23 ?c23 ?k23 ?a24 ?l24 ?c24 ?k24 ?a25 ?l25 ?c25 ?k25 ?a26 ?l26 ?c26 ?k26 ?a27 ?l27 ?c27 ?k27 ?a28 ?l28 ?c28 ?k28 ?a29 ?l29 ?c29 ?k29 ?a30 ?l30 ?c30 ?k30 ?a31 ?l31 ?c31 ?k31 ?a32 ?l32 ?c32 ?k32 ?a33 ?l33 ?c33 ?k33 ?a34 ?l34 ?c34 ?k34 ?a35 ?l35 ?c35 ?k35 ?a36 ?l36 ?c36 ?k36 ?a37 ?l37 ?c37 ?k37 ?a38 ?l38 ?c38 ?k38 ?a39 ?l39 ?c39 ?k39 ?a40 ?l40 ?c40 ?k40 ?a41 ?l41 ?c41 ?k41 ?a42 ?l42 ?c42 ?k42 ?a43 ?l43 ?c43 ?k43 ?a44 ?l44 ?c44 ?k44 ?a45 ?l45 ?c45 ?k45 ?a46 ?l46 ?c46 ?k46 ?a47 ?l47 ?c47 ?k47 ?a48 ?l48 ?c48 ?k48 ?a49 ?l49 ?c49 ?k49 ?a50 ?l50 ?c50 ?k50 ?a51 ?l51 ?c51 ?k51 ?a52 ?l52 ?c52 ?k52 ?u0 ?v0 ?u1 ?v1 ?u2 ?u3 ?b0 ?b1 ?z0 ?z1 ?z2 ?z3 ?z4 ?z5 ?z6 ?z7 ?z8 ?z9 ?z10 ?z11 ?z12 ?z13
    (case a0 => k_is); (case l0 => k_is); (case c0 => k_is); (case k0 => k_is)
    (case a1 => k_is); (case l1 => k_is); (case c1 => k_is); (case k1 => k_is)
    (case a2 => k_is); (case l2 => k_is); (case c2 => k_is); (case k2 => k_is)
    (case a3 => k_is); (case l3 => k_is); (case c3 => k_is); (case k3 => k_is)
    (case a4 => k_is); (case l4 => k_is); (case c4 => k_is); (case k4 => k_is)
    (case a5 => k_is); (case l5 => k_is); (case c5 => k_is); (case k5 => k_is)
    (case a6 => k_is); (case l6 => k_is); (case c6 => k_is); (case k6 => k_is)
    (case a7 => k_is); (case l7 => k_is); (case c7 => k_is); (case k7 => k_is)
    (case a8 => k_is); (case l8 => k_is); (case c8 => k_is); (case k8 => k_is)
    (case a9 => k_is); (case l9 => k_is); (case c9 => k_is); (case k9 => k_is)
    (case a10 => k_is); (case l10 => k_is); (case c10 => k_is); (case k10 => k_is)
    (case a11 => k_is); (case l11 => k_is); (case c11 => k_is); (case k11 => k_is)
    (case a12 => k_is); (case l12 => k_is); (case c12 => k_is); (case k12 => k_is)
    (case a13 => k_is); (case l13 => k_is); (case c13 => k_is); (case k13 => k_is)
    (case a14 => k_is); (case l14 => k_is); (case c14 => k_is); (case k14 => k_is)
    (case a15 => k_is); (case l15 => k_is); (case c15 => k_is); (case k15 => k_is)
    (case a16 => k_is); (case l16 => k_is); (case c16 => k_is); (case k16 => k_is)
    (case a17 => k_is); (case l17 => k_is); (case c17 => k_is); (case k17 => k_is)
    (case a18 => k_is); (case l18 => k_is); (case c18 => k_is); (case k18 => k_is)
    (case a19 => k_is); (case l19 => k_is); (case c19 => k_is); (case k19 => k_is); (case y19 => k_is)
    (case a20 => k_is); (case l20 => k_is); (case c20 => k_is); (case k20 => k_is)
    (case a21 => k_is); (case l21 => k_is); (case c21 => k_is); (case k21 => k_is)
    (case a22 => k_is); (case l22 => k_is); (case c22 => k_is); (case k22 => k_is)
    (case a23 => k_is); (case l23 => k_is); (case c23 => k_is); (case k23 => k_is)
    (case a24 => k_is); (case l24 => k_is); (case c24 => k_is); (case k24 => k_is)
    (case a25 => k_is); (case l25 => k_is); (case c25 => k_is); (case k25 => k_is)
    (case a26 => k_is); (case l26 => k_is); (case c26 => k_is); (case k26 => k_is)
    (case a27 => k_is); (case l27 => k_is); (case c27 => k_is); (case k27 => k_is)
    (case a28 => k_is); (case l28 => k_is); (case c28 => k_is); (case k28 => k_is)
    (case a29 => k_is); (case l29 => k_is); (case c29 => k_is); (case k29 => k_is)
    (case a30 => k_is); (case l30 => k_is); (case c30 => k_is); (case k30 => k_is)
    (case a31 => k_is); (case l31 => k_is); (case c31 => k_is); (case k31 => k_is)
    (case a32 => k_is); (case l32 => k_is); (case c32 => k_is); (case k32 => k_is)
    (case a33 => k_is); (case l33 => k_is); (case c33 => k_is); (case k33 => k_is)
    (case a34 => k_is); (case l34 => k_is); (case c34 => k_is); (case k34 => k_is)
    (case a35 => k_is); (case l35 => k_is); (case c35 => k_is); (case k35 => k_is)
    (case a36 => k_is); (case l36 => k_is); (case c36 => k_is); (case k36 => k_is)
    (case a37 => k_is); (case l37 => k_is); (case c37 => k_is); (case k37 => k_is)
    (case a38 => k_is); (case l38 => k_is); (case c38 => k_is); (case k38 => k_is)
    (case a39 => k_is); (case l39 => k_is); (case c39 => k_is); (case k39 => k_is)
    (case a40 => k_is); (case l40 => k_is); (case c40 => k_is); (case k40 => k_is)
    (case a41 => k_is); (case l41 => k_is); (case c41 => k_is); (case k41 => k_is)
    (case a42 => k_is); (case l42 => k_is); (case c42 => k_is); (case k42 => k_is)
    (case a43 => k_is); (case l43 => k_is); (case c43 => k_is); (case k43 => k_is)
    (case a44 => k_is); (case l44 => k_is); (case c44 => k_is); (case k44 => k_is)
    (case a45 => k_is); (case l45 => k_is); (case c45 => k_is); (case k45 => k_is)
    (case a46 => k_is); (case l46 => k_is); (case c46 => k_is); (case k46 => k_is)
    (case a47 => k_is); (case l47 => k_is); (case c47 => k_is); (case k47 => k_is)
    (case a48 => k_is); (case l48 => k_is); (case c48 => k_is); (case k48 => k_is)
    (case a49 => k_is); (case l49 => k_is); (case c49 => k_is); (case k49 => k_is)
    (case a50 => k_is); (case l50 => k_is); (case c50 => k_is); (case k50 => k_is)
    (case a51 => k_is); (case l51 => k_is); (case c51 => k_is); (case k51 => k_is)
    (case a52 => k_is); (case l52 => k_is); (case c52 => k_is); (case k52 => k_is)
    (case u0 => k_is); (case v0 => k_is)
    (case u1 => k_is); (case v1 => k_is)
    (case u2 => k_is)
    (case u3 => k_is)
    (case b0 => k_is)
    (case b1 => k_is)
    (case z0 => k_is)
    (case z1 => k_is)
    (case z2 => k_is)
    (case z3 => k_is)
    (case z4 => k_is)
    (case z5 => k_is)
    (case z6 => k_is)
    (case z7 => k_is)
    (case z8 => k_is)
    (case z9 => k_is)
    (case z10 => k_is)
    (case z11 => k_is)
    (case z12 => k_is)
    (case z13 => k_is)
