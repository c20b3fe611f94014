import PyProof.Rows.All
import Wide.All
import OpenK.AllK
import Wide.FinOn
import HandS.ForMost
import HandS.Wide
import HandS.IsInst
import PySem.Challenge.RW_ditchturn_k03_parts_compared
set_option Elab.async false
set_option linter.all false
set_option maxRecDepth 100000
set_option maxHeartbeats 4000000
namespace DT
/-! ### numbers: gcd, lowest terms -/
def gc (a b : Int) : Int := (Int.gcd a b : Int)
structure Low (a b : Int) : Prop where
  pos : 0 < b
  cop : Int.gcd a b = 1
theorem gc_pos {a b : Int} (h : 0 < b) : 0 < gc a b := by
  have : Int.gcd a b ≠ 0 := by
    intro e
    have := (Int.gcd_eq_zero_iff).1 e
    omega
  unfold gc
  omega
theorem gc_dl (a b : Int) : gc a b ∣ a := Int.gcd_dvd_left a b
theorem gc_dr (a b : Int) : gc a b ∣ b := Int.gcd_dvd_right a b
theorem gc_le {a b : Int} (h : 0 < b) : gc a b ≤ b := Int.le_of_dvd h (gc_dr a b)
theorem gc_step {a b : Int} : Int.gcd b (a % b) = Int.gcd a b := by
  rw [Int.emod_def, Int.gcd_comm a b]
  have := Int.gcd_add_mul_right_right b a (-(a / b))
  rw [← this]
  congr 1
  rw [Int.neg_mul, Int.mul_comm (a / b) b]
  omega
theorem gc_abs (a b : Int) : Int.gcd (if a < 0 then -a else a) b = Int.gcd a b := by
  split
  · exact Int.neg_gcd
  · rfl
theorem div_pos' {b g : Int} (hb : 0 < b) (hg : 0 < g) (hd : g ∣ b) : 0 < b / g := by
  obtain ⟨q, rfl⟩ := hd
  rw [Int.mul_ediv_cancel_left q (by omega)]
  exact Int.pos_of_mul_pos_right hb (by omega)
theorem low_div {a b : Int} (h : 0 < b) : Low (a / gc a b) (b / gc a b) := by
  have hg := gc_pos (a := a) h
  refine ⟨div_pos' h hg (gc_dr a b), ?_⟩
  have hn : 0 < Int.gcd a b := by
    have := hg
    unfold gc at this
    omega
  have e := Int.gcd_mul_left (gc a b) (a / gc a b) (b / gc a b)
  rw [Int.mul_ediv_cancel' (gc_dl a b), Int.mul_ediv_cancel' (gc_dr a b)] at e
  have e2 : (gc a b).natAbs = Int.gcd a b := by unfold gc; omega
  rw [e2] at e
  have : Int.gcd a b * 1 = Int.gcd a b * Int.gcd (a / gc a b) (b / gc a b) := by rw [← e, Nat.mul_one]
  exact (Nat.eq_of_mul_eq_mul_left hn this).symm
theorem low_cross (a b : Int) : (a / gc a b) * b = (b / gc a b) * a := by
  obtain ⟨p, hp⟩ := gc_dl a b
  obtain ⟨q, hq⟩ := gc_dr a b
  by_cases h0 : gc a b = 0
  · rw [h0] at hp hq
    rw [show a = 0 by omega, show b = 0 by omega]
  · have e1 : a / gc a b = p := Int.ediv_eq_of_eq_mul_right h0 hp
    have e2 : b / gc a b = q := Int.ediv_eq_of_eq_mul_right h0 hq
    rw [e1, e2]
    calc p * b = p * (gc a b * q) := by rw [← hq]
      _ = q * (gc a b * p) := by rw [Int.mul_left_comm, Int.mul_comm p q, Int.mul_left_comm q]
      _ = q * a := by rw [← hp]
theorem low_self {a b : Int} (h : Low a b) : a / gc a b = a ∧ b / gc a b = b := by
  have : gc a b = 1 := by unfold gc; rw [h.cop]; rfl
  rw [this, Int.ediv_one, Int.ediv_one]
  exact ⟨rfl, rfl⟩
theorem low_uniq {a b c d : Int} (h : Low a b) (k : Low c d) (e : a * d = c * b) : a = c ∧ b = d := by
  have h1 : b.natAbs ∣ d.natAbs := by
    have c1 : Nat.Coprime b.natAbs a.natAbs := by
      have := h.cop
      rw [Int.gcd_comm] at this
      exact this
    refine c1.dvd_of_dvd_mul_left (m := a.natAbs) (n := d.natAbs) ?_
    rw [← Int.natAbs_mul, e, Int.natAbs_mul]
    exact Nat.dvd_mul_left _ _
  have h2 : d.natAbs ∣ b.natAbs := by
    have c1 : Nat.Coprime d.natAbs c.natAbs := by
      have := k.cop
      rw [Int.gcd_comm] at this
      exact this
    refine c1.dvd_of_dvd_mul_left (m := c.natAbs) (n := b.natAbs) ?_
    rw [← Int.natAbs_mul, ← e, Int.natAbs_mul]
    exact Nat.dvd_mul_left _ _
  have hb := h.pos
  have hd := k.pos
  have e1 : b.natAbs = d.natAbs := Nat.dvd_antisymm h1 h2
  have e2 : b = d := by omega
  subst e2
  exact ⟨Int.eq_of_mul_eq_mul_right (by omega) e, rfl⟩
/-- the low form of a pair is told by any low pair worth the same -/
theorem low_is {a b c d : Int} (hd : 0 < d) (h : Low a b) (e : a * d = c * b) : a = c / gc c d ∧ b = d / gc c d := by
  refine low_uniq h (low_div hd) ?_
  obtain ⟨p, hp⟩ := gc_dl c d
  obtain ⟨q, hq⟩ := gc_dr c d
  have hg := gc_pos (a := c) hd
  have e1 : c / gc c d = p := Int.ediv_eq_of_eq_mul_right (by omega) hp
  have e2 : d / gc c d = q := Int.ediv_eq_of_eq_mul_right (by omega) hq
  rw [e1, e2]
  have e3 : gc c d * (a * q) = gc c d * (p * b) := by
    calc gc c d * (a * q) = a * (gc c d * q) := by rw [Int.mul_left_comm]
      _ = a * d := by rw [← hq]
      _ = c * b := e
      _ = gc c d * p * b := by rw [← hp]
      _ = gc c d * (p * b) := by rw [Int.mul_assoc]
  exact Int.eq_of_mul_eq_mul_left (by omega) e3
/-! ### the sum by crossing over what the bottoms share -/
theorem plus_low {a b c d : Int} (h : Low a b) (k : Low c d) :
    let s := gc b d
    let r := b / s
    let t := a * (d / s) + c * r
    let g := gc t s
    Low (t / g) (r * (d / g)) ∧ (t / g) * (b * d) = (a * d + c * b) * (r * (d / g)) := by
  intro s r t g
  have hb := h.pos
  have hd := k.pos
  have hs : 0 < s := gc_pos hd
  have hg : 0 < g := gc_pos hs
  obtain ⟨p, hp⟩ : s ∣ b := gc_dl b d
  obtain ⟨q, hq⟩ : s ∣ d := gc_dr b d
  have er : r = p := Int.ediv_eq_of_eq_mul_right (by omega) hp
  have eq : d / s = q := Int.ediv_eq_of_eq_mul_right (by omega) hq
  obtain ⟨u, hu⟩ : g ∣ t := gc_dl t s
  obtain ⟨v, hv⟩ : g ∣ s := gc_dr t s
  have eu : t / g = u := Int.ediv_eq_of_eq_mul_right (by omega) hu
  have ht : t = a * q + c * p := by
    show a * (d / s) + c * r = _
    rw [eq, er]
  have hgd : d = g * (v * q) := by rw [hq, ← Int.mul_assoc, ← hv]
  have ed : d / g = v * q := Int.ediv_eq_of_eq_mul_right (by omega) hgd
  have hp0 : 0 < p := Int.pos_of_mul_pos_right (hp ▸ hb) (by omega)
  have hq0 : 0 < q := Int.pos_of_mul_pos_right (hq ▸ hd) (by omega)
  have hv0 : 0 < v := Int.pos_of_mul_pos_right (hv ▸ hs) (by omega)
  rw [eu, er, ed]
  have cpq : Int.gcd p q = 1 := by
    have := (low_div (a := b) hd).cop
    rw [show b / gc b d = p from er, show d / gc b d = q from eq] at this
    exact this
  have cap : Nat.Coprime a.natAbs p.natAbs := by
    have c0 : Nat.Coprime a.natAbs b.natAbs := h.cop
    refine Nat.Coprime.coprime_dvd_right ?_ c0
    rw [hp, Int.natAbs_mul]
    exact Nat.dvd_mul_left _ _
  have ccq : Nat.Coprime c.natAbs q.natAbs := by
    have c0 : Nat.Coprime c.natAbs d.natAbs := k.cop
    refine Nat.Coprime.coprime_dvd_right ?_ c0
    rw [hq, Int.natAbs_mul]
    exact Nat.dvd_mul_left _ _
  have cqp : Nat.Coprime q.natAbs p.natAbs := by
    rw [Int.gcd_comm] at cpq
    exact cpq
  have ctp : Int.gcd t p = 1 := by
    rw [ht, Int.mul_comm c p, Int.gcd_add_mul_left_left]
    show Nat.Coprime (a * q).natAbs p.natAbs
    rw [Int.natAbs_mul]
    exact Nat.Coprime.mul_left cap cqp
  have ctq : Int.gcd t q = 1 := by
    rw [ht, Int.add_comm, Int.mul_comm a q, Int.gcd_add_mul_left_left]
    show Nat.Coprime (c * p).natAbs q.natAbs
    rw [Int.natAbs_mul]
    exact Nat.Coprime.mul_left ccq cpq
  have cuv : Int.gcd u v = 1 := by
    have := (low_div (a := t) hs).cop
    rw [show t / gc t s = u from eu, show s / gc t s = v from Int.ediv_eq_of_eq_mul_right (by omega) hv] at this
    exact this
  have ut : u.natAbs ∣ t.natAbs := by
    rw [hu, Int.natAbs_mul]
    exact Nat.dvd_mul_left _ _
  have cup : Nat.Coprime u.natAbs p.natAbs := Nat.Coprime.coprime_dvd_left ut ctp
  have cuq : Nat.Coprime u.natAbs q.natAbs := Nat.Coprime.coprime_dvd_left ut ctq
  refine ⟨⟨Int.mul_pos hp0 (Int.mul_pos hv0 hq0), ?_⟩, ?_⟩
  · show Nat.Coprime u.natAbs (p * (v * q)).natAbs
    rw [Int.natAbs_mul, Int.natAbs_mul]
    exact Nat.Coprime.mul_right cup (Nat.Coprime.mul_right cuv cuq)
  · have e1 : a * d + c * b = s * t := by
      rw [ht, Int.mul_add, ← Int.mul_assoc, ← Int.mul_assoc, Int.mul_comm s a, Int.mul_comm s c, Int.mul_assoc, Int.mul_assoc, ← hq, ← hp]
    rw [e1]
    calc u * (b * d) = u * ((s * p) * (g * (v * q))) := by rw [← hp, ← hgd]
      _ = s * (g * u) * (p * (v * q)) := by
        simp only [Int.mul_assoc, Int.mul_comm, Int.mul_left_comm]
      _ = s * t * (p * (v * q)) := by rw [← hu]
/-- the sum as the program reckons it is the low form of the sum by crossing -/
theorem plus_is {a b c d : Int} (h : Low a b) (k : Low c d) :
    let s := gc b d
    let r := b / s
    let t := a * (d / s) + c * r
    let g := gc t s
    t / g = (a * d + c * b) / gc (a * d + c * b) (b * d) ∧ r * (d / g) = (b * d) / gc (a * d + c * b) (b * d) := by
  intro s r t g
  obtain ⟨h1, h2⟩ := plus_low h k
  exact low_is (Int.mul_pos h.pos k.pos) h1 h2
end DT

namespace DT
open PySem PySem.Spec PyProof.Rows L2
/-! ### heaps that only grow; pairs of ints -/
theorem same_upd {H : Hp} {p : Addr} {o : HO} (h : H p = none) : Same H (upd H p o) := fun b x e => by
  rw [upd_ne (ne_of_none e h)]
  exact e
theorem same_seqT {K : PySem.W.Frag} {H H' : Hp} {a : Addr} {xs : List V} (e : Same H H') (h : SqT K H a xs) : SqT K H' a xs := by
  rcases h with h | h
  · rcases h with h | ⟨o, h⟩
    · exact .inl (.inl (e _ _ h))
    · exact .inl (.inr ⟨o, e _ _ h⟩)
  · exact .inr h
/-- v is a tuple of the ints a and b -/
def Pr (K : PySem.W.Frag) (H : Hp) (v : V) (a b : Int) : Prop := ∃ p, v = .ref p ∧ SqT K H p [.int a, .int b]
theorem Pr.same {K : PySem.W.Frag} {H H' : Hp} {v : V} {a b : Int} (h : Pr K H v a b) (e : Same H H') : Pr K H' v a b := by
  obtain ⟨p, r, q⟩ := h
  exact ⟨p, r, same_seqT e q⟩
theorem Pr.new {K : PySem.W.Frag} {H : Hp} {p : Addr} {a b : Int} : Pr K (upd H p (.tup [.int a, .int b])) (.ref p) a b := ⟨p, rfl, SqT.of upd_same⟩
theorem sqT_ty {K : PySem.W.Frag} {H : Hp} {a : Addr} {xs : List V} (h : SqT K H a xs) : TyX K H (.ref a) (.type "tuple") := by
  rcases h with (h | ⟨o, h⟩) | ⟨o, its, n, h, c, _⟩
  · exact .base (.tup h)
  · exact .fTuple h
  · exact .kTuple h c
theorem Pr.dp {K : PySem.W.Frag} {H : Hp} {v : V} {a b : Int} (h : Pr K H v a b) : Dp K H v (.tuple [.int a, .int b]) := by
  obtain ⟨p, rfl, q⟩ := h
  exact .tup q (.cons (.int a) (.cons (.int b) .nil))
/-- v is a new list of the ints rs -/
def Ls (H : Hp) (v : V) (rs : List Int) : Prop := ∃ p, v = .ref p ∧ H p = some (.lst (rs.map V.int))
theorem Ls.same {H H' : Hp} {v : V} {rs : List Int} (h : Ls H v rs) (e : Same H H') : Ls H' v rs := by
  obtain ⟨p, r, q⟩ := h
  exact ⟨p, r, e _ _ q⟩
theorem ls_at {rs : List Int} {j : Nat} (h : j < rs.length) : atI (rs.map V.int) (j : Int) = some (.int (rs.getD j 0)) := by
  refine atI_nat ?_
  rw [List.getElem?_map, List.getElem?_eq_getElem h]
  simp [List.getD, List.getElem?_eq_getElem h]
/-! ### sizes -/
def Bd (n : Nat) (x : Int) : Prop := x.natAbs < 2 ^ n
theorem Bd.mono {n m : Nat} {x : Int} (h : Bd n x) (e : n ≤ m) : Bd m x := Nat.lt_of_lt_of_le h (Nat.pow_le_pow_right (by decide) e)
theorem Bd.mul {n m : Nat} {x y : Int} (h : Bd n x) (k : Bd m y) : Bd (n + m) (x * y) := wide_lt h k
theorem Bd.add {n : Nat} {x y : Int} (h : Bd n x) (k : Bd n y) : Bd (n + 1) (x + y) := by
  unfold Bd at *
  have : (x + y).natAbs ≤ x.natAbs + y.natAbs := Int.natAbs_add_le x y
  rw [Nat.pow_succ]
  omega
theorem Bd.neg {n : Nat} {x : Int} (h : Bd n x) : Bd n (-x) := by
  unfold Bd at *
  omega
theorem Bd.dvd {n : Nat} {x y : Int} (h : Bd n x) (e : y ∣ x) (hx : x ≠ 0) : Bd n y :=
  Nat.lt_of_le_of_lt (Nat.le_of_dvd (by omega) (Int.natAbs_dvd_natAbs.2 e)) h
theorem Bd.div {n : Nat} {x y : Int} (h : Bd n x) (e : y ∣ x) : Bd n (x / y) := by
  unfold Bd at *
  rw [Int.natAbs_ediv_of_dvd e]
  exact Nat.lt_of_le_of_lt (Nat.div_le_self _ _) h
theorem Bd.gc {n : Nat} {x y : Int} (h : Bd n y) (hy : 0 < y) : Bd n (gc x y) := h.dvd (gc_dr x y) (by omega)
theorem Bd.of {n : Nat} {x m : Int} (h1 : -m < x) (h2 : x < m) (e : m.natAbs ≤ 2 ^ n) : Bd n x := by
  unfold Bd
  omega
theorem bd_mulok {n m : Nat} {x y : Int} (h : Bd n x) (k : Bd m y) (e : n + m ≤ 900000) : CMulW x y :=
  wide_mul (a := n + 1) (b := m + 1) (h.mono (by omega)) (k.mono (by omega)) (by omega) (by omega) (by omega)
theorem bd_divok {n : Nat} {x y : Int} (hy : 0 < y) (k : Bd n y) (e : n ≤ 8000) : CDivW x y := wide_div (b := n + 1) hy (k.mono (by omega)) (by omega) (by omega)
/-- a def of the text: where it stands, how it binds, what the module's name holds -/
structure Df (K : PySem.W.Frag) (mg : Str → Option Value) (x : Str) (st : Stmt) (ps : List Str) where
  f : Addr
  fd : FuncData
  F : Fun K x x st f fd
  b : Binds K fd ps []
  g : mg x = some (.ref f)
end DT
namespace DT
open PySem PySem.Spec PyProof.Rows L2
theorem ls_z {rs : List Int} {z : Int} (j : Nat) (e : z = (j : Int)) (h : j < rs.length) : atI (rs.map V.int) z = some (.int (rs.getD j 0)) := by
  rw [e]
  exact ls_at h
theorem getD_in {rs : List Int} {j : Nat} (h : j < rs.length) : rs.getD j 0 ∈ rs := by
  simp [List.getD, List.getElem?_eq_getElem h]
theorem eqv_pr (a b : Int) : PyData.eqv (.tuple [.int a, .int b]) (.tuple [.int a, .int b]) = true := by
  simp [PyData.eqv, PyData.eqvAll]
theorem shp_pr (a b : Int) : SeqAt.shaped (.tuple [.int a, .int b]) = true := by
  rfl
/-- the promise of a law: True for every script -/
def sp_law (K : PySem.W.Frag) : Sp := fun vs H Q _ => ∃ (a : Addr) (ns : List Int), vs = [.ref a] ∧ SqL K H a (ns.map V.int) ∧ ns.length ≤ 63 ∧ ∀ H', Q (.bl true) H'
end DT
namespace DT
theorem Bd.ediv {n : Nat} {x y : Int} (h : Bd n x) : Bd n (x / y) := Nat.lt_of_le_of_lt (Int.natAbs_ediv_le_natAbs x y) h
theorem Bd.emod {n : Nat} {x y : Int} (hy : 0 < y) (h : Bd n y) : Bd n (x % y) := by
  unfold Bd at *
  have := Int.emod_nonneg x (show y ≠ 0 by omega)
  have := Int.emod_lt_of_pos x hy
  omega
end DT

namespace DT
open PySem PySem.Spec PyProof.Rows L2
def sp_lowest (K : PySem.W.Frag) : Sp := fun vs H Q _ => ∃ t b : Int, vs = [.int t, .int b] ∧ 0 < b ∧ Bd 8000 b ∧ ∀ H' v, Same H H' → Pr K H' v (t / gc t b) (b / gc t b) → Q v H'
end DT

namespace DT
/-- floor and ceiling of a part in lowest terms -/
theorem fl_ce {a b : Int} (h : Low a b) : a / b * b ≤ a ∧ a ≤ -(-a / b) * b ∧ -(-a / b) - a / b = (if decide (1 < b) = true then 1 else 0) := by
  have hb := h.pos
  have e1 := Int.mul_ediv_add_emod a b
  have e2 := Int.mul_ediv_add_emod (-a) b
  have r1 := Int.emod_nonneg a (show b ≠ 0 by omega)
  have r2 := Int.emod_lt_of_pos a hb
  have s1 := Int.emod_nonneg (-a) (show b ≠ 0 by omega)
  have s2 := Int.emod_lt_of_pos (-a) hb
  have c1 : a / b * b = b * (a / b) := Int.mul_comm _ _
  have c2 : -(-a / b) * b = -(b * (-a / b)) := by rw [Int.neg_mul, Int.mul_comm]
  refine ⟨by omega, by omega, ?_⟩
  by_cases h1 : 1 < b
  · rw [if_pos (decide_eq_true h1)]
    have nd : a % b ≠ 0 := fun z => by
      have hd : b ∣ a := Int.dvd_of_emod_eq_zero z
      have hd2 : (b.natAbs) ∣ Int.gcd a b := by
        rw [Int.gcd]
        exact Nat.dvd_gcd (Int.natAbs_dvd_natAbs.2 hd) (Nat.dvd_refl _)
      rw [h.cop] at hd2
      have := Nat.le_of_dvd (by decide) hd2
      omega
    -- b * (x + y) = - (r + s), 0 < r + s < 2 b
    have e3 : b * (a / b + -a / b) = -(a % b + -a % b) := by
      rw [Int.mul_add]
      omega
    have k1 : a / b + -a / b = -1 := by
      have l1 : b * (a / b + -a / b) < 0 := by omega
      have l2 : b * (a / b + -a / b) > b * (-2) := by omega
      have l3 : a / b + -a / b > -2 := Int.lt_of_mul_lt_mul_left l2 (by omega)
      have l4 : a / b + -a / b < 0 := by
        refine Int.lt_of_mul_lt_mul_left (a := b) (b := a / b + -a / b) (c := 0) ?_ (by omega)
        rw [Int.mul_zero]
        exact l1
      omega
    omega
  · have hb1 : b = 1 := by omega
    subst hb1
    rw [Int.ediv_one, Int.ediv_one]
    show - -a - a = 0
    omega
theorem low_one (a : Int) : Low a 1 := ⟨by decide, Int.gcd_one⟩
end DT

namespace DT
open PySem PySem.Spec PyProof.Rows L2
def topS (i : Nat) : Stmt := PySem.Challenge.pw_ditchturn_k03_parts_compared.main.body.getD i (.Pass ⟨0, 0, 0, 0⟩)
abbrev s_below : Stmt := topS 1
abbrev N_below : List Str := ["a", "b"]
theorem sc_below : FnScope N_below ["a", "b"] (defScope s_below) := ⟨rfl, rfl, rfl, by decide +kernel, rfl, by decide +kernel, by decide +kernel⟩
abbrev s_floor_of : Stmt := topS 2
abbrev N_floor_of : List Str := ["a"]
theorem sc_floor_of : FnScope N_floor_of ["a"] (defScope s_floor_of) := ⟨rfl, rfl, rfl, by decide +kernel, rfl, by decide +kernel, by decide +kernel⟩
abbrev s_ceil_of : Stmt := topS 3
abbrev N_ceil_of : List Str := ["a"]
theorem sc_ceil_of : FnScope N_ceil_of ["a"] (defScope s_ceil_of) := ⟨rfl, rfl, rfl, by decide +kernel, rfl, by decide +kernel, by decide +kernel⟩
abbrev s__law_whole : Stmt := topS 6
abbrev N__law_whole : List Str := ["_law_found"]
theorem sc__law_whole : FnScope N__law_whole ["_law_found"] (defScope s__law_whole) := ⟨rfl, rfl, rfl, by decide +kernel, rfl, by decide +kernel, by decide +kernel⟩
abbrev s__law_low : Stmt := topS 7
abbrev N__law_low : List Str := ["_law_top", "_law_bottom", "_law_one", "_law_other"]
theorem sc__law_low : FnScope N__law_low ["_law_top", "_law_bottom"] (defScope s__law_low) := ⟨rfl, rfl, rfl, by decide +kernel, rfl, by decide +kernel, by decide +kernel⟩
abbrev s__law_any : Stmt := topS 8
abbrev N__law_any : List Str := ["_law_one", "_law_two", "_law_top", "_law_bottom"]
theorem sc__law_any : FnScope N__law_any ["_law_one", "_law_two"] (defScope s__law_any) := ⟨rfl, rfl, rfl, by decide +kernel, rfl, by decide +kernel, by decide +kernel⟩
abbrev s__law_flow : Stmt := topS 5
abbrev N__law_flow : List Str := ["_law_script", "_law_many", "_law_great", "_law_row", "_law_k", "_law_cell", "_law_mixed"]
theorem sc__law_flow : FnScope N__law_flow ["_law_script", "_law_many"] (defScope s__law_flow) := ⟨rfl, rfl, rfl, by decide +kernel, rfl, by decide +kernel, by decide +kernel⟩
abbrev s_law : Stmt := topS 9
abbrev N_law : List Str := ["_law_script", "_law_row", "_law_a", "_law_b", "_law_one", "_law_other", "_law_found", "_law_low_here", "_law_high"]
theorem sc_law : FnScope N_law ["_law_script"] (defScope s_law) := ⟨rfl, rfl, rfl, by decide +kernel, rfl, by decide +kernel, by decide +kernel⟩
section
variable {P : Program} {w : World} {K : PySem.W.Frag} {mg : Str → Option Value} {base : Heap}
def sp_below (K : PySem.W.Frag) : Sp := fun vs H Q _ => ∃ (v u : V) (a b c d : Int) (n : Nat), vs = [v, u] ∧ Pr K H v a b ∧ Pr K H u c d ∧ (Bd n a ∧ Bd n b ∧ Bd n c ∧ Bd n d) ∧ n ≤ 9000 ∧ Q (.bl (decide (a * d < c * b))) H
theorem ok_below {k : Nat} (D : Df K mg "below" s_below ["a", "b"]) : FnOk P w K mg base CX0 (k + 1) D.f D.fd ["a", "b"] (sp_below K) := by
  refine D.F.ok sc_below (fun vs H Q E h => ?_) (fun cdv A outer s H vs Q E hr h => ?_)
  · obtain ⟨v, u, a, b, c, d, n, rfl, _⟩ := h
    rfl
  · obtain ⟨v, u, a, b, c, d, n, rfl, ⟨p, rfl, hp⟩, ⟨r, rfl, hq⟩, ⟨b1, b2, b3, b4⟩, hn, q⟩ := h
    refine ⟨_, (pss_one (ps_ret (pe_cmpR op_lt (pe_op op_mulW (pe_ix ix_tup (pv 0) pe_int (fun _ _ => rfl)) (pe_ix ix_tup (pv 1) pe_int (fun _ _ => rfl))) (pe_op op_mulW (pe_ix ix_tup (pv 1) pe_int (fun _ _ => rfl)) (pe_ix ix_tup (pv 0) pe_int (fun _ _ => rfl))) (nomark _)))), ?_⟩
    refine ⟨_, rfl, p, _, 0, _, rfl, rfl, hp, rfl, _, rfl, r, _, 1, _, rfl, rfl, hq, rfl, _, _, rfl, rfl, bd_mulok b1 b4 (by omega), ?_⟩
    exact ⟨_, rfl, r, _, 0, _, rfl, rfl, hq, rfl, _, rfl, p, _, 1, _, rfl, rfl, hp, rfl, _, _, rfl, rfl, bd_mulok b3 b2 (by omega), _, _, rfl, rfl, q⟩

def sp_floor_of (K : PySem.W.Frag) : Sp := fun vs H Q _ => ∃ (v : V) (a b : Int), vs = [v] ∧ Pr K H v a b ∧ 0 < b ∧ Bd 8000 b ∧ Q (.int (a / b)) H
theorem ok_floor_of {k : Nat} (D : Df K mg "floor_of" s_floor_of ["a"]) : FnOk P w K mg base CX0 (k + 1) D.f D.fd ["a"] (sp_floor_of K) := by
  refine D.F.ok sc_floor_of (fun vs H Q E h => ?_) (fun cdv A outer s H vs Q E hr h => ?_)
  · obtain ⟨v, a, b, rfl, _⟩ := h
    rfl
  · obtain ⟨v, a, b, rfl, ⟨p, rfl, hp⟩, hb, hB, q⟩ := h
    refine ⟨_, (pss_one (ps_ret (pe_op op_fdivW (pe_ix ix_tup (pv 0) pe_int (fun _ _ => rfl)) (pe_ix ix_tup (pv 0) pe_int (fun _ _ => rfl))))), ?_⟩
    exact ⟨_, rfl, p, _, 0, _, rfl, rfl, hp, rfl, _, rfl, p, _, 1, _, rfl, rfl, hp, rfl, _, _, rfl, rfl, bd_divok hb hB (by decide), q⟩

def sp_ceil_of (K : PySem.W.Frag) : Sp := fun vs H Q _ => ∃ (v : V) (a b : Int), vs = [v] ∧ Pr K H v a b ∧ 0 < b ∧ Bd 8000 b ∧ Q (.int (-(-a / b))) H
theorem ok_ceil_of {k : Nat} (D : Df K mg "ceil_of" s_ceil_of ["a"]) : FnOk P w K mg base CX0 (k + 1) D.f D.fd ["a"] (sp_ceil_of K) := by
  refine D.F.ok sc_ceil_of (fun vs H Q E h => ?_) (fun cdv A outer s H vs Q E hr h => ?_)
  · obtain ⟨v, a, b, rfl, _⟩ := h
    rfl
  · obtain ⟨v, a, b, rfl, ⟨p, rfl, hp⟩, hb, hB, q⟩ := h
    refine ⟨_, (pss_one (ps_ret (pe_un un_neg (pe_op op_fdivW (pe_un un_neg (pe_ix ix_tup (pv 0) pe_int (fun _ _ => rfl))) (pe_ix ix_tup (pv 0) pe_int (fun _ _ => rfl)))))), ?_⟩
    exact ⟨_, rfl, p, _, 0, _, rfl, rfl, hp, rfl, _, rfl, _, rfl, p, _, 1, _, rfl, rfl, hp, rfl, _, _, rfl, rfl, bd_divok hb hB (by decide), _, rfl, q⟩

def sp__law_whole : Sp := fun vs H Q _ => ∃ i : Int, vs = [.int i] ∧ Q (.bl true) H
theorem ok__law_whole {k : Nat} (D : Df K mg "_law_whole" s__law_whole ["_law_found"]) (m_isinstance : mg "isinstance" = none) (m_int : mg "int" = none) (m_bool : mg "bool" = none) : FnOk P w K mg base CX0 (k + 1) D.f D.fd ["_law_found"] sp__law_whole := by
  refine D.F.ok sc__law_whole (fun vs H Q E h => ?_) (fun cdv A outer s H vs Q E hr h => ?_)
  · obtain ⟨a, rfl, _⟩ := h
    rfl
  · obtain ⟨i, rfl, q⟩ := h
    refine ⟨_, (pss_one (ps_ret (pe_and (pe_callB call_isi (by rfl) m_isinstance PyProof.Rows.boot_isinstance (pa_cons (pv 0) (pa_cons (pe_bltn (v := .ty "int") (by rfl) m_int PyProof.Rows.boot_int rfl) pa_nil))) (pe_one (pe_not (pe_callB call_isi (by rfl) m_isinstance PyProof.Rows.boot_isinstance (pa_cons (pv 0) (pa_cons (pe_bltn (v := .ty "bool") (by rfl) m_bool PyProof.Rows.boot_bool rfl) pa_nil)))))))), ?_⟩
    refine ⟨_, rfl, _, _, _, _, true, rfl, .ty "int", .base (.int i), kit_ty (by decide +kernel), true, rfl, iteT ?_⟩
    exact ⟨_, rfl, _, _, _, _, false, rfl, .ty "bool", .base (.int i), kit_ty (by decide +kernel), false, rfl, q⟩

theorem ok__law_low {k : Nat} (D : Df K mg "_law_low" s__law_low ["_law_top", "_law_bottom"]) (m_abs : mg "abs" = none) : FnOk P w K mg base CX0 (k + 1) D.f D.fd ["_law_top", "_law_bottom"] (sp_lowest K) := by
  refine D.F.ok sc__law_low (fun vs H Q E h => ?_) (fun cdv A outer s H vs Q E hr h => ?_)
  · obtain ⟨a, b, rfl, _⟩ := h
    rfl
  · obtain ⟨a, b, rfl, hb, hB, q⟩ := h
    refine ⟨_, (pss_cons (ps_set (i := 2) sc__law_low.nd rfl (.inl rfl) (pe_callB call_abs (by rfl) m_abs boot_abs (pa_cons (pv 0) pa_nil)))
      (pss_cons (ps_set (i := 3) sc__law_low.nd rfl (.inl rfl) (pv 1))
      (pss_cons (ps_while PassesOwn.never (pt_cmpR op_gt (pv 3) pe_int (nomark _)) (pss_one (ps_par (i := 2) (j := 3) (by rfl) sc__law_low.nd rfl rfl (by decide) rfl rfl (pa_cons (pv 3) (pa_cons (pe_op op_mod (pv 2) (pv 3)) pa_nil)) (by rfl))))
      (pss_one (ps_ret (pe_tup (pa_cons (pe_op op_fdivW (pv 0) (pv 2)) (pa_cons (pe_op op_fdivW (pv 1) (pv 2)) pa_nil)))))))), ?_⟩
    refine ⟨_, rfl, _, rfl, ?_⟩
    refine ⟨_, rfl, ?_⟩
    refine while_by (fun σ H' => ∃ x y : Int, σ = [some (.int a), some (.int b), some (.int x), some (.int y)] ∧ H' = H ∧ 0 ≤ y ∧ Int.gcd x y = Int.gcd a b ∧ (y = 0 → 0 ≤ x))
      (fun σ _ => match σ with | [_, _, _, some (.int y)] => y.toNat | _ => 0) ⟨_, b, rfl, rfl, by omega, gc_abs a b, by omega⟩ ?_ ?_
    · rintro σ H' ⟨x, y, rfl, rfl, h0, hg, hz⟩
      refine ⟨_, rfl, _, _, rfl, rfl, _, rfl, ite2 (fun e => ?_) (fun e => ?_)⟩
      · have e1 : 0 < y := of_decide_eq_true e
        refine ⟨_, rfl, _, rfl, _, rfl, _, _, rfl, rfl, e1, _, _, rfl, ⟨y, x % y, rfl, rfl, Int.emod_nonneg x (by omega), gc_step.trans hg, fun _ => by omega⟩, ?_⟩
        show (x % y).toNat < y.toNat
        have := Int.emod_lt_of_pos x e1
        have := Int.emod_nonneg x (show y ≠ 0 by omega)
        omega
      · have e1 : ¬ 0 < y := fun z => e (decide_eq_true z)
        have e2 : y = 0 := by omega
        subst e2
        have e3 : x = gc a b := by
          unfold gc
          rw [← hg, Int.gcd_zero]
          have := hz rfl
          omega
        subst e3
        have hg := gc_pos (a := a) hb
        have hk := hB.gc (x := a) hb
        refine ⟨_, rfl, _, rfl, _, _, rfl, rfl, bd_divok hg hk (by decide), _, rfl, _, rfl, _, _, rfl, rfl, bd_divok hg hk (by decide), (by show 2 ≤ sizeLine; decide), fun p hp => ?_⟩
        exact q _ _ (same_upd hp) Pr.new
    · rintro σ H' Q1 Q2 hq ⟨v, e, i, j, e1, e2, c, e3, r⟩
      exact ⟨v, e, i, j, e1, e2, c, e3, hq _ _ r⟩

def sp__law_any (K : PySem.W.Frag) : Sp := fun vs H Q _ => ∃ x y : Int, vs = [.int x, .int y] ∧ (0 ≤ x ∧ x < 1000000) ∧ (0 ≤ y ∧ y < 1000000) ∧ ∀ H' v a b, Same H H' → Low a b → Bd 200 a → Bd 200 b → Pr K H' v a b → Q v H'
theorem ok__law_any {k : Nat} (D : Df K mg "_law_any" s__law_any ["_law_one", "_law_two"]) (D__law_low : Df K mg "_law_low" s__law_low ["_law_top", "_law_bottom"]) (m_abs : mg "abs" = none) : FnOk P w K mg base CX0 (k + 2) D.f D.fd ["_law_one", "_law_two"] (sp__law_any K) := by
  have G__law_low : FnOk P w K mg base CX0 1 D__law_low.f D__law_low.fd ["_law_top", "_law_bottom"] (sp_lowest K) := ok__law_low D__law_low m_abs
  refine D.F.ok sc__law_any (fun vs H Q E h => ?_) (fun cdv A outer s H vs Q E hr h => ?_)
  · obtain ⟨x, y, rfl, _⟩ := h
    rfl
  · obtain ⟨x, y, rfl, hx, hy, q⟩ := h
    refine ⟨_, (pss_cons (ps_if (pt_cmpR op_eq (pe_op op_mod (pv 0) pe_int) pe_int (nomark _)) (pss_one (ps_ret (pe_tup (pa_cons pe_int (pa_cons pe_int pa_nil))))) pss_nil)
      (pss_cons (ps_set (i := 2) sc__law_any.nd rfl (.inl rfl) (pe_op op_sub (pe_op op_mod (pv 0) pe_int) pe_int))
      (pss_cons (ps_set (i := 3) sc__law_any.nd rfl (.inl rfl) (pe_op op_add pe_int (pe_op op_mod (pv 1) pe_int)))
      (pss_cons (ps_if (pt_cmpR op_eq (pe_op op_mod (pe_op op_fdivW (pv 0) pe_int) pe_int) pe_int (nomark _)) (pss_cons (ps_set (i := 2) sc__law_any.nd rfl (.inl rfl) (pe_op op_sub (pv 0) pe_int))
      (pss_one (ps_set (i := 3) sc__law_any.nd rfl (.inl rfl) (pe_op op_add pe_int (pv 1))))) pss_nil)
      (pss_cons (ps_if (pt_cmpR op_eq (pe_op op_mod (pe_op op_fdivW (pv 0) pe_int) pe_int) pe_int (nomark _)) (pss_cons (ps_set (i := 2) sc__law_any.nd rfl (.inl rfl) (pe_op op_add (pe_op op_mulW (pv 0) (pe_op op_pow pe_int pe_int)) (pv 1)))
      (pss_cons (ps_set (i := 3) sc__law_any.nd rfl (.inl rfl) (pe_op op_add (pe_op op_mulW (pv 1) (pe_op op_pow pe_int pe_int)) pe_int))
      (pss_one (ps_if (pt_cmpR op_eq (pe_op op_mod (pv 0) pe_int) pe_int (nomark _)) (pss_one (ps_set (i := 2) sc__law_any.nd rfl (.inl rfl) (pe_un un_neg (pv 2)))) pss_nil)))) pss_nil)
      (pss_one (ps_ret (pe_call G__law_low (hr.mono (by omega)) (by rfl) D__law_low.g D__law_low.F.kp D__law_low.b .nil pass0 (pa_cons (pv 2) (pa_cons (pv 3) pa_nil)))))))))), ?_⟩
    have fin : ∀ t b : Int, 0 < b → Bd 200 t → Bd 200 b → sp_lowest K [V.int t, V.int b] H Q E := fun t b hb h1 h2 =>
      ⟨t, b, rfl, hb, h2.mono (by decide), fun H' v sm pr => q H' v _ _ sm (low_div hb) (h1.div (gc_dl t b)) (h2.div (gc_dr t b)) pr⟩
    have p40 : Bd 133 ((10 : Int) ^ (40 : Int).toNat) := by unfold Bd; decide +kernel
    have p30 : Bd 133 ((10 : Int) ^ (30 : Int).toNat) := by unfold Bd; decide +kernel
    have bx : Bd 20 x := Bd.of (m := 1000000) (by omega) (by omega) (by decide)
    have by' : Bd 20 y := Bd.of (m := 1000000) (by omega) (by omega) (by decide)
    have t1 : Bd 200 (x % 41 - 20) := Bd.of (m := 1000000) (by omega) (by omega) (by decide +kernel)
    have t2 : Bd 200 (1 + y % 24) := Bd.of (m := 1000000) (by omega) (by omega) (by decide +kernel)
    have t3 : Bd 200 (x - 500000) := Bd.of (m := 10000000) (by omega) (by omega) (by decide +kernel)
    have t4 : Bd 200 (1 + y) := Bd.of (m := 10000000) (by omega) (by omega) (by decide +kernel)
    have t5 : Bd 200 (x * (10 : Int) ^ (40 : Int).toNat + y) := ((bx.mul p40).add (by'.mono (by decide))).mono (by decide)
    have t6 : Bd 200 (y * (10 : Int) ^ (30 : Int).toNat + 1) := ((by'.mul p30).add ((Bd.of (n := 20) (x := 1) (m := 1000000) (by omega) (by omega) (by decide)).mono (by decide))).mono (by decide)
    have p6 : 0 < y * (10 : Int) ^ (30 : Int).toNat + 1 := by
      have := Int.mul_nonneg hy.1 (show (0 : Int) ≤ (10 : Int) ^ (30 : Int).toNat by decide +kernel)
      omega
    have d41 : CDivW x 41 := bd_divok (n := 20) (by decide) (by unfold Bd; decide) (by decide)
    refine ⟨_, rfl, _, _, rfl, rfl, (by show (0 : Int) < _; decide), rfl, _, rfl, ite2 (fun e => ?_) (fun e => ?_)⟩
    · exact ⟨(by show 2 ≤ sizeLine; decide), fun p hp => q _ _ 0 1 (same_upd hp) ⟨by decide, rfl⟩ (by unfold Bd; decide) (by unfold Bd; decide) Pr.new⟩
    · refine ⟨_, rfl, _, _, rfl, rfl, (by show (0 : Int) < _; decide), _, _, rfl, rfl, ?_⟩
      refine ⟨_, rfl, _, _, rfl, rfl, (by show (0 : Int) < _; decide), _, _, rfl, rfl, ?_⟩
      refine ⟨_, rfl, _, _, rfl, rfl, d41, _, _, rfl, rfl, (by show (0 : Int) < _; decide), rfl, _, rfl, ite2 (fun e1 => ?_) (fun e1 => ?_)⟩
      · refine ⟨_, rfl, _, _, rfl, rfl, ?_⟩
        refine ⟨_, rfl, _, _, rfl, rfl, ?_⟩
        refine ⟨_, rfl, _, _, rfl, rfl, d41, _, _, rfl, rfl, (by show (0 : Int) < _; decide), rfl, _, rfl, ite2 (fun e2 => ?_) (fun e2 => ?_)⟩
        · refine ⟨_, rfl, _, _, rfl, rfl, ⟨by decide, by decide, by decide⟩, _, _, rfl, rfl, bd_mulok bx p40 (by decide), _, rfl, _, _, rfl, rfl, ?_⟩
          refine ⟨_, rfl, _, _, rfl, rfl, ⟨by decide, by decide, by decide⟩, _, _, rfl, rfl, bd_mulok by' p30 (by decide), _, _, rfl, rfl, ?_⟩
          refine ⟨_, rfl, _, _, rfl, rfl, (by show (0 : Int) < _; decide), rfl, _, rfl, ite2 (fun e3 => ?_) (fun e3 => ?_)⟩
          · refine ⟨_, rfl, _, rfl, ?_⟩
            exact ⟨_, rfl, _, rfl, fin _ _ p6 t5.neg t6⟩
          · exact ⟨_, rfl, _, rfl, fin _ _ p6 t5 t6⟩
        · exact ⟨_, rfl, _, rfl, fin _ _ (by omega) t3 t4⟩
      · refine ⟨_, rfl, _, _, rfl, rfl, d41, _, _, rfl, rfl, (by show (0 : Int) < _; decide), rfl, _, rfl, ite2 (fun e2 => ?_) (fun e2 => ?_)⟩
        · refine ⟨_, rfl, _, _, rfl, rfl, ⟨by decide, by decide, by decide⟩, _, _, rfl, rfl, bd_mulok bx p40 (by decide), _, rfl, _, _, rfl, rfl, ?_⟩
          refine ⟨_, rfl, _, _, rfl, rfl, ⟨by decide, by decide, by decide⟩, _, _, rfl, rfl, bd_mulok by' p30 (by decide), _, _, rfl, rfl, ?_⟩
          refine ⟨_, rfl, _, _, rfl, rfl, (by show (0 : Int) < _; decide), rfl, _, rfl, ite2 (fun e3 => ?_) (fun e3 => ?_)⟩
          · refine ⟨_, rfl, _, rfl, ?_⟩
            exact ⟨_, rfl, _, rfl, fin _ _ p6 t5.neg t6⟩
          · exact ⟨_, rfl, _, rfl, fin _ _ p6 t5 t6⟩
        · exact ⟨_, rfl, _, rfl, fin _ _ (by omega) t1 t2⟩

def rs0 (rs : List Int) (z : Int) : List Int := rs ++ [z]
def sp__law_flow (K : PySem.W.Frag) : Sp := fun vs H Q _ => ∃ (a : Addr) (ns : List Int) (m : Nat), vs = [.ref a, .int m] ∧ SqL K H a (ns.map V.int) ∧ ns.length ≤ 63 ∧ m ≤ 500 ∧
  ∀ H' v rs, Same H H' → Ls H' v rs → rs.length = m → (∀ r ∈ rs, 0 ≤ r ∧ r < 1000000) → Q v H'
theorem ok__law_flow {k : Nat} (D : Df K mg "_law_flow" s__law_flow ["_law_script", "_law_many"]) (m_abs : mg "abs" = none) (m_len : mg "len" = none) (m_range : mg "range" = none) :
    FnOk P w K mg base CX0 (k + 1) D.f D.fd ["_law_script", "_law_many"] (sp__law_flow K) := by
  refine D.F.ok sc__law_flow (fun vs H Q E h => ?_) (fun cdv A outer s H vs Q E hr h => ?_)
  · obtain ⟨a, ns, m, rfl, _⟩ := h
    rfl
  · obtain ⟨a, ns, m, rfl, hS, hlen, hm, q⟩ := h
    refine ⟨_, (pss_cons (ps_set (i := 2) sc__law_flow.nd rfl (.inl rfl) pe_int)
      (pss_cons (ps_if (PW.pt (pw_and (pt_cmpR op_gt (pe_callB call_len_seq (by rfl) m_len PySem.boot_len (pa_cons (pv 0) pa_nil)) pe_int (nomark _)) (pw_and1 (pt_cmpR op_ge (pe_callB call_abs (by rfl) m_abs boot_abs (pa_cons (pe_ix ix_list (pv 0) pe_int (fun _ _ => rfl)) pa_nil)) (pe_op op_pow pe_int pe_int) (nomark _))))) (pss_one (ps_set (i := 2) sc__law_flow.nd rfl (.inl rfl) (pe_op op_sub (pe_callB call_abs (by rfl) m_abs boot_abs (pa_cons (pe_ix ix_list (pv 0) pe_int (fun _ _ => rfl)) pa_nil)) (pe_op op_pow pe_int pe_int)))) pss_nil)
      (pss_cons (ps_set (i := 3) sc__law_flow.nd rfl (.inl rfl) (pe_lst pa_nil))
      (pss_cons (ps_for PassesOwn.never rfl (pi_range1 (by rfl) m_range (pa_cons (pv 1) pa_nil)) (pg_name (i := 4) sc__law_flow.nd rfl (.inl rfl)) (pss_one (ps_if (pt_cmpR op_gt (pv 2) pe_int (nomark _)) (pss_cons (ps_expr (pe_bm PySem.F.plainAttrs_list PySem.F.slot_list_append PySem.F.type_list_append mt_append (pv 3) (pa_cons (pe_op op_mod (pv 2) pe_int) pa_nil)))
      (pss_one (ps_set (i := 2) sc__law_flow.nd rfl (.inl rfl) (pe_op op_fdivW (pv 2) pe_int)))) (pss_cons (ps_set (i := 5) sc__law_flow.nd rfl (.inl rfl) (pe_op op_add (pv 4) pe_int))
      (pss_cons (ps_if (pt_cmpR op_gt (pe_callB call_len_seq (by rfl) m_len PySem.boot_len (pa_cons (pv 0) pa_nil)) pe_int (nomark _)) (pss_one (ps_set (i := 5) sc__law_flow.nd rfl (.inl rfl) (pe_ix ix_list (pv 0) (pe_op op_mod (pv 4) (pe_callB call_len_seq (by rfl) m_len PySem.boot_len (pa_cons (pv 0) pa_nil))) (fun _ _ => rfl)))) pss_nil)
      (pss_cons (ps_set (i := 6) sc__law_flow.nd rfl (.inl rfl) (pe_op op_mod (pe_op op_add (pe_op op_add (pe_op op_mul (pv 5) pe_int) (pe_op op_mul (pv 4) pe_int)) pe_int) pe_int))
      (pss_cons (ps_set (i := 6) sc__law_flow.nd rfl (.inl rfl) (pe_op op_mod (pe_op op_add (pe_op op_add (pe_op op_mul (pv 6) pe_int) (pe_op op_mul (pv 4) pe_int)) (pe_callB call_len_seq (by rfl) m_len PySem.boot_len (pa_cons (pv 0) pa_nil))) pe_int))
      (pss_one (ps_expr (pe_bm PySem.F.plainAttrs_list PySem.F.slot_list_append PySem.F.type_list_append mt_append (pv 3) (pa_cons (pe_op op_mod (pe_op op_fdivW (pv 6) pe_int) pe_int) pa_nil)))))))))))
      (pss_one (ps_ret (pv 3))))))), ?_⟩
    -- the loop and what follows, for any great
    have c1 : ∀ x : Int, CDivW x 1000000 := fun x => bd_divok (n := 20) (by decide) (by unfold Bd; decide) (by decide)
    have c19 : ∀ x : Int, CDivW x 19 := fun x => bd_divok (n := 20) (by decide) (by unfold Bd; decide) (by decide)
    have mk : ∀ x c : Int, -(2 ^ 64) < c → c < 2 ^ 64 → CMul x c := fun x c h1 h2 => .inr ⟨h1, h2⟩
    refine ⟨_, rfl, a, _, rfl, .inl hS, _, _, rfl, rfl, _, rfl, ite2 (fun e => ?_) (fun e => ?_)⟩
    · have hpos : 0 < ns.length := by
        have := of_decide_eq_true e
        rw [List.length_map] at this
        omega
      have g0 : atI (ns.map V.int) 0 = some (.int (ns.getD 0 0)) := ls_at (j := 0) hpos
      refine ⟨_, rfl, a, _, 0, _, rfl, rfl, hS, g0, _, rfl, _, _, rfl, rfl, ⟨by decide, by decide, by decide⟩, _, _, rfl, rfl, _, rfl, ite2 (fun e2 => ?_) (fun e2 => ?_)⟩
      · refine ⟨_, rfl, a, _, 0, _, rfl, rfl, hS, g0, _, rfl, _, _, rfl, rfl, ⟨by decide, by decide, by decide⟩, _, _, rfl, rfl, ?_⟩
        refine ⟨Nat.zero_le _, fun p hp => ?_⟩
        refine ⟨_, rfl, (m : Int), rfl, (by omega), (by omega), ?_⟩
        refine for_range (n := m) (fun i σ H3 => ∃ (g : Int) (rs : List Int) (y4 y5 y6 : Option V), σ = [some (.ref a), some (.int m), some (.int g), some (.ref p), y4, y5, y6] ∧ Same H H3 ∧ H3 p = some (.lst (rs.map V.int)) ∧ rs.length = i ∧ ∀ r ∈ rs, 0 ≤ r ∧ r < 1000000)
          ⟨_, [], _, _, _, rfl, same_upd hp, upd_same, rfl, fun r hr => nomatch hr⟩ (fun i σ H3 hi hW => ?_) (fun σ H3 hW => ?_)
        · obtain ⟨g, rs, y4, y5, y6, rfl, sm, hL, hl, hb⟩ := hW
          have hS3 := sm.seq hS
          have step : ∀ (z : Int), (0 ≤ z ∧ z < 1000000) →
              Same H (upd H3 p (.lst ((rs0 rs z).map V.int))) ∧ (upd H3 p (.lst ((rs0 rs z).map V.int))) p = some (.lst ((rs0 rs z).map V.int)) ∧ (rs0 rs z).length = i + 1 ∧ ∀ r ∈ rs0 rs z, 0 ≤ r ∧ r < 1000000 := by
            intro z hz
            refine ⟨fun b o eb => ?_, upd_same, ?_, ?_⟩
            · rw [upd_ne (ne_of_none eb hp)]
              exact sm _ _ eb
            · unfold rs0
              rw [List.length_append, hl]
              rfl
            · intro r hr
              unfold rs0 at hr
              rcases List.mem_append.1 hr with h | h
              · exact hb r h
              · rw [List.mem_singleton.1 h]
                exact hz
          have em : ∀ z : Int, (rs.map V.int) ++ [V.int z] = (rs0 rs z).map V.int := fun z => by
            unfold rs0
            rw [List.map_append]
            rfl
          have hsz : (rs.map V.int).length < sizeLine := small1000 (by rw [List.length_map]; omega)
          refine ⟨_, rfl, _, _, rfl, rfl, _, rfl, ite2 (fun e => ?_) (fun e => ?_)⟩
          · refine ⟨_, rfl, .inl ⟨rfl, _, SqL.of hL⟩, _, rfl, _, _, rfl, rfl, (by show (0 : Int) < _; decide), p, _, _, rfl, rfl, hL, hsz, ?_⟩
            rw [em]
            refine ⟨_, rfl, _, _, rfl, rfl, c1 _, ?_⟩
            exact ⟨_, _, _, _, _, rfl, step _ ⟨Int.emod_nonneg _ (by decide), Int.emod_lt_of_pos _ (by decide)⟩⟩
          · refine ⟨_, rfl, _, _, rfl, rfl, ?_⟩
            refine ⟨_, rfl, a, _, rfl, .inl hS3, _, _, rfl, rfl, _, rfl, ite2 (fun e1 => ?_) (fun e1 => ?_)⟩
            · have hpos : 0 < ns.length := by
                have := of_decide_eq_true e1
                rw [List.length_map] at this
                omega
              have hlt : i % ns.length < ns.length := Nat.mod_lt _ hpos
              have gk : atI (ns.map V.int) ((0 + (i : Int)) % ((ns.map V.int).length : Int)) = some (.int (ns.getD (i % ns.length) 0)) := by
                rw [Int.zero_add, List.length_map, ← Int.natCast_emod]
                exact ls_at hlt
              refine ⟨_, rfl, _, rfl, _, rfl, a, _, rfl, .inl hS3, _, _, rfl, rfl, (by rw [List.length_map]; omega), a, _, _, _, rfl, rfl, hS3, gk, ?_⟩
              refine ⟨_, rfl, _, _, rfl, rfl, mk _ _ (by decide) (by decide), _, rfl, _, _, rfl, rfl, mk _ _ (by decide) (by decide), _, _, rfl, rfl, _, _, rfl, rfl, _, _, rfl, rfl, (by show (0 : Int) < _; decide), ?_⟩
              refine ⟨_, rfl, _, _, rfl, rfl, mk _ _ (by decide) (by decide), _, rfl, _, _, rfl, rfl, mk _ _ (by decide) (by decide), _, _, rfl, rfl, _, rfl, a, _, rfl, .inl hS3, _, _, rfl, rfl, _, _, rfl, rfl, (by show (0 : Int) < _; decide), ?_⟩
              refine ⟨_, rfl, .inl ⟨rfl, _, SqL.of hL⟩, _, rfl, _, _, rfl, rfl, c19 _, _, _, rfl, rfl, (by show (0 : Int) < _; decide), p, _, _, rfl, rfl, hL, hsz, ?_⟩
              rw [em]
              exact ⟨_, _, _, _, _, rfl, step _ ⟨Int.emod_nonneg _ (by decide), Int.emod_lt_of_pos _ (by decide)⟩⟩
            · refine ⟨_, rfl, _, _, rfl, rfl, mk _ _ (by decide) (by decide), _, rfl, _, _, rfl, rfl, mk _ _ (by decide) (by decide), _, _, rfl, rfl, _, _, rfl, rfl, _, _, rfl, rfl, (by show (0 : Int) < _; decide), ?_⟩
              refine ⟨_, rfl, _, _, rfl, rfl, mk _ _ (by decide) (by decide), _, rfl, _, _, rfl, rfl, mk _ _ (by decide) (by decide), _, _, rfl, rfl, _, rfl, a, _, rfl, .inl hS3, _, _, rfl, rfl, _, _, rfl, rfl, (by show (0 : Int) < _; decide), ?_⟩
              refine ⟨_, rfl, .inl ⟨rfl, _, SqL.of hL⟩, _, rfl, _, _, rfl, rfl, c19 _, _, _, rfl, rfl, (by show (0 : Int) < _; decide), p, _, _, rfl, rfl, hL, hsz, ?_⟩
              rw [em]
              exact ⟨_, _, _, _, _, rfl, step _ ⟨Int.emod_nonneg _ (by decide), Int.emod_lt_of_pos _ (by decide)⟩⟩
        · obtain ⟨g, rs, y4, y5, y6, rfl, sm, hL, hl, hb⟩ := hW
          exact ⟨_, rfl, q H3 _ rs sm ⟨p, rfl, hL⟩ hl hb⟩
      · refine ⟨Nat.zero_le _, fun p hp => ?_⟩
        refine ⟨_, rfl, (m : Int), rfl, (by omega), (by omega), ?_⟩
        refine for_range (n := m) (fun i σ H3 => ∃ (g : Int) (rs : List Int) (y4 y5 y6 : Option V), σ = [some (.ref a), some (.int m), some (.int g), some (.ref p), y4, y5, y6] ∧ Same H H3 ∧ H3 p = some (.lst (rs.map V.int)) ∧ rs.length = i ∧ ∀ r ∈ rs, 0 ≤ r ∧ r < 1000000)
          ⟨_, [], _, _, _, rfl, same_upd hp, upd_same, rfl, fun r hr => nomatch hr⟩ (fun i σ H3 hi hW => ?_) (fun σ H3 hW => ?_)
        · obtain ⟨g, rs, y4, y5, y6, rfl, sm, hL, hl, hb⟩ := hW
          have hS3 := sm.seq hS
          have step : ∀ (z : Int), (0 ≤ z ∧ z < 1000000) →
              Same H (upd H3 p (.lst ((rs0 rs z).map V.int))) ∧ (upd H3 p (.lst ((rs0 rs z).map V.int))) p = some (.lst ((rs0 rs z).map V.int)) ∧ (rs0 rs z).length = i + 1 ∧ ∀ r ∈ rs0 rs z, 0 ≤ r ∧ r < 1000000 := by
            intro z hz
            refine ⟨fun b o eb => ?_, upd_same, ?_, ?_⟩
            · rw [upd_ne (ne_of_none eb hp)]
              exact sm _ _ eb
            · unfold rs0
              rw [List.length_append, hl]
              rfl
            · intro r hr
              unfold rs0 at hr
              rcases List.mem_append.1 hr with h | h
              · exact hb r h
              · rw [List.mem_singleton.1 h]
                exact hz
          have em : ∀ z : Int, (rs.map V.int) ++ [V.int z] = (rs0 rs z).map V.int := fun z => by
            unfold rs0
            rw [List.map_append]
            rfl
          have hsz : (rs.map V.int).length < sizeLine := small1000 (by rw [List.length_map]; omega)
          refine ⟨_, rfl, _, _, rfl, rfl, _, rfl, ite2 (fun e => ?_) (fun e => ?_)⟩
          · refine ⟨_, rfl, .inl ⟨rfl, _, SqL.of hL⟩, _, rfl, _, _, rfl, rfl, (by show (0 : Int) < _; decide), p, _, _, rfl, rfl, hL, hsz, ?_⟩
            rw [em]
            refine ⟨_, rfl, _, _, rfl, rfl, c1 _, ?_⟩
            exact ⟨_, _, _, _, _, rfl, step _ ⟨Int.emod_nonneg _ (by decide), Int.emod_lt_of_pos _ (by decide)⟩⟩
          · refine ⟨_, rfl, _, _, rfl, rfl, ?_⟩
            refine ⟨_, rfl, a, _, rfl, .inl hS3, _, _, rfl, rfl, _, rfl, ite2 (fun e1 => ?_) (fun e1 => ?_)⟩
            · have hpos : 0 < ns.length := by
                have := of_decide_eq_true e1
                rw [List.length_map] at this
                omega
              have hlt : i % ns.length < ns.length := Nat.mod_lt _ hpos
              have gk : atI (ns.map V.int) ((0 + (i : Int)) % ((ns.map V.int).length : Int)) = some (.int (ns.getD (i % ns.length) 0)) := by
                rw [Int.zero_add, List.length_map, ← Int.natCast_emod]
                exact ls_at hlt
              refine ⟨_, rfl, _, rfl, _, rfl, a, _, rfl, .inl hS3, _, _, rfl, rfl, (by rw [List.length_map]; omega), a, _, _, _, rfl, rfl, hS3, gk, ?_⟩
              refine ⟨_, rfl, _, _, rfl, rfl, mk _ _ (by decide) (by decide), _, rfl, _, _, rfl, rfl, mk _ _ (by decide) (by decide), _, _, rfl, rfl, _, _, rfl, rfl, _, _, rfl, rfl, (by show (0 : Int) < _; decide), ?_⟩
              refine ⟨_, rfl, _, _, rfl, rfl, mk _ _ (by decide) (by decide), _, rfl, _, _, rfl, rfl, mk _ _ (by decide) (by decide), _, _, rfl, rfl, _, rfl, a, _, rfl, .inl hS3, _, _, rfl, rfl, _, _, rfl, rfl, (by show (0 : Int) < _; decide), ?_⟩
              refine ⟨_, rfl, .inl ⟨rfl, _, SqL.of hL⟩, _, rfl, _, _, rfl, rfl, c19 _, _, _, rfl, rfl, (by show (0 : Int) < _; decide), p, _, _, rfl, rfl, hL, hsz, ?_⟩
              rw [em]
              exact ⟨_, _, _, _, _, rfl, step _ ⟨Int.emod_nonneg _ (by decide), Int.emod_lt_of_pos _ (by decide)⟩⟩
            · refine ⟨_, rfl, _, _, rfl, rfl, mk _ _ (by decide) (by decide), _, rfl, _, _, rfl, rfl, mk _ _ (by decide) (by decide), _, _, rfl, rfl, _, _, rfl, rfl, _, _, rfl, rfl, (by show (0 : Int) < _; decide), ?_⟩
              refine ⟨_, rfl, _, _, rfl, rfl, mk _ _ (by decide) (by decide), _, rfl, _, _, rfl, rfl, mk _ _ (by decide) (by decide), _, _, rfl, rfl, _, rfl, a, _, rfl, .inl hS3, _, _, rfl, rfl, _, _, rfl, rfl, (by show (0 : Int) < _; decide), ?_⟩
              refine ⟨_, rfl, .inl ⟨rfl, _, SqL.of hL⟩, _, rfl, _, _, rfl, rfl, c19 _, _, _, rfl, rfl, (by show (0 : Int) < _; decide), p, _, _, rfl, rfl, hL, hsz, ?_⟩
              rw [em]
              exact ⟨_, _, _, _, _, rfl, step _ ⟨Int.emod_nonneg _ (by decide), Int.emod_lt_of_pos _ (by decide)⟩⟩
        · obtain ⟨g, rs, y4, y5, y6, rfl, sm, hL, hl, hb⟩ := hW
          exact ⟨_, rfl, q H3 _ rs sm ⟨p, rfl, hL⟩ hl hb⟩
    · refine ⟨Nat.zero_le _, fun p hp => ?_⟩
      refine ⟨_, rfl, (m : Int), rfl, (by omega), (by omega), ?_⟩
      refine for_range (n := m) (fun i σ H3 => ∃ (g : Int) (rs : List Int) (y4 y5 y6 : Option V), σ = [some (.ref a), some (.int m), some (.int g), some (.ref p), y4, y5, y6] ∧ Same H H3 ∧ H3 p = some (.lst (rs.map V.int)) ∧ rs.length = i ∧ ∀ r ∈ rs, 0 ≤ r ∧ r < 1000000)
        ⟨_, [], _, _, _, rfl, same_upd hp, upd_same, rfl, fun r hr => nomatch hr⟩ (fun i σ H3 hi hW => ?_) (fun σ H3 hW => ?_)
      · obtain ⟨g, rs, y4, y5, y6, rfl, sm, hL, hl, hb⟩ := hW
        have hS3 := sm.seq hS
        have step : ∀ (z : Int), (0 ≤ z ∧ z < 1000000) →
            Same H (upd H3 p (.lst ((rs0 rs z).map V.int))) ∧ (upd H3 p (.lst ((rs0 rs z).map V.int))) p = some (.lst ((rs0 rs z).map V.int)) ∧ (rs0 rs z).length = i + 1 ∧ ∀ r ∈ rs0 rs z, 0 ≤ r ∧ r < 1000000 := by
          intro z hz
          refine ⟨fun b o eb => ?_, upd_same, ?_, ?_⟩
          · rw [upd_ne (ne_of_none eb hp)]
            exact sm _ _ eb
          · unfold rs0
            rw [List.length_append, hl]
            rfl
          · intro r hr
            unfold rs0 at hr
            rcases List.mem_append.1 hr with h | h
            · exact hb r h
            · rw [List.mem_singleton.1 h]
              exact hz
        have em : ∀ z : Int, (rs.map V.int) ++ [V.int z] = (rs0 rs z).map V.int := fun z => by
          unfold rs0
          rw [List.map_append]
          rfl
        have hsz : (rs.map V.int).length < sizeLine := small1000 (by rw [List.length_map]; omega)
        refine ⟨_, rfl, _, _, rfl, rfl, _, rfl, ite2 (fun e => ?_) (fun e => ?_)⟩
        · refine ⟨_, rfl, .inl ⟨rfl, _, SqL.of hL⟩, _, rfl, _, _, rfl, rfl, (by show (0 : Int) < _; decide), p, _, _, rfl, rfl, hL, hsz, ?_⟩
          rw [em]
          refine ⟨_, rfl, _, _, rfl, rfl, c1 _, ?_⟩
          exact ⟨_, _, _, _, _, rfl, step _ ⟨Int.emod_nonneg _ (by decide), Int.emod_lt_of_pos _ (by decide)⟩⟩
        · refine ⟨_, rfl, _, _, rfl, rfl, ?_⟩
          refine ⟨_, rfl, a, _, rfl, .inl hS3, _, _, rfl, rfl, _, rfl, ite2 (fun e1 => ?_) (fun e1 => ?_)⟩
          · have hpos : 0 < ns.length := by
              have := of_decide_eq_true e1
              rw [List.length_map] at this
              omega
            have hlt : i % ns.length < ns.length := Nat.mod_lt _ hpos
            have gk : atI (ns.map V.int) ((0 + (i : Int)) % ((ns.map V.int).length : Int)) = some (.int (ns.getD (i % ns.length) 0)) := by
              rw [Int.zero_add, List.length_map, ← Int.natCast_emod]
              exact ls_at hlt
            refine ⟨_, rfl, _, rfl, _, rfl, a, _, rfl, .inl hS3, _, _, rfl, rfl, (by rw [List.length_map]; omega), a, _, _, _, rfl, rfl, hS3, gk, ?_⟩
            refine ⟨_, rfl, _, _, rfl, rfl, mk _ _ (by decide) (by decide), _, rfl, _, _, rfl, rfl, mk _ _ (by decide) (by decide), _, _, rfl, rfl, _, _, rfl, rfl, _, _, rfl, rfl, (by show (0 : Int) < _; decide), ?_⟩
            refine ⟨_, rfl, _, _, rfl, rfl, mk _ _ (by decide) (by decide), _, rfl, _, _, rfl, rfl, mk _ _ (by decide) (by decide), _, _, rfl, rfl, _, rfl, a, _, rfl, .inl hS3, _, _, rfl, rfl, _, _, rfl, rfl, (by show (0 : Int) < _; decide), ?_⟩
            refine ⟨_, rfl, .inl ⟨rfl, _, SqL.of hL⟩, _, rfl, _, _, rfl, rfl, c19 _, _, _, rfl, rfl, (by show (0 : Int) < _; decide), p, _, _, rfl, rfl, hL, hsz, ?_⟩
            rw [em]
            exact ⟨_, _, _, _, _, rfl, step _ ⟨Int.emod_nonneg _ (by decide), Int.emod_lt_of_pos _ (by decide)⟩⟩
          · refine ⟨_, rfl, _, _, rfl, rfl, mk _ _ (by decide) (by decide), _, rfl, _, _, rfl, rfl, mk _ _ (by decide) (by decide), _, _, rfl, rfl, _, _, rfl, rfl, _, _, rfl, rfl, (by show (0 : Int) < _; decide), ?_⟩
            refine ⟨_, rfl, _, _, rfl, rfl, mk _ _ (by decide) (by decide), _, rfl, _, _, rfl, rfl, mk _ _ (by decide) (by decide), _, _, rfl, rfl, _, rfl, a, _, rfl, .inl hS3, _, _, rfl, rfl, _, _, rfl, rfl, (by show (0 : Int) < _; decide), ?_⟩
            refine ⟨_, rfl, .inl ⟨rfl, _, SqL.of hL⟩, _, rfl, _, _, rfl, rfl, c19 _, _, _, rfl, rfl, (by show (0 : Int) < _; decide), p, _, _, rfl, rfl, hL, hsz, ?_⟩
            rw [em]
            exact ⟨_, _, _, _, _, rfl, step _ ⟨Int.emod_nonneg _ (by decide), Int.emod_lt_of_pos _ (by decide)⟩⟩
      · obtain ⟨g, rs, y4, y5, y6, rfl, sm, hL, hl, hb⟩ := hW
        exact ⟨_, rfl, q H3 _ rs sm ⟨p, rfl, hL⟩ hl hb⟩

theorem ok_law (D : Df K mg "law" s_law ["_law_script"]) (D_below : Df K mg "below" s_below ["a", "b"]) (D_floor_of : Df K mg "floor_of" s_floor_of ["a"]) (D_ceil_of : Df K mg "ceil_of" s_ceil_of ["a"]) (D__law_flow : Df K mg "_law_flow" s__law_flow ["_law_script", "_law_many"])
    (D__law_whole : Df K mg "_law_whole" s__law_whole ["_law_found"]) (D__law_low : Df K mg "_law_low" s__law_low ["_law_top", "_law_bottom"]) (D__law_any : Df K mg "_law_any" s__law_any ["_law_one", "_law_two"])
    (m_abs : mg "abs" = none) (m_len : mg "len" = none) (m_range : mg "range" = none) (m_isinstance : mg "isinstance" = none) (m_int : mg "int" = none) (m_bool : mg "bool" = none) : FnOk P w K mg base CX0 4 D.f D.fd ["_law_script"] (sp_law K) := by
  have G_below : FnOk P w K mg base CX0 3 D_below.f D_below.fd ["a", "b"] (sp_below K) := ok_below D_below
  have G_floor_of : FnOk P w K mg base CX0 3 D_floor_of.f D_floor_of.fd ["a"] (sp_floor_of K) := ok_floor_of D_floor_of
  have G_ceil_of : FnOk P w K mg base CX0 3 D_ceil_of.f D_ceil_of.fd ["a"] (sp_ceil_of K) := ok_ceil_of D_ceil_of
  have G__law_flow : FnOk P w K mg base CX0 3 D__law_flow.f D__law_flow.fd ["_law_script", "_law_many"] (sp__law_flow K) := ok__law_flow D__law_flow m_abs m_len m_range
  have G__law_whole : FnOk P w K mg base CX0 3 D__law_whole.f D__law_whole.fd ["_law_found"] sp__law_whole := ok__law_whole D__law_whole m_isinstance m_int m_bool
  have G__law_any : FnOk P w K mg base CX0 3 D__law_any.f D__law_any.fd ["_law_one", "_law_two"] (sp__law_any K) := ok__law_any D__law_any D__law_low m_abs
  refine D.F.ok sc_law (fun vs H Q E h => ?_) (fun cdv A outer s H vs Q E hr h => ?_)
  · obtain ⟨a, ns, rfl, _⟩ := h
    rfl
  · obtain ⟨a, ns, rfl, hS, hlen, q⟩ := h
    refine ⟨_, (pss_cons (ps_set (i := 1) sc_law.nd rfl (.inl rfl) (pe_call G__law_flow (hr.mono (by omega)) (by rfl) D__law_flow.g D__law_flow.F.kp D__law_flow.b .nil pass0 (pa_cons (pv 0) (pa_cons pe_int pa_nil))))
      (pss_cons (ps_set (i := 2) sc_law.nd rfl (.inl rfl) (pe_call G__law_any (hr.mono (by omega)) (by rfl) D__law_any.g D__law_any.F.kp D__law_any.b .nil pass0 (pa_cons (pe_ix ix_list (pv 1) pe_int (fun _ _ => rfl)) (pa_cons (pe_ix ix_list (pv 1) pe_int (fun _ _ => rfl)) pa_nil))))
      (pss_cons (ps_set (i := 3) sc_law.nd rfl (.inl rfl) (pe_call G__law_any (hr.mono (by omega)) (by rfl) D__law_any.g D__law_any.F.kp D__law_any.b .nil pass0 (pa_cons (pe_ix ix_list (pv 1) pe_int (fun _ _ => rfl)) (pa_cons (pe_ix ix_list (pv 1) pe_int (fun _ _ => rfl)) pa_nil))))
      (pss_cons (ps_if (pt_cmpR op_eq (pe_op op_mod (pe_ix ix_list (pv 1) pe_int (fun _ _ => rfl)) pe_int) pe_int (nomark _)) (pss_one (ps_set (i := 3) sc_law.nd rfl (.inl rfl) (pv 2))) pss_nil)
      (pss_cons (ps_if (pt_cmpR op_eq (pe_op op_mod (pe_ix ix_list (pv 1) pe_int (fun _ _ => rfl)) pe_int) pe_int (nomark _)) (pss_one (ps_set (i := 3) sc_law.nd rfl (.inl rfl) (pe_tup (pa_cons (pe_op op_add (pe_op op_fdivW (pe_ix ix_tup (pv 2) pe_int (fun _ _ => rfl)) (pe_ix ix_tup (pv 2) pe_int (fun _ _ => rfl))) (pe_op op_mod (pe_ix ix_list (pv 1) pe_int (fun _ _ => rfl)) pe_int)) (pa_cons pe_int pa_nil))))) pss_nil)
      (pss_cons (ps_for PassesOwn.never rfl (pi_tup (pe_tup (pa_cons (pe_tup (pa_cons (pv 2) (pa_cons (pv 3) pa_nil))) (pa_cons (pe_tup (pa_cons (pv 3) (pa_cons (pv 2) pa_nil))) pa_nil)))) (pg_tup rfl (pgs_cons (pg_name (i := 4) sc_law.nd rfl (.inl rfl)) (pgs_cons (pg_name (i := 5) sc_law.nd rfl (.inl rfl)) pgs_nil))) (pss_cons (ps_set (i := 6) sc_law.nd rfl (.inl rfl) (pe_call G_below (hr.mono (by omega)) (by rfl) D_below.g D_below.F.kp D_below.b .nil pass0 (pa_cons (pv 4) (pa_cons (pv 5) pa_nil))))
      (pss_one (ps_if (PW.pt (pw_or (pt_not (pt_val (pe_callB call_isi (by rfl) m_isinstance PyProof.Rows.boot_isinstance (pa_cons (pv 6) (pa_cons (pe_bltn (v := .ty "bool") (by rfl) m_bool PyProof.Rows.boot_bool rfl) pa_nil))))) (pw_or1 (pt_cmpR op_ne (pv 6) (pe_cmpR op_lt (pe_op op_mulW (pe_ix ix_tup (pv 4) pe_int (fun _ _ => rfl)) (pe_ix ix_tup (pv 5) pe_int (fun _ _ => rfl))) (pe_op op_mulW (pe_ix ix_tup (pv 5) pe_int (fun _ _ => rfl)) (pe_ix ix_tup (pv 4) pe_int (fun _ _ => rfl))) (nomark _)) (nomark _))))) (pss_one (ps_ret pe_bl)) pss_nil))))
      (pss_cons (ps_for PassesOwn.never rfl (pi_tup (pe_tup (pa_cons (pv 2) (pa_cons (pv 3) pa_nil)))) (pg_name (i := 4) sc_law.nd rfl (.inl rfl)) (pss_cons (ps_set (i := 7) sc_law.nd rfl (.inl rfl) (pe_call G_floor_of (hr.mono (by omega)) (by rfl) D_floor_of.g D_floor_of.F.kp D_floor_of.b .nil pass0 (pa_cons (pv 4) pa_nil)))
      (pss_cons (ps_set (i := 8) sc_law.nd rfl (.inl rfl) (pe_call G_ceil_of (hr.mono (by omega)) (by rfl) D_ceil_of.g D_ceil_of.F.kp D_ceil_of.b .nil pass0 (pa_cons (pv 4) pa_nil)))
      (pss_cons (ps_if (PW.pt (pw_or (pt_not (pt_val (pe_call G__law_whole (hr.mono (by omega)) (by rfl) D__law_whole.g D__law_whole.F.kp D__law_whole.b .nil pass0 (pa_cons (pv 7) pa_nil)))) (pw_or1 (pt_not (pt_val (pe_call G__law_whole (hr.mono (by omega)) (by rfl) D__law_whole.g D__law_whole.F.kp D__law_whole.b .nil pass0 (pa_cons (pv 8) pa_nil))))))) (pss_one (ps_ret pe_bl)) pss_nil)
      (pss_one (ps_if (PW.pt (pw_or (pt_not (pt_chain op_le op_le (pe_op op_mulW (pv 7) (pe_ix ix_tup (pv 4) pe_int (fun _ _ => rfl))) (pe_ix ix_tup (pv 4) pe_int (fun _ _ => rfl)) (pe_op op_mulW (pv 8) (pe_ix ix_tup (pv 4) pe_int (fun _ _ => rfl))))) (pw_or1 (pt_cmpR op_ne (pe_op op_sub (pv 8) (pv 7)) (pe_callTy call_int1 (by rfl) m_int PyProof.Rows.boot_int (pa_cons (pe_cmpR op_gt (pe_ix ix_tup (pv 4) pe_int (fun _ _ => rfl)) pe_int (nomark _)) pa_nil)) (nomark _))))) (pss_one (ps_ret pe_bl)) pss_nil))))))
      (pss_one (ps_ret pe_bl))))))))), ?_⟩
    refine ⟨_, rfl, a, ns, 6, rfl, hS, hlen, (by decide), fun H1 v rs sm1 ls1 hl hb => ?_⟩
    obtain ⟨p, rfl, ep⟩ := ls1
    have hL1 : SqL K H1 p (rs.map V.int) := SqL.of ep
    refine ⟨_, rfl, p, _, _, _, rfl, rfl, hL1, ls_z 0 rfl (by omega), _, rfl, p, _, _, _, rfl, rfl, hL1, ls_z 1 rfl (by omega), _, _, rfl, hb _ (getD_in (by omega)), hb _ (getD_in (by omega)), fun H2 va x y sm2 low bx by' pra => ?_⟩
    have hL2 := sm2.seq hL1
    refine ⟨_, rfl, p, _, _, _, rfl, rfl, hL2, ls_z 2 rfl (by omega), _, rfl, p, _, _, _, rfl, rfl, hL2, ls_z 3 rfl (by omega), _, _, rfl, hb _ (getD_in (by omega)), hb _ (getD_in (by omega)), fun H3 vb x2 y2 sm3 low2 bx2 by2 prb => ?_⟩
    have hL := sm3.seq hL2
    have pra3 := pra.same sm3
    obtain ⟨pA, rfl, hA⟩ := pra3
    have ba : Bd 210 x := bx.mono (by decide)
    have bb : Bd 210 y := by'.mono (by decide)
    refine ⟨_, rfl, p, _, _, _, rfl, rfl, hL, ls_z 4 rfl (by omega), _, _, rfl, rfl, (by show (0 : Int) < _; decide), rfl, _, rfl, ite2 (fun e => ?_) (fun e => ?_)⟩
    · refine ⟨_, rfl, ?_⟩
      refine ⟨_, rfl, p, _, _, _, rfl, rfl, hL, ls_z 4 rfl (by omega), _, _, rfl, rfl, (by show (0 : Int) < _; decide), rfl, _, rfl, ite2 (fun e2 => ?_) (fun e2 => ?_)⟩
      · refine ⟨_, rfl, pA, _, 0, _, rfl, rfl, hA, rfl, _, rfl, pA, _, 1, _, rfl, rfl, hA, rfl, _, _, rfl, rfl, bd_divok low.pos by' (by decide), _, rfl, p, _, _, _, rfl, rfl, hL, ls_z 5 rfl (by omega), _, _, rfl, rfl, (by show (0 : Int) < _; decide), _, _, rfl, rfl, (by show 2 ≤ sizeLine; decide), fun tc htc => ?_⟩
        have prc : Pr K (upd H3 tc (.tup [.int (x / y + rs.getD 5 0 % 2), .int 1])) (.ref tc) (x / y + rs.getD 5 0 % 2) 1 := Pr.new
        have lowc := low_one (x / y + rs.getD 5 0 % 2)
        have bc : Bd 210 (x / y + rs.getD 5 0 % 2) := ((bx.ediv (y := y)).add ((Bd.emod (n := 2) (y := 2) (by decide) (by unfold Bd; decide)).mono (by decide))).mono (by decide)
        have bd : Bd 210 (1 : Int) := by unfold Bd; decide +kernel
        have hA := same_seqT (same_upd (o := .tup [.int (x / y + rs.getD 5 0 % 2), .int 1]) htc) hA
        refine ⟨_, rfl, _, rfl, (by show 2 ≤ sizeLine; decide), fun t1 h1 => ?_⟩
        refine ⟨_, rfl, _, rfl, (by show 2 ≤ sizeLine; decide), fun t2 h2 => ?_⟩
        refine ⟨(by show 2 ≤ sizeLine; decide), fun t h3 => ?_⟩
        refine ⟨t, rfl, ⟨_, SqT.of upd_same⟩, ?_⟩
        have s1 : Same (upd H3 tc (.tup [.int (x / y + rs.getD 5 0 % 2), .int 1])) (upd (upd H3 tc (.tup [.int (x / y + rs.getD 5 0 % 2), .int 1])) t1 (.tup [.ref pA, (V.ref tc)])) := same_upd h1
        have s2 : Same (upd (upd H3 tc (.tup [.int (x / y + rs.getD 5 0 % 2), .int 1])) t1 (.tup [.ref pA, (V.ref tc)])) (upd (upd (upd H3 tc (.tup [.int (x / y + rs.getD 5 0 % 2), .int 1])) t1 (.tup [.ref pA, (V.ref tc)])) t2 (.tup [(V.ref tc), .ref pA])) := same_upd h2
        have s3 : Same (upd (upd (upd H3 tc (.tup [.int (x / y + rs.getD 5 0 % 2), .int 1])) t1 (.tup [.ref pA, (V.ref tc)])) t2 (.tup [(V.ref tc), .ref pA])) (upd (upd (upd (upd H3 tc (.tup [.int (x / y + rs.getD 5 0 % 2), .int 1])) t1 (.tup [.ref pA, (V.ref tc)])) t2 (.tup [(V.ref tc), .ref pA])) t (.tup [.ref t1, .ref t2])) := same_upd h3
        have e1 := s3 _ _ (s2 _ _ upd_same)
        have e2 := s3 _ _ upd_same
        have prA : Pr K (upd H3 tc (.tup [.int (x / y + rs.getD 5 0 % 2), .int 1])) (.ref pA) x y := ⟨pA, rfl, hA⟩
        refine for_tup (xs := [.ref t1, .ref t2]) (fun i σ H' => ∃ y4 y5 y6 y7 y8, σ = [some (.ref a), some (.ref p), some (.ref pA), some (V.ref tc), y4, y5, y6, y7, y8] ∧ Same (upd (upd (upd (upd H3 tc (.tup [.int (x / y + rs.getD 5 0 % 2), .int 1])) t1 (.tup [.ref pA, (V.ref tc)])) t2 (.tup [(V.ref tc), .ref pA])) t (.tup [.ref t1, .ref t2])) H')
          ⟨_, _, _, _, _, rfl, Same.refl _⟩ (fun i σ H' _ hW => ?_) (fun i z σ H' hz hW => ?_) (fun σ H' hW => ?_)
        · obtain ⟨_, _, _, _, _, _, sm⟩ := hW
          exact same_seqT sm (SqT.of upd_same)
        · obtain ⟨y4, y5, y6, y7, y8, rfl, sm⟩ := hW
          obtain ⟨T, vo, vu, c1, d1, c2, d2, rfl, hT, pro, pru, b1, b2, b3, b4⟩ : ∃ (T : Addr) (vo vu : V) (c1 d1 c2 d2 : Int), z = .ref T ∧ H' T = some (.tup [vo, vu]) ∧ Pr K H' vo c1 d1 ∧ Pr K H' vu c2 d2 ∧ Bd 210 c1 ∧ Bd 210 d1 ∧ Bd 210 c2 ∧ Bd 210 d2 := by
            rcases i with _ | _ | i
            · exact ⟨t1, _, _, x, y, _, _, (Option.some.inj hz).symm, sm _ _ e1, prA.same (s1.trans (s2.trans (s3.trans sm))), prc.same (s1.trans (s2.trans (s3.trans sm))), ba, bb, bc, bd⟩
            · exact ⟨t2, _, _, _, _, x, y, (Option.some.inj hz).symm, sm _ _ e2, prc.same (s1.trans (s2.trans (s3.trans sm))), prA.same (s1.trans (s2.trans (s3.trans sm))), bc, bd, ba, bb⟩
            · cases hz
          refine ⟨T, [vo, vu], rfl, SqT.of hT, rfl, vo, [vu], rfl, vu, [], rfl, rfl, ?_⟩
          refine ⟨_, rfl, _, rfl, vo, vu, c1, d1, c2, d2, 210, rfl, pro, pru, ⟨b1, b2, b3, b4⟩, (by decide), ?_⟩
          obtain ⟨po, rfl, hpo⟩ := pro
          obtain ⟨pu, rfl, hpu⟩ := pru
          refine ⟨_, rfl, _, _, _, _, true, rfl, .ty "bool", .base (.bl _), kit_ty (by decide +kernel), true, rfl, iteF ?_⟩
          refine ⟨_, rfl, _, rfl, po, _, 0, _, rfl, rfl, hpo, rfl, _, rfl, pu, _, 1, _, rfl, rfl, hpu, rfl, _, _, rfl, rfl, bd_mulok b1 b4 (by decide), _, rfl, pu, _, 0, _, rfl, rfl, hpu, rfl, _, rfl, po, _, 1, _, rfl, rfl, hpo, rfl, _, _, rfl, rfl, bd_mulok b3 b2 (by decide), _, _, rfl, rfl, rfl, _, rfl, iteNS rfl ?_⟩
          exact ⟨_, _, _, _, _, rfl, sm⟩
        · obtain ⟨y4, y5, y6, y7, y8, rfl, sm⟩ := hW
          refine ⟨_, rfl, _, rfl, (by show 2 ≤ sizeLine; decide), fun t4 h4 => ?_⟩
          refine ⟨t4, rfl, ⟨_, SqT.of upd_same⟩, ?_⟩
          have s4 : Same H' (upd H' t4 (.tup [.ref pA, (V.ref tc)])) := same_upd h4
          have prA4 := prA.same (s1.trans (s2.trans (s3.trans (sm.trans s4))))
          have prc4 := prc.same (s1.trans (s2.trans (s3.trans (sm.trans s4))))
          refine for_tup (xs := [.ref pA, (V.ref tc)]) (fun i σ H'' => ∃ y4 y5 y6 y7 y8, σ = [some (.ref a), some (.ref p), some (.ref pA), some (V.ref tc), y4, y5, y6, y7, y8] ∧ Same (upd H' t4 (.tup [.ref pA, (V.ref tc)])) H'')
            ⟨_, _, _, _, _, rfl, Same.refl _⟩ (fun i σ H'' _ hW => ?_) (fun i z σ H'' hz hW => ?_) (fun σ H'' hW => ?_)
          · obtain ⟨_, _, _, _, _, _, sm5⟩ := hW
            exact same_seqT sm5 (SqT.of upd_same)
          · obtain ⟨y4, y5, y6, y7, y8, rfl, sm5⟩ := hW
            obtain ⟨c1, d1, pro, lw, b1, b2⟩ : ∃ (c1 d1 : Int), Pr K H'' z c1 d1 ∧ Low c1 d1 ∧ Bd 210 c1 ∧ Bd 210 d1 := by
              rcases i with _ | _ | i
              · rw [← (Option.some.inj hz)]
                exact ⟨x, y, prA4.same sm5, low, ba, bb⟩
              · rw [← (Option.some.inj hz)]
                exact ⟨_, _, prc4.same sm5, lowc, bc, bd⟩
              · cases hz
            obtain ⟨f1, f2, f3⟩ := fl_ce lw
            have bf : Bd 211 (c1 / d1) := b1.ediv.mono (by decide)
            have bg : Bd 211 (-(-c1 / d1)) := (b1.neg.ediv.neg).mono (by decide)
            refine ⟨_, rfl, _, _, _, rfl, pro, lw.pos, b2.mono (by decide), ?_⟩
            refine ⟨_, rfl, _, _, _, rfl, pro, lw.pos, b2.mono (by decide), ?_⟩
            obtain ⟨po, rfl, hpo⟩ := pro
            refine ⟨_, rfl, _, rfl, true, rfl, iteF ⟨_, rfl, _, rfl, true, rfl, iteF ?_⟩⟩
            refine ⟨_, rfl, _, rfl, po, _, 1, _, rfl, rfl, hpo, rfl, _, _, rfl, rfl, bd_mulok bf b2 (by decide), _, rfl, po, _, 0, _, rfl, rfl, hpo, rfl, _, _, rfl, rfl, _, rfl, ite2 (fun e => ?_) (fun e => absurd (decide_eq_true f1) e)⟩
            refine ⟨_, rfl, _, rfl, po, _, 1, _, rfl, rfl, hpo, rfl, _, _, rfl, rfl, bd_mulok bg b2 (by decide), _, _, rfl, rfl, _, rfl, iteNS f2 ?_⟩
            refine ⟨_, rfl, _, rfl, _, _, rfl, rfl, _, rfl, po, _, 1, _, rfl, rfl, hpo, rfl, _, _, rfl, rfl, .inr ⟨_, rfl, rfl, _, rfl, iteNS (congrArg V.int f3) ?_⟩⟩
            exact ⟨_, _, _, _, _, rfl, sm5⟩
          · exact q _
      · have prc : Pr K H3 (.ref pA) x y := ⟨pA, rfl, hA⟩
        have lowc := low
        have bc := ba
        have bd := bb
        refine ⟨_, rfl, _, rfl, (by show 2 ≤ sizeLine; decide), fun t1 h1 => ?_⟩
        refine ⟨_, rfl, _, rfl, (by show 2 ≤ sizeLine; decide), fun t2 h2 => ?_⟩
        refine ⟨(by show 2 ≤ sizeLine; decide), fun t h3 => ?_⟩
        refine ⟨t, rfl, ⟨_, SqT.of upd_same⟩, ?_⟩
        have s1 : Same H3 (upd H3 t1 (.tup [.ref pA, (V.ref pA)])) := same_upd h1
        have s2 : Same (upd H3 t1 (.tup [.ref pA, (V.ref pA)])) (upd (upd H3 t1 (.tup [.ref pA, (V.ref pA)])) t2 (.tup [(V.ref pA), .ref pA])) := same_upd h2
        have s3 : Same (upd (upd H3 t1 (.tup [.ref pA, (V.ref pA)])) t2 (.tup [(V.ref pA), .ref pA])) (upd (upd (upd H3 t1 (.tup [.ref pA, (V.ref pA)])) t2 (.tup [(V.ref pA), .ref pA])) t (.tup [.ref t1, .ref t2])) := same_upd h3
        have e1 := s3 _ _ (s2 _ _ upd_same)
        have e2 := s3 _ _ upd_same
        have prA : Pr K H3 (.ref pA) x y := ⟨pA, rfl, hA⟩
        refine for_tup (xs := [.ref t1, .ref t2]) (fun i σ H' => ∃ y4 y5 y6 y7 y8, σ = [some (.ref a), some (.ref p), some (.ref pA), some (V.ref pA), y4, y5, y6, y7, y8] ∧ Same (upd (upd (upd H3 t1 (.tup [.ref pA, (V.ref pA)])) t2 (.tup [(V.ref pA), .ref pA])) t (.tup [.ref t1, .ref t2])) H')
          ⟨_, _, _, _, _, rfl, Same.refl _⟩ (fun i σ H' _ hW => ?_) (fun i z σ H' hz hW => ?_) (fun σ H' hW => ?_)
        · obtain ⟨_, _, _, _, _, _, sm⟩ := hW
          exact same_seqT sm (SqT.of upd_same)
        · obtain ⟨y4, y5, y6, y7, y8, rfl, sm⟩ := hW
          obtain ⟨T, vo, vu, c1, d1, c2, d2, rfl, hT, pro, pru, b1, b2, b3, b4⟩ : ∃ (T : Addr) (vo vu : V) (c1 d1 c2 d2 : Int), z = .ref T ∧ H' T = some (.tup [vo, vu]) ∧ Pr K H' vo c1 d1 ∧ Pr K H' vu c2 d2 ∧ Bd 210 c1 ∧ Bd 210 d1 ∧ Bd 210 c2 ∧ Bd 210 d2 := by
            rcases i with _ | _ | i
            · exact ⟨t1, _, _, x, y, _, _, (Option.some.inj hz).symm, sm _ _ e1, prA.same (s1.trans (s2.trans (s3.trans sm))), prc.same (s1.trans (s2.trans (s3.trans sm))), ba, bb, bc, bd⟩
            · exact ⟨t2, _, _, _, _, x, y, (Option.some.inj hz).symm, sm _ _ e2, prc.same (s1.trans (s2.trans (s3.trans sm))), prA.same (s1.trans (s2.trans (s3.trans sm))), bc, bd, ba, bb⟩
            · cases hz
          refine ⟨T, [vo, vu], rfl, SqT.of hT, rfl, vo, [vu], rfl, vu, [], rfl, rfl, ?_⟩
          refine ⟨_, rfl, _, rfl, vo, vu, c1, d1, c2, d2, 210, rfl, pro, pru, ⟨b1, b2, b3, b4⟩, (by decide), ?_⟩
          obtain ⟨po, rfl, hpo⟩ := pro
          obtain ⟨pu, rfl, hpu⟩ := pru
          refine ⟨_, rfl, _, _, _, _, true, rfl, .ty "bool", .base (.bl _), kit_ty (by decide +kernel), true, rfl, iteF ?_⟩
          refine ⟨_, rfl, _, rfl, po, _, 0, _, rfl, rfl, hpo, rfl, _, rfl, pu, _, 1, _, rfl, rfl, hpu, rfl, _, _, rfl, rfl, bd_mulok b1 b4 (by decide), _, rfl, pu, _, 0, _, rfl, rfl, hpu, rfl, _, rfl, po, _, 1, _, rfl, rfl, hpo, rfl, _, _, rfl, rfl, bd_mulok b3 b2 (by decide), _, _, rfl, rfl, rfl, _, rfl, iteNS rfl ?_⟩
          exact ⟨_, _, _, _, _, rfl, sm⟩
        · obtain ⟨y4, y5, y6, y7, y8, rfl, sm⟩ := hW
          refine ⟨_, rfl, _, rfl, (by show 2 ≤ sizeLine; decide), fun t4 h4 => ?_⟩
          refine ⟨t4, rfl, ⟨_, SqT.of upd_same⟩, ?_⟩
          have s4 : Same H' (upd H' t4 (.tup [.ref pA, (V.ref pA)])) := same_upd h4
          have prA4 := prA.same (s1.trans (s2.trans (s3.trans (sm.trans s4))))
          have prc4 := prc.same (s1.trans (s2.trans (s3.trans (sm.trans s4))))
          refine for_tup (xs := [.ref pA, (V.ref pA)]) (fun i σ H'' => ∃ y4 y5 y6 y7 y8, σ = [some (.ref a), some (.ref p), some (.ref pA), some (V.ref pA), y4, y5, y6, y7, y8] ∧ Same (upd H' t4 (.tup [.ref pA, (V.ref pA)])) H'')
            ⟨_, _, _, _, _, rfl, Same.refl _⟩ (fun i σ H'' _ hW => ?_) (fun i z σ H'' hz hW => ?_) (fun σ H'' hW => ?_)
          · obtain ⟨_, _, _, _, _, _, sm5⟩ := hW
            exact same_seqT sm5 (SqT.of upd_same)
          · obtain ⟨y4, y5, y6, y7, y8, rfl, sm5⟩ := hW
            obtain ⟨c1, d1, pro, lw, b1, b2⟩ : ∃ (c1 d1 : Int), Pr K H'' z c1 d1 ∧ Low c1 d1 ∧ Bd 210 c1 ∧ Bd 210 d1 := by
              rcases i with _ | _ | i
              · rw [← (Option.some.inj hz)]
                exact ⟨x, y, prA4.same sm5, low, ba, bb⟩
              · rw [← (Option.some.inj hz)]
                exact ⟨_, _, prc4.same sm5, lowc, bc, bd⟩
              · cases hz
            obtain ⟨f1, f2, f3⟩ := fl_ce lw
            have bf : Bd 211 (c1 / d1) := b1.ediv.mono (by decide)
            have bg : Bd 211 (-(-c1 / d1)) := (b1.neg.ediv.neg).mono (by decide)
            refine ⟨_, rfl, _, _, _, rfl, pro, lw.pos, b2.mono (by decide), ?_⟩
            refine ⟨_, rfl, _, _, _, rfl, pro, lw.pos, b2.mono (by decide), ?_⟩
            obtain ⟨po, rfl, hpo⟩ := pro
            refine ⟨_, rfl, _, rfl, true, rfl, iteF ⟨_, rfl, _, rfl, true, rfl, iteF ?_⟩⟩
            refine ⟨_, rfl, _, rfl, po, _, 1, _, rfl, rfl, hpo, rfl, _, _, rfl, rfl, bd_mulok bf b2 (by decide), _, rfl, po, _, 0, _, rfl, rfl, hpo, rfl, _, _, rfl, rfl, _, rfl, ite2 (fun e => ?_) (fun e => absurd (decide_eq_true f1) e)⟩
            refine ⟨_, rfl, _, rfl, po, _, 1, _, rfl, rfl, hpo, rfl, _, _, rfl, rfl, bd_mulok bg b2 (by decide), _, _, rfl, rfl, _, rfl, iteNS f2 ?_⟩
            refine ⟨_, rfl, _, rfl, _, _, rfl, rfl, _, rfl, po, _, 1, _, rfl, rfl, hpo, rfl, _, _, rfl, rfl, .inr ⟨_, rfl, rfl, _, rfl, iteNS (congrArg V.int f3) ?_⟩⟩
            exact ⟨_, _, _, _, _, rfl, sm5⟩
          · exact q _
    · refine ⟨_, rfl, p, _, _, _, rfl, rfl, hL, ls_z 4 rfl (by omega), _, _, rfl, rfl, (by show (0 : Int) < _; decide), rfl, _, rfl, ite2 (fun e2 => ?_) (fun e2 => ?_)⟩
      · refine ⟨_, rfl, pA, _, 0, _, rfl, rfl, hA, rfl, _, rfl, pA, _, 1, _, rfl, rfl, hA, rfl, _, _, rfl, rfl, bd_divok low.pos by' (by decide), _, rfl, p, _, _, _, rfl, rfl, hL, ls_z 5 rfl (by omega), _, _, rfl, rfl, (by show (0 : Int) < _; decide), _, _, rfl, rfl, (by show 2 ≤ sizeLine; decide), fun tc htc => ?_⟩
        have prc : Pr K (upd H3 tc (.tup [.int (x / y + rs.getD 5 0 % 2), .int 1])) (.ref tc) (x / y + rs.getD 5 0 % 2) 1 := Pr.new
        have lowc := low_one (x / y + rs.getD 5 0 % 2)
        have bc : Bd 210 (x / y + rs.getD 5 0 % 2) := ((bx.ediv (y := y)).add ((Bd.emod (n := 2) (y := 2) (by decide) (by unfold Bd; decide)).mono (by decide))).mono (by decide)
        have bd : Bd 210 (1 : Int) := by unfold Bd; decide +kernel
        have hA := same_seqT (same_upd (o := .tup [.int (x / y + rs.getD 5 0 % 2), .int 1]) htc) hA
        refine ⟨_, rfl, _, rfl, (by show 2 ≤ sizeLine; decide), fun t1 h1 => ?_⟩
        refine ⟨_, rfl, _, rfl, (by show 2 ≤ sizeLine; decide), fun t2 h2 => ?_⟩
        refine ⟨(by show 2 ≤ sizeLine; decide), fun t h3 => ?_⟩
        refine ⟨t, rfl, ⟨_, SqT.of upd_same⟩, ?_⟩
        have s1 : Same (upd H3 tc (.tup [.int (x / y + rs.getD 5 0 % 2), .int 1])) (upd (upd H3 tc (.tup [.int (x / y + rs.getD 5 0 % 2), .int 1])) t1 (.tup [.ref pA, (V.ref tc)])) := same_upd h1
        have s2 : Same (upd (upd H3 tc (.tup [.int (x / y + rs.getD 5 0 % 2), .int 1])) t1 (.tup [.ref pA, (V.ref tc)])) (upd (upd (upd H3 tc (.tup [.int (x / y + rs.getD 5 0 % 2), .int 1])) t1 (.tup [.ref pA, (V.ref tc)])) t2 (.tup [(V.ref tc), .ref pA])) := same_upd h2
        have s3 : Same (upd (upd (upd H3 tc (.tup [.int (x / y + rs.getD 5 0 % 2), .int 1])) t1 (.tup [.ref pA, (V.ref tc)])) t2 (.tup [(V.ref tc), .ref pA])) (upd (upd (upd (upd H3 tc (.tup [.int (x / y + rs.getD 5 0 % 2), .int 1])) t1 (.tup [.ref pA, (V.ref tc)])) t2 (.tup [(V.ref tc), .ref pA])) t (.tup [.ref t1, .ref t2])) := same_upd h3
        have e1 := s3 _ _ (s2 _ _ upd_same)
        have e2 := s3 _ _ upd_same
        have prA : Pr K (upd H3 tc (.tup [.int (x / y + rs.getD 5 0 % 2), .int 1])) (.ref pA) x y := ⟨pA, rfl, hA⟩
        refine for_tup (xs := [.ref t1, .ref t2]) (fun i σ H' => ∃ y4 y5 y6 y7 y8, σ = [some (.ref a), some (.ref p), some (.ref pA), some (V.ref tc), y4, y5, y6, y7, y8] ∧ Same (upd (upd (upd (upd H3 tc (.tup [.int (x / y + rs.getD 5 0 % 2), .int 1])) t1 (.tup [.ref pA, (V.ref tc)])) t2 (.tup [(V.ref tc), .ref pA])) t (.tup [.ref t1, .ref t2])) H')
          ⟨_, _, _, _, _, rfl, Same.refl _⟩ (fun i σ H' _ hW => ?_) (fun i z σ H' hz hW => ?_) (fun σ H' hW => ?_)
        · obtain ⟨_, _, _, _, _, _, sm⟩ := hW
          exact same_seqT sm (SqT.of upd_same)
        · obtain ⟨y4, y5, y6, y7, y8, rfl, sm⟩ := hW
          obtain ⟨T, vo, vu, c1, d1, c2, d2, rfl, hT, pro, pru, b1, b2, b3, b4⟩ : ∃ (T : Addr) (vo vu : V) (c1 d1 c2 d2 : Int), z = .ref T ∧ H' T = some (.tup [vo, vu]) ∧ Pr K H' vo c1 d1 ∧ Pr K H' vu c2 d2 ∧ Bd 210 c1 ∧ Bd 210 d1 ∧ Bd 210 c2 ∧ Bd 210 d2 := by
            rcases i with _ | _ | i
            · exact ⟨t1, _, _, x, y, _, _, (Option.some.inj hz).symm, sm _ _ e1, prA.same (s1.trans (s2.trans (s3.trans sm))), prc.same (s1.trans (s2.trans (s3.trans sm))), ba, bb, bc, bd⟩
            · exact ⟨t2, _, _, _, _, x, y, (Option.some.inj hz).symm, sm _ _ e2, prc.same (s1.trans (s2.trans (s3.trans sm))), prA.same (s1.trans (s2.trans (s3.trans sm))), bc, bd, ba, bb⟩
            · cases hz
          refine ⟨T, [vo, vu], rfl, SqT.of hT, rfl, vo, [vu], rfl, vu, [], rfl, rfl, ?_⟩
          refine ⟨_, rfl, _, rfl, vo, vu, c1, d1, c2, d2, 210, rfl, pro, pru, ⟨b1, b2, b3, b4⟩, (by decide), ?_⟩
          obtain ⟨po, rfl, hpo⟩ := pro
          obtain ⟨pu, rfl, hpu⟩ := pru
          refine ⟨_, rfl, _, _, _, _, true, rfl, .ty "bool", .base (.bl _), kit_ty (by decide +kernel), true, rfl, iteF ?_⟩
          refine ⟨_, rfl, _, rfl, po, _, 0, _, rfl, rfl, hpo, rfl, _, rfl, pu, _, 1, _, rfl, rfl, hpu, rfl, _, _, rfl, rfl, bd_mulok b1 b4 (by decide), _, rfl, pu, _, 0, _, rfl, rfl, hpu, rfl, _, rfl, po, _, 1, _, rfl, rfl, hpo, rfl, _, _, rfl, rfl, bd_mulok b3 b2 (by decide), _, _, rfl, rfl, rfl, _, rfl, iteNS rfl ?_⟩
          exact ⟨_, _, _, _, _, rfl, sm⟩
        · obtain ⟨y4, y5, y6, y7, y8, rfl, sm⟩ := hW
          refine ⟨_, rfl, _, rfl, (by show 2 ≤ sizeLine; decide), fun t4 h4 => ?_⟩
          refine ⟨t4, rfl, ⟨_, SqT.of upd_same⟩, ?_⟩
          have s4 : Same H' (upd H' t4 (.tup [.ref pA, (V.ref tc)])) := same_upd h4
          have prA4 := prA.same (s1.trans (s2.trans (s3.trans (sm.trans s4))))
          have prc4 := prc.same (s1.trans (s2.trans (s3.trans (sm.trans s4))))
          refine for_tup (xs := [.ref pA, (V.ref tc)]) (fun i σ H'' => ∃ y4 y5 y6 y7 y8, σ = [some (.ref a), some (.ref p), some (.ref pA), some (V.ref tc), y4, y5, y6, y7, y8] ∧ Same (upd H' t4 (.tup [.ref pA, (V.ref tc)])) H'')
            ⟨_, _, _, _, _, rfl, Same.refl _⟩ (fun i σ H'' _ hW => ?_) (fun i z σ H'' hz hW => ?_) (fun σ H'' hW => ?_)
          · obtain ⟨_, _, _, _, _, _, sm5⟩ := hW
            exact same_seqT sm5 (SqT.of upd_same)
          · obtain ⟨y4, y5, y6, y7, y8, rfl, sm5⟩ := hW
            obtain ⟨c1, d1, pro, lw, b1, b2⟩ : ∃ (c1 d1 : Int), Pr K H'' z c1 d1 ∧ Low c1 d1 ∧ Bd 210 c1 ∧ Bd 210 d1 := by
              rcases i with _ | _ | i
              · rw [← (Option.some.inj hz)]
                exact ⟨x, y, prA4.same sm5, low, ba, bb⟩
              · rw [← (Option.some.inj hz)]
                exact ⟨_, _, prc4.same sm5, lowc, bc, bd⟩
              · cases hz
            obtain ⟨f1, f2, f3⟩ := fl_ce lw
            have bf : Bd 211 (c1 / d1) := b1.ediv.mono (by decide)
            have bg : Bd 211 (-(-c1 / d1)) := (b1.neg.ediv.neg).mono (by decide)
            refine ⟨_, rfl, _, _, _, rfl, pro, lw.pos, b2.mono (by decide), ?_⟩
            refine ⟨_, rfl, _, _, _, rfl, pro, lw.pos, b2.mono (by decide), ?_⟩
            obtain ⟨po, rfl, hpo⟩ := pro
            refine ⟨_, rfl, _, rfl, true, rfl, iteF ⟨_, rfl, _, rfl, true, rfl, iteF ?_⟩⟩
            refine ⟨_, rfl, _, rfl, po, _, 1, _, rfl, rfl, hpo, rfl, _, _, rfl, rfl, bd_mulok bf b2 (by decide), _, rfl, po, _, 0, _, rfl, rfl, hpo, rfl, _, _, rfl, rfl, _, rfl, ite2 (fun e => ?_) (fun e => absurd (decide_eq_true f1) e)⟩
            refine ⟨_, rfl, _, rfl, po, _, 1, _, rfl, rfl, hpo, rfl, _, _, rfl, rfl, bd_mulok bg b2 (by decide), _, _, rfl, rfl, _, rfl, iteNS f2 ?_⟩
            refine ⟨_, rfl, _, rfl, _, _, rfl, rfl, _, rfl, po, _, 1, _, rfl, rfl, hpo, rfl, _, _, rfl, rfl, .inr ⟨_, rfl, rfl, _, rfl, iteNS (congrArg V.int f3) ?_⟩⟩
            exact ⟨_, _, _, _, _, rfl, sm5⟩
          · exact q _
      · have prc := prb
        have lowc := low2
        have bc : Bd 210 x2 := bx2.mono (by decide)
        have bd : Bd 210 y2 := by2.mono (by decide)
        refine ⟨_, rfl, _, rfl, (by show 2 ≤ sizeLine; decide), fun t1 h1 => ?_⟩
        refine ⟨_, rfl, _, rfl, (by show 2 ≤ sizeLine; decide), fun t2 h2 => ?_⟩
        refine ⟨(by show 2 ≤ sizeLine; decide), fun t h3 => ?_⟩
        refine ⟨t, rfl, ⟨_, SqT.of upd_same⟩, ?_⟩
        have s1 : Same H3 (upd H3 t1 (.tup [.ref pA, vb])) := same_upd h1
        have s2 : Same (upd H3 t1 (.tup [.ref pA, vb])) (upd (upd H3 t1 (.tup [.ref pA, vb])) t2 (.tup [vb, .ref pA])) := same_upd h2
        have s3 : Same (upd (upd H3 t1 (.tup [.ref pA, vb])) t2 (.tup [vb, .ref pA])) (upd (upd (upd H3 t1 (.tup [.ref pA, vb])) t2 (.tup [vb, .ref pA])) t (.tup [.ref t1, .ref t2])) := same_upd h3
        have e1 := s3 _ _ (s2 _ _ upd_same)
        have e2 := s3 _ _ upd_same
        have prA : Pr K H3 (.ref pA) x y := ⟨pA, rfl, hA⟩
        refine for_tup (xs := [.ref t1, .ref t2]) (fun i σ H' => ∃ y4 y5 y6 y7 y8, σ = [some (.ref a), some (.ref p), some (.ref pA), some vb, y4, y5, y6, y7, y8] ∧ Same (upd (upd (upd H3 t1 (.tup [.ref pA, vb])) t2 (.tup [vb, .ref pA])) t (.tup [.ref t1, .ref t2])) H')
          ⟨_, _, _, _, _, rfl, Same.refl _⟩ (fun i σ H' _ hW => ?_) (fun i z σ H' hz hW => ?_) (fun σ H' hW => ?_)
        · obtain ⟨_, _, _, _, _, _, sm⟩ := hW
          exact same_seqT sm (SqT.of upd_same)
        · obtain ⟨y4, y5, y6, y7, y8, rfl, sm⟩ := hW
          obtain ⟨T, vo, vu, c1, d1, c2, d2, rfl, hT, pro, pru, b1, b2, b3, b4⟩ : ∃ (T : Addr) (vo vu : V) (c1 d1 c2 d2 : Int), z = .ref T ∧ H' T = some (.tup [vo, vu]) ∧ Pr K H' vo c1 d1 ∧ Pr K H' vu c2 d2 ∧ Bd 210 c1 ∧ Bd 210 d1 ∧ Bd 210 c2 ∧ Bd 210 d2 := by
            rcases i with _ | _ | i
            · exact ⟨t1, _, _, x, y, _, _, (Option.some.inj hz).symm, sm _ _ e1, prA.same (s1.trans (s2.trans (s3.trans sm))), prc.same (s1.trans (s2.trans (s3.trans sm))), ba, bb, bc, bd⟩
            · exact ⟨t2, _, _, _, _, x, y, (Option.some.inj hz).symm, sm _ _ e2, prc.same (s1.trans (s2.trans (s3.trans sm))), prA.same (s1.trans (s2.trans (s3.trans sm))), bc, bd, ba, bb⟩
            · cases hz
          refine ⟨T, [vo, vu], rfl, SqT.of hT, rfl, vo, [vu], rfl, vu, [], rfl, rfl, ?_⟩
          refine ⟨_, rfl, _, rfl, vo, vu, c1, d1, c2, d2, 210, rfl, pro, pru, ⟨b1, b2, b3, b4⟩, (by decide), ?_⟩
          obtain ⟨po, rfl, hpo⟩ := pro
          obtain ⟨pu, rfl, hpu⟩ := pru
          refine ⟨_, rfl, _, _, _, _, true, rfl, .ty "bool", .base (.bl _), kit_ty (by decide +kernel), true, rfl, iteF ?_⟩
          refine ⟨_, rfl, _, rfl, po, _, 0, _, rfl, rfl, hpo, rfl, _, rfl, pu, _, 1, _, rfl, rfl, hpu, rfl, _, _, rfl, rfl, bd_mulok b1 b4 (by decide), _, rfl, pu, _, 0, _, rfl, rfl, hpu, rfl, _, rfl, po, _, 1, _, rfl, rfl, hpo, rfl, _, _, rfl, rfl, bd_mulok b3 b2 (by decide), _, _, rfl, rfl, rfl, _, rfl, iteNS rfl ?_⟩
          exact ⟨_, _, _, _, _, rfl, sm⟩
        · obtain ⟨y4, y5, y6, y7, y8, rfl, sm⟩ := hW
          refine ⟨_, rfl, _, rfl, (by show 2 ≤ sizeLine; decide), fun t4 h4 => ?_⟩
          refine ⟨t4, rfl, ⟨_, SqT.of upd_same⟩, ?_⟩
          have s4 : Same H' (upd H' t4 (.tup [.ref pA, vb])) := same_upd h4
          have prA4 := prA.same (s1.trans (s2.trans (s3.trans (sm.trans s4))))
          have prc4 := prc.same (s1.trans (s2.trans (s3.trans (sm.trans s4))))
          refine for_tup (xs := [.ref pA, vb]) (fun i σ H'' => ∃ y4 y5 y6 y7 y8, σ = [some (.ref a), some (.ref p), some (.ref pA), some vb, y4, y5, y6, y7, y8] ∧ Same (upd H' t4 (.tup [.ref pA, vb])) H'')
            ⟨_, _, _, _, _, rfl, Same.refl _⟩ (fun i σ H'' _ hW => ?_) (fun i z σ H'' hz hW => ?_) (fun σ H'' hW => ?_)
          · obtain ⟨_, _, _, _, _, _, sm5⟩ := hW
            exact same_seqT sm5 (SqT.of upd_same)
          · obtain ⟨y4, y5, y6, y7, y8, rfl, sm5⟩ := hW
            obtain ⟨c1, d1, pro, lw, b1, b2⟩ : ∃ (c1 d1 : Int), Pr K H'' z c1 d1 ∧ Low c1 d1 ∧ Bd 210 c1 ∧ Bd 210 d1 := by
              rcases i with _ | _ | i
              · rw [← (Option.some.inj hz)]
                exact ⟨x, y, prA4.same sm5, low, ba, bb⟩
              · rw [← (Option.some.inj hz)]
                exact ⟨_, _, prc4.same sm5, lowc, bc, bd⟩
              · cases hz
            obtain ⟨f1, f2, f3⟩ := fl_ce lw
            have bf : Bd 211 (c1 / d1) := b1.ediv.mono (by decide)
            have bg : Bd 211 (-(-c1 / d1)) := (b1.neg.ediv.neg).mono (by decide)
            refine ⟨_, rfl, _, _, _, rfl, pro, lw.pos, b2.mono (by decide), ?_⟩
            refine ⟨_, rfl, _, _, _, rfl, pro, lw.pos, b2.mono (by decide), ?_⟩
            obtain ⟨po, rfl, hpo⟩ := pro
            refine ⟨_, rfl, _, rfl, true, rfl, iteF ⟨_, rfl, _, rfl, true, rfl, iteF ?_⟩⟩
            refine ⟨_, rfl, _, rfl, po, _, 1, _, rfl, rfl, hpo, rfl, _, _, rfl, rfl, bd_mulok bf b2 (by decide), _, rfl, po, _, 0, _, rfl, rfl, hpo, rfl, _, _, rfl, rfl, _, rfl, ite2 (fun e => ?_) (fun e => absurd (decide_eq_true f1) e)⟩
            refine ⟨_, rfl, _, rfl, po, _, 1, _, rfl, rfl, hpo, rfl, _, _, rfl, rfl, bd_mulok bg b2 (by decide), _, _, rfl, rfl, _, rfl, iteNS f2 ?_⟩
            refine ⟨_, rfl, _, rfl, _, _, rfl, rfl, _, rfl, po, _, 1, _, rfl, rfl, hpo, rfl, _, _, rfl, rfl, .inr ⟨_, rfl, rfl, _, rfl, iteNS (congrArg V.int f3) ?_⟩⟩
            exact ⟨_, _, _, _, _, rfl, sm5⟩
          · exact q _

end
theorem all_mk {l : PySem.W.OpenLaw} {w : World} {K : PySem.W.Frag} {h : Heap} {mg : Str → Option Value} {fa f0 f1 f2 f3 f4 f5 f6 f7 : Addr} (X : K.In h) (G : h.Ns mainGlobals mg) (hfa : mg "law" = some (.ref fa))
    {od0 an0 : Option Addr} {sl0 : Array (Option Value)} {oc0 kV0 dc0 pm0 cd0 ct0 : Value}
    (a0 : PySem.W.nsIn K mainGlobals "below" = some (some (.ref f0))) (l0 : K.lookup f0 = some ⟨oc0, od0, .func (PySem.W.fnOf "below" "below" (defArgs s_below) (defBody s_below) (defScope s_below) .none kV0 dc0 pm0 an0 cd0 ct0), sl0⟩) (c0 : PySem.W.codeIn K cd0 "below" = true) (k0 : PySem.W.keepIn K (.ref f0) = true)
    {od1 an1 : Option Addr} {sl1 : Array (Option Value)} {oc1 kV1 dc1 pm1 cd1 ct1 : Value}
    (a1 : PySem.W.nsIn K mainGlobals "floor_of" = some (some (.ref f1))) (l1 : K.lookup f1 = some ⟨oc1, od1, .func (PySem.W.fnOf "floor_of" "floor_of" (defArgs s_floor_of) (defBody s_floor_of) (defScope s_floor_of) .none kV1 dc1 pm1 an1 cd1 ct1), sl1⟩) (c1 : PySem.W.codeIn K cd1 "floor_of" = true) (k1 : PySem.W.keepIn K (.ref f1) = true)
    {od2 an2 : Option Addr} {sl2 : Array (Option Value)} {oc2 kV2 dc2 pm2 cd2 ct2 : Value}
    (a2 : PySem.W.nsIn K mainGlobals "ceil_of" = some (some (.ref f2))) (l2 : K.lookup f2 = some ⟨oc2, od2, .func (PySem.W.fnOf "ceil_of" "ceil_of" (defArgs s_ceil_of) (defBody s_ceil_of) (defScope s_ceil_of) .none kV2 dc2 pm2 an2 cd2 ct2), sl2⟩) (c2 : PySem.W.codeIn K cd2 "ceil_of" = true) (k2 : PySem.W.keepIn K (.ref f2) = true)
    {od3 an3 : Option Addr} {sl3 : Array (Option Value)} {oc3 kV3 dc3 pm3 cd3 ct3 : Value}
    (a3 : PySem.W.nsIn K mainGlobals "_law_whole" = some (some (.ref f3))) (l3 : K.lookup f3 = some ⟨oc3, od3, .func (PySem.W.fnOf "_law_whole" "_law_whole" (defArgs s__law_whole) (defBody s__law_whole) (defScope s__law_whole) .none kV3 dc3 pm3 an3 cd3 ct3), sl3⟩) (c3 : PySem.W.codeIn K cd3 "_law_whole" = true) (k3 : PySem.W.keepIn K (.ref f3) = true)
    {od4 an4 : Option Addr} {sl4 : Array (Option Value)} {oc4 kV4 dc4 pm4 cd4 ct4 : Value}
    (a4 : PySem.W.nsIn K mainGlobals "_law_low" = some (some (.ref f4))) (l4 : K.lookup f4 = some ⟨oc4, od4, .func (PySem.W.fnOf "_law_low" "_law_low" (defArgs s__law_low) (defBody s__law_low) (defScope s__law_low) .none kV4 dc4 pm4 an4 cd4 ct4), sl4⟩) (c4 : PySem.W.codeIn K cd4 "_law_low" = true) (k4 : PySem.W.keepIn K (.ref f4) = true)
    {od5 an5 : Option Addr} {sl5 : Array (Option Value)} {oc5 kV5 dc5 pm5 cd5 ct5 : Value}
    (a5 : PySem.W.nsIn K mainGlobals "_law_any" = some (some (.ref f5))) (l5 : K.lookup f5 = some ⟨oc5, od5, .func (PySem.W.fnOf "_law_any" "_law_any" (defArgs s__law_any) (defBody s__law_any) (defScope s__law_any) .none kV5 dc5 pm5 an5 cd5 ct5), sl5⟩) (c5 : PySem.W.codeIn K cd5 "_law_any" = true) (k5 : PySem.W.keepIn K (.ref f5) = true)
    {od6 an6 : Option Addr} {sl6 : Array (Option Value)} {oc6 kV6 dc6 pm6 cd6 ct6 : Value}
    (a6 : PySem.W.nsIn K mainGlobals "_law_flow" = some (some (.ref f6))) (l6 : K.lookup f6 = some ⟨oc6, od6, .func (PySem.W.fnOf "_law_flow" "_law_flow" (defArgs s__law_flow) (defBody s__law_flow) (defScope s__law_flow) .none kV6 dc6 pm6 an6 cd6 ct6), sl6⟩) (c6 : PySem.W.codeIn K cd6 "_law_flow" = true) (k6 : PySem.W.keepIn K (.ref f6) = true)
    {od7 an7 : Option Addr} {sl7 : Array (Option Value)} {oc7 kV7 dc7 pm7 cd7 ct7 : Value}
    (a7 : PySem.W.nsIn K mainGlobals "law" = some (some (.ref f7))) (l7 : K.lookup f7 = some ⟨oc7, od7, .func (PySem.W.fnOf "law" "law" (defArgs s_law) (defBody s_law) (defScope s_law) .none kV7 dc7 pm7 an7 cd7 ct7), sl7⟩) (c7 : PySem.W.codeIn K cd7 "law" = true) (k7 : PySem.W.keepIn K (.ref f7) = true)
    (z_isinstance : PySem.W.nsIn K mainGlobals "isinstance" = some none)
    (z_bool : PySem.W.nsIn K mainGlobals "bool" = some none)
    (z_int : PySem.W.nsIn K mainGlobals "int" = some none)
    (z_abs : PySem.W.nsIn K mainGlobals "abs" = some none)
    (z_len : PySem.W.nsIn K mainGlobals "len" = some none)
    (z_range : PySem.W.nsIn K mainGlobals "range" = some none)
    : ∃ fd : FuncData, (∀ (s : Shared) (v : Value), BindsTo s fd ⟨[v], []⟩ [("_law_script", v)]) ∧ ∀ base : Heap, K.In base → base.Ns mainGlobals mg → FnOk l.prog w K mg base CX0 4 fa fd ["_law_script"] (sp_law K) := by
  have e := hfa.symm.trans (PySem.W.mg_of X G a7)
  cases e
  have F0 := fun_mk (st := s_below) l0 c0 k0
  have D_below : Df K mg "below" s_below ["a", "b"] := ⟨f0, _, F0, F0.binds (ps := ["a", "b"]) fun _ _ _ _ _ _ us hl => match us, hl with | [_, _], _ => rfl, PySem.W.mg_of X G a0⟩
  have F1 := fun_mk (st := s_floor_of) l1 c1 k1
  have D_floor_of : Df K mg "floor_of" s_floor_of ["a"] := ⟨f1, _, F1, F1.binds (ps := ["a"]) fun _ _ _ _ _ _ us hl => match us, hl with | [_], _ => rfl, PySem.W.mg_of X G a1⟩
  have F2 := fun_mk (st := s_ceil_of) l2 c2 k2
  have D_ceil_of : Df K mg "ceil_of" s_ceil_of ["a"] := ⟨f2, _, F2, F2.binds (ps := ["a"]) fun _ _ _ _ _ _ us hl => match us, hl with | [_], _ => rfl, PySem.W.mg_of X G a2⟩
  have F3 := fun_mk (st := s__law_whole) l3 c3 k3
  have D__law_whole : Df K mg "_law_whole" s__law_whole ["_law_found"] := ⟨f3, _, F3, F3.binds (ps := ["_law_found"]) fun _ _ _ _ _ _ us hl => match us, hl with | [_], _ => rfl, PySem.W.mg_of X G a3⟩
  have F4 := fun_mk (st := s__law_low) l4 c4 k4
  have D__law_low : Df K mg "_law_low" s__law_low ["_law_top", "_law_bottom"] := ⟨f4, _, F4, F4.binds (ps := ["_law_top", "_law_bottom"]) fun _ _ _ _ _ _ us hl => match us, hl with | [_, _], _ => rfl, PySem.W.mg_of X G a4⟩
  have F5 := fun_mk (st := s__law_any) l5 c5 k5
  have D__law_any : Df K mg "_law_any" s__law_any ["_law_one", "_law_two"] := ⟨f5, _, F5, F5.binds (ps := ["_law_one", "_law_two"]) fun _ _ _ _ _ _ us hl => match us, hl with | [_, _], _ => rfl, PySem.W.mg_of X G a5⟩
  have F6 := fun_mk (st := s__law_flow) l6 c6 k6
  have D__law_flow : Df K mg "_law_flow" s__law_flow ["_law_script", "_law_many"] := ⟨f6, _, F6, F6.binds (ps := ["_law_script", "_law_many"]) fun _ _ _ _ _ _ us hl => match us, hl with | [_, _], _ => rfl, PySem.W.mg_of X G a6⟩
  have F7 := fun_mk (st := s_law) l7 c7 k7
  have m_isinstance := PySem.W.mg_none_of X G z_isinstance
  have m_bool := PySem.W.mg_none_of X G z_bool
  have m_int := PySem.W.mg_none_of X G z_int
  have m_abs := PySem.W.mg_none_of X G z_abs
  have m_len := PySem.W.mg_none_of X G z_len
  have m_range := PySem.W.mg_none_of X G z_range
  exact ⟨_, fun s v => .of_eq rfl, fun base _ _ => ok_law (P := l.prog) (w := w) (base := base) (⟨_, _, F7, F7.binds (ps := ["_law_script"]) fun _ _ _ _ _ _ us hl => match us, hl with | [_], _ => rfl, PySem.W.mg_of X G a7⟩) D_below D_floor_of D_ceil_of D__law_flow D__law_whole D__law_low D__law_any m_abs m_len m_range m_isinstance m_int m_bool⟩
end DT
open PySem PySem.W PyProof.Rows
set_option maxHeartbeats 0 in
theorem PySem.Challenge.cw_ditchturn_k03_parts_compared_holds : PySem.Challenge.rw_ditchturn_k03_parts_compared.Holds := by
  w_on; o_law; k_head; (case hw => w_witness2)
  k_fill
  refine L2.walk_of (l := PySem.Challenge.rw_ditchturn_k03_parts_compared) (n := 63) (k := 4) (x := "_law_script") (CX := fun _ => L2.CX0) (sp := fun w => DT.sp_law _) rfl (by decide) rfl ⟨rfl, by decide, by decide⟩ (fun w h Y => PySem.W.kIn_of Y) ?F (fun _ _ a ns hl _ hS => ⟨a, ns, rfl, hS, hl, fun _ => rfl⟩) (fun _ _ _ _ _ h => h)
  case F =>
    intro w mg fa h KX G hmg
    refine' DT.all_mk KX G hmg ?a0 ?l0 ?c0 ?k0 ?a1 ?l1 ?c1 ?k1 ?a2 ?l2 ?c2 ?k2 ?a3 ?l3 ?c3 ?k3 ?a4 ?l4 ?c4 ?k4 ?a5 ?l5 ?c5 ?k5 ?a6 ?l6 ?c6 ?k6 ?a7 ?l7 ?c7 ?k7 ?z_isinstance ?z_bool ?z_int ?z_abs ?z_len ?z_range
    (case a0 => k_is); (case l0 => k_is); (case c0 => k_is); (case k0 => k_is); (case a1 => k_is); (case l1 => k_is); (case c1 => k_is); (case k1 => k_is); (case a2 => k_is); (case l2 => k_is); (case c2 => k_is); (case k2 => k_is); (case a3 => k_is); (case l3 => k_is); (case c3 => k_is); (case k3 => k_is); (case a4 => k_is); (case l4 => k_is); (case c4 => k_is); (case k4 => k_is); (case a5 => k_is); (case l5 => k_is); (case c5 => k_is); (case k5 => k_is); (case a6 => k_is); (case l6 => k_is); (case c6 => k_is); (case k6 => k_is); (case a7 => k_is); (case l7 => k_is); (case c7 => k_is); (case k7 => k_is); (case z_isinstance => k_is); (case z_bool => k_is); (case z_int => k_is); (case z_abs => k_is); (case z_len => k_is); (case z_range => k_is)
