import PyProof.Rows.All
import Wide.All
import OpenK.AllK
import Wide.FinOn
import HandS.ForMost
import HandS.Wide
import HandS.IsInst
import HandS.Walk
import HandS.Codes
import PySem.Challenge.RW_ditchturn_k10_one_hour_dealt
set_option Elab.async false
set_option linter.all false
set_option maxRecDepth 100000
set_option maxHeartbeats 4000000
namespace DT
/-! ### numbers: gcd, lowest terms -/
def gc (a b : Int) : Int := (Int.gcd a b : Int)
structure Low (a b : Int) : Prop where
  pos : 0 < b
  cop : Int.gcd a b = 1
theorem gc_pos {a b : Int} (h : 0 < b) : 0 < gc a b := by
  have : Int.gcd a b ≠ 0 := by
    intro e
    have := (Int.gcd_eq_zero_iff).1 e
    omega
  unfold gc
  omega
theorem gc_dl (a b : Int) : gc a b ∣ a := Int.gcd_dvd_left a b
theorem gc_dr (a b : Int) : gc a b ∣ b := Int.gcd_dvd_right a b
theorem gc_le {a b : Int} (h : 0 < b) : gc a b ≤ b := Int.le_of_dvd h (gc_dr a b)
theorem gc_step {a b : Int} : Int.gcd b (a % b) = Int.gcd a b := by
  rw [Int.emod_def, Int.gcd_comm a b]
  have := Int.gcd_add_mul_right_right b a (-(a / b))
  rw [← this]
  congr 1
  rw [Int.neg_mul, Int.mul_comm (a / b) b]
  omega
theorem gc_abs (a b : Int) : Int.gcd (if a < 0 then -a else a) b = Int.gcd a b := by
  split
  · exact Int.neg_gcd
  · rfl
theorem div_pos' {b g : Int} (hb : 0 < b) (hg : 0 < g) (hd : g ∣ b) : 0 < b / g := by
  obtain ⟨q, rfl⟩ := hd
  rw [Int.mul_ediv_cancel_left q (by omega)]
  exact Int.pos_of_mul_pos_right hb (by omega)
theorem low_div {a b : Int} (h : 0 < b) : Low (a / gc a b) (b / gc a b) := by
  have hg := gc_pos (a := a) h
  refine ⟨div_pos' h hg (gc_dr a b), ?_⟩
  have hn : 0 < Int.gcd a b := by
    have := hg
    unfold gc at this
    omega
  have e := Int.gcd_mul_left (gc a b) (a / gc a b) (b / gc a b)
  rw [Int.mul_ediv_cancel' (gc_dl a b), Int.mul_ediv_cancel' (gc_dr a b)] at e
  have e2 : (gc a b).natAbs = Int.gcd a b := by unfold gc; omega
  rw [e2] at e
  have : Int.gcd a b * 1 = Int.gcd a b * Int.gcd (a / gc a b) (b / gc a b) := by rw [← e, Nat.mul_one]
  exact (Nat.eq_of_mul_eq_mul_left hn this).symm
theorem low_cross (a b : Int) : (a / gc a b) * b = (b / gc a b) * a := by
  obtain ⟨p, hp⟩ := gc_dl a b
  obtain ⟨q, hq⟩ := gc_dr a b
  by_cases h0 : gc a b = 0
  · rw [h0] at hp hq
    rw [show a = 0 by omega, show b = 0 by omega]
  · have e1 : a / gc a b = p := Int.ediv_eq_of_eq_mul_right h0 hp
    have e2 : b / gc a b = q := Int.ediv_eq_of_eq_mul_right h0 hq
    rw [e1, e2]
    calc p * b = p * (gc a b * q) := by rw [← hq]
      _ = q * (gc a b * p) := by rw [Int.mul_left_comm, Int.mul_comm p q, Int.mul_left_comm q]
      _ = q * a := by rw [← hp]
theorem low_self {a b : Int} (h : Low a b) : a / gc a b = a ∧ b / gc a b = b := by
  have : gc a b = 1 := by unfold gc; rw [h.cop]; rfl
  rw [this, Int.ediv_one, Int.ediv_one]
  exact ⟨rfl, rfl⟩
theorem low_uniq {a b c d : Int} (h : Low a b) (k : Low c d) (e : a * d = c * b) : a = c ∧ b = d := by
  have h1 : b.natAbs ∣ d.natAbs := by
    have c1 : Nat.Coprime b.natAbs a.natAbs := by
      have := h.cop
      rw [Int.gcd_comm] at this
      exact this
    refine c1.dvd_of_dvd_mul_left (m := a.natAbs) (n := d.natAbs) ?_
    rw [← Int.natAbs_mul, e, Int.natAbs_mul]
    exact Nat.dvd_mul_left _ _
  have h2 : d.natAbs ∣ b.natAbs := by
    have c1 : Nat.Coprime d.natAbs c.natAbs := by
      have := k.cop
      rw [Int.gcd_comm] at this
      exact this
    refine c1.dvd_of_dvd_mul_left (m := c.natAbs) (n := b.natAbs) ?_
    rw [← Int.natAbs_mul, ← e, Int.natAbs_mul]
    exact Nat.dvd_mul_left _ _
  have hb := h.pos
  have hd := k.pos
  have e1 : b.natAbs = d.natAbs := Nat.dvd_antisymm h1 h2
  have e2 : b = d := by omega
  subst e2
  exact ⟨Int.eq_of_mul_eq_mul_right (by omega) e, rfl⟩
/-- the low form of a pair is told by any low pair worth the same -/
theorem low_is {a b c d : Int} (hd : 0 < d) (h : Low a b) (e : a * d = c * b) : a = c / gc c d ∧ b = d / gc c d := by
  refine low_uniq h (low_div hd) ?_
  obtain ⟨p, hp⟩ := gc_dl c d
  obtain ⟨q, hq⟩ := gc_dr c d
  have hg := gc_pos (a := c) hd
  have e1 : c / gc c d = p := Int.ediv_eq_of_eq_mul_right (by omega) hp
  have e2 : d / gc c d = q := Int.ediv_eq_of_eq_mul_right (by omega) hq
  rw [e1, e2]
  have e3 : gc c d * (a * q) = gc c d * (p * b) := by
    calc gc c d * (a * q) = a * (gc c d * q) := by rw [Int.mul_left_comm]
      _ = a * d := by rw [← hq]
      _ = c * b := e
      _ = gc c d * p * b := by rw [← hp]
      _ = gc c d * (p * b) := by rw [Int.mul_assoc]
  exact Int.eq_of_mul_eq_mul_left (by omega) e3
/-! ### the sum by crossing over what the bottoms share -/
theorem plus_low {a b c d : Int} (h : Low a b) (k : Low c d) :
    let s := gc b d
    let r := b / s
    let t := a * (d / s) + c * r
    let g := gc t s
    Low (t / g) (r * (d / g)) ∧ (t / g) * (b * d) = (a * d + c * b) * (r * (d / g)) := by
  intro s r t g
  have hb := h.pos
  have hd := k.pos
  have hs : 0 < s := gc_pos hd
  have hg : 0 < g := gc_pos hs
  obtain ⟨p, hp⟩ : s ∣ b := gc_dl b d
  obtain ⟨q, hq⟩ : s ∣ d := gc_dr b d
  have er : r = p := Int.ediv_eq_of_eq_mul_right (by omega) hp
  have eq : d / s = q := Int.ediv_eq_of_eq_mul_right (by omega) hq
  obtain ⟨u, hu⟩ : g ∣ t := gc_dl t s
  obtain ⟨v, hv⟩ : g ∣ s := gc_dr t s
  have eu : t / g = u := Int.ediv_eq_of_eq_mul_right (by omega) hu
  have ht : t = a * q + c * p := by
    show a * (d / s) + c * r = _
    rw [eq, er]
  have hgd : d = g * (v * q) := by rw [hq, ← Int.mul_assoc, ← hv]
  have ed : d / g = v * q := Int.ediv_eq_of_eq_mul_right (by omega) hgd
  have hp0 : 0 < p := Int.pos_of_mul_pos_right (hp ▸ hb) (by omega)
  have hq0 : 0 < q := Int.pos_of_mul_pos_right (hq ▸ hd) (by omega)
  have hv0 : 0 < v := Int.pos_of_mul_pos_right (hv ▸ hs) (by omega)
  rw [eu, er, ed]
  have cpq : Int.gcd p q = 1 := by
    have := (low_div (a := b) hd).cop
    rw [show b / gc b d = p from er, show d / gc b d = q from eq] at this
    exact this
  have cap : Nat.Coprime a.natAbs p.natAbs := by
    have c0 : Nat.Coprime a.natAbs b.natAbs := h.cop
    refine Nat.Coprime.coprime_dvd_right ?_ c0
    rw [hp, Int.natAbs_mul]
    exact Nat.dvd_mul_left _ _
  have ccq : Nat.Coprime c.natAbs q.natAbs := by
    have c0 : Nat.Coprime c.natAbs d.natAbs := k.cop
    refine Nat.Coprime.coprime_dvd_right ?_ c0
    rw [hq, Int.natAbs_mul]
    exact Nat.dvd_mul_left _ _
  have cqp : Nat.Coprime q.natAbs p.natAbs := by
    rw [Int.gcd_comm] at cpq
    exact cpq
  have ctp : Int.gcd t p = 1 := by
    rw [ht, Int.mul_comm c p, Int.gcd_add_mul_left_left]
    show Nat.Coprime (a * q).natAbs p.natAbs
    rw [Int.natAbs_mul]
    exact Nat.Coprime.mul_left cap cqp
  have ctq : Int.gcd t q = 1 := by
    rw [ht, Int.add_comm, Int.mul_comm a q, Int.gcd_add_mul_left_left]
    show Nat.Coprime (c * p).natAbs q.natAbs
    rw [Int.natAbs_mul]
    exact Nat.Coprime.mul_left ccq cpq
  have cuv : Int.gcd u v = 1 := by
    have := (low_div (a := t) hs).cop
    rw [show t / gc t s = u from eu, show s / gc t s = v from Int.ediv_eq_of_eq_mul_right (by omega) hv] at this
    exact this
  have ut : u.natAbs ∣ t.natAbs := by
    rw [hu, Int.natAbs_mul]
    exact Nat.dvd_mul_left _ _
  have cup : Nat.Coprime u.natAbs p.natAbs := Nat.Coprime.coprime_dvd_left ut ctp
  have cuq : Nat.Coprime u.natAbs q.natAbs := Nat.Coprime.coprime_dvd_left ut ctq
  refine ⟨⟨Int.mul_pos hp0 (Int.mul_pos hv0 hq0), ?_⟩, ?_⟩
  · show Nat.Coprime u.natAbs (p * (v * q)).natAbs
    rw [Int.natAbs_mul, Int.natAbs_mul]
    exact Nat.Coprime.mul_right cup (Nat.Coprime.mul_right cuv cuq)
  · have e1 : a * d + c * b = s * t := by
      rw [ht, Int.mul_add, ← Int.mul_assoc, ← Int.mul_assoc, Int.mul_comm s a, Int.mul_comm s c, Int.mul_assoc, Int.mul_assoc, ← hq, ← hp]
    rw [e1]
    calc u * (b * d) = u * ((s * p) * (g * (v * q))) := by rw [← hp, ← hgd]
      _ = s * (g * u) * (p * (v * q)) := by
        simp only [Int.mul_assoc, Int.mul_comm, Int.mul_left_comm]
      _ = s * t * (p * (v * q)) := by rw [← hu]
/-- the sum as the program reckons it is the low form of the sum by crossing -/
theorem plus_is {a b c d : Int} (h : Low a b) (k : Low c d) :
    let s := gc b d
    let r := b / s
    let t := a * (d / s) + c * r
    let g := gc t s
    t / g = (a * d + c * b) / gc (a * d + c * b) (b * d) ∧ r * (d / g) = (b * d) / gc (a * d + c * b) (b * d) := by
  intro s r t g
  obtain ⟨h1, h2⟩ := plus_low h k
  exact low_is (Int.mul_pos h.pos k.pos) h1 h2
end DT

namespace DT
open PySem PySem.Spec PyProof.Rows L2
/-! ### heaps that only grow; pairs of ints -/
theorem same_upd {H : Hp} {p : Addr} {o : HO} (h : H p = none) : Same H (upd H p o) := fun b x e => by
  rw [upd_ne (ne_of_none e h)]
  exact e
theorem same_seqT {K : PySem.W.Frag} {H H' : Hp} {a : Addr} {xs : List V} (e : Same H H') (h : SqT K H a xs) : SqT K H' a xs := by
  rcases h with h | h
  · rcases h with h | ⟨o, h⟩
    · exact .inl (.inl (e _ _ h))
    · exact .inl (.inr ⟨o, e _ _ h⟩)
  · exact .inr h
/-- v is a tuple of the ints a and b -/
def Pr (K : PySem.W.Frag) (H : Hp) (v : V) (a b : Int) : Prop := ∃ p, v = .ref p ∧ SqT K H p [.int a, .int b]
theorem Pr.same {K : PySem.W.Frag} {H H' : Hp} {v : V} {a b : Int} (h : Pr K H v a b) (e : Same H H') : Pr K H' v a b := by
  obtain ⟨p, r, q⟩ := h
  exact ⟨p, r, same_seqT e q⟩
theorem Pr.new {K : PySem.W.Frag} {H : Hp} {p : Addr} {a b : Int} : Pr K (upd H p (.tup [.int a, .int b])) (.ref p) a b := ⟨p, rfl, SqT.of upd_same⟩
theorem sqT_ty {K : PySem.W.Frag} {H : Hp} {a : Addr} {xs : List V} (h : SqT K H a xs) : TyX K H (.ref a) (.type "tuple") := by
  rcases h with (h | ⟨o, h⟩) | ⟨o, its, n, h, c, _⟩
  · exact .base (.tup h)
  · exact .fTuple h
  · exact .kTuple h c
theorem Pr.dp {K : PySem.W.Frag} {H : Hp} {v : V} {a b : Int} (h : Pr K H v a b) : Dp K H v (.tuple [.int a, .int b]) := by
  obtain ⟨p, rfl, q⟩ := h
  exact .tup q (.cons (.int a) (.cons (.int b) .nil))
/-- v is a new list of the ints rs -/
def Ls (H : Hp) (v : V) (rs : List Int) : Prop := ∃ p, v = .ref p ∧ H p = some (.lst (rs.map V.int))
theorem Ls.same {H H' : Hp} {v : V} {rs : List Int} (h : Ls H v rs) (e : Same H H') : Ls H' v rs := by
  obtain ⟨p, r, q⟩ := h
  exact ⟨p, r, e _ _ q⟩
theorem ls_at {rs : List Int} {j : Nat} (h : j < rs.length) : atI (rs.map V.int) (j : Int) = some (.int (rs.getD j 0)) := by
  refine atI_nat ?_
  rw [List.getElem?_map, List.getElem?_eq_getElem h]
  simp [List.getD, List.getElem?_eq_getElem h]
/-! ### sizes -/
def Bd (n : Nat) (x : Int) : Prop := x.natAbs < 2 ^ n
theorem Bd.mono {n m : Nat} {x : Int} (h : Bd n x) (e : n ≤ m) : Bd m x := Nat.lt_of_lt_of_le h (Nat.pow_le_pow_right (by decide) e)
theorem Bd.mul {n m : Nat} {x y : Int} (h : Bd n x) (k : Bd m y) : Bd (n + m) (x * y) := wide_lt h k
theorem Bd.add {n : Nat} {x y : Int} (h : Bd n x) (k : Bd n y) : Bd (n + 1) (x + y) := by
  unfold Bd at *
  have : (x + y).natAbs ≤ x.natAbs + y.natAbs := Int.natAbs_add_le x y
  rw [Nat.pow_succ]
  omega
theorem Bd.neg {n : Nat} {x : Int} (h : Bd n x) : Bd n (-x) := by
  unfold Bd at *
  omega
theorem Bd.dvd {n : Nat} {x y : Int} (h : Bd n x) (e : y ∣ x) (hx : x ≠ 0) : Bd n y :=
  Nat.lt_of_le_of_lt (Nat.le_of_dvd (by omega) (Int.natAbs_dvd_natAbs.2 e)) h
theorem Bd.div {n : Nat} {x y : Int} (h : Bd n x) (e : y ∣ x) : Bd n (x / y) := by
  unfold Bd at *
  rw [Int.natAbs_ediv_of_dvd e]
  exact Nat.lt_of_le_of_lt (Nat.div_le_self _ _) h
theorem Bd.gc {n : Nat} {x y : Int} (h : Bd n y) (hy : 0 < y) : Bd n (gc x y) := h.dvd (gc_dr x y) (by omega)
theorem Bd.of {n : Nat} {x m : Int} (h1 : -m < x) (h2 : x < m) (e : m.natAbs ≤ 2 ^ n) : Bd n x := by
  unfold Bd
  omega
theorem bd_mulok {n m : Nat} {x y : Int} (h : Bd n x) (k : Bd m y) (e : n + m ≤ 900000) : CMulW x y :=
  wide_mul (a := n + 1) (b := m + 1) (h.mono (by omega)) (k.mono (by omega)) (by omega) (by omega) (by omega)
theorem bd_divok {n : Nat} {x y : Int} (hy : 0 < y) (k : Bd n y) (e : n ≤ 8900) : CDivW x y := wide_div (b := n + 1) hy (k.mono (by omega)) (by omega) (by omega)
/-- a def of the text: where it stands, how it binds, what the module's name holds -/
structure Df (K : PySem.W.Frag) (mg : Str → Option Value) (x : Str) (st : Stmt) (ps : List Str) where
  f : Addr
  fd : FuncData
  F : Fun K x x st f fd
  b : Binds K fd ps []
  g : mg x = some (.ref f)
end DT
namespace DT
open PySem PySem.Spec PyProof.Rows L2
theorem ls_z {rs : List Int} {z : Int} (j : Nat) (e : z = (j : Int)) (h : j < rs.length) : atI (rs.map V.int) z = some (.int (rs.getD j 0)) := by
  rw [e]
  exact ls_at h
theorem getD_in {rs : List Int} {j : Nat} (h : j < rs.length) : rs.getD j 0 ∈ rs := by
  simp [List.getD, List.getElem?_eq_getElem h]
theorem eqv_pr (a b : Int) : PyData.eqv (.tuple [.int a, .int b]) (.tuple [.int a, .int b]) = true := by
  simp [PyData.eqv, PyData.eqvAll]
theorem shp_pr (a b : Int) : SeqAt.shaped (.tuple [.int a, .int b]) = true := by
  rfl
/-- the promise of a law: True for every script -/
def sp_law (K : PySem.W.Frag) : Sp := fun vs H Q _ => ∃ (a : Addr) (ns : List Int), vs = [.ref a] ∧ SqL K H a (ns.map V.int) ∧ ns.length ≤ 63 ∧ ∀ H', Q (.bl true) H'
end DT
namespace DT
theorem Bd.ediv {n : Nat} {x y : Int} (h : Bd n x) : Bd n (x / y) := Nat.lt_of_le_of_lt (Int.natAbs_ediv_le_natAbs x y) h
theorem Bd.emod {n : Nat} {x y : Int} (hy : 0 < y) (h : Bd n y) : Bd n (x % y) := by
  unfold Bd at *
  have := Int.emod_nonneg x (show y ≠ 0 by omega)
  have := Int.emod_lt_of_pos x hy
  omega
end DT
namespace DT
open PySem PySem.Spec PyProof.Rows L2
/-- a store at an address that was free to begin with -/
theorem same_at {H H1 : Hp} {p : Addr} {o : HO} (hp : H p = none) (sm : Same H H1) : Same H (upd H1 p o) := fun b x e => by
  rw [upd_ne (ne_of_none e hp)]
  exact sm _ _ e
end DT

namespace DT
open PySem PySem.Spec PyProof.Rows L2
def sp_lowest (K : PySem.W.Frag) : Sp := fun vs H Q _ => ∃ t b : Int, vs = [.int t, .int b] ∧ 0 < b ∧ Bd 8900 b ∧ ∀ H' v, Same H H' → Pr K H' v (t / gc t b) (b / gc t b) → Q v H'
end DT

namespace DT
open PySem PySem.Spec PyProof.Rows L2
/-! ### pairs and their reckoning, as the law does it -/
abbrev Q2 := Int × Int
def lowP (t b : Int) : Q2 := (t / gc t b, b / gc t b)
def addP (x y : Q2) : Q2 := lowP (x.1 * y.2 + y.1 * x.2) (x.2 * y.2)
def subP (x y : Q2) : Q2 := lowP (x.1 * y.2 - y.1 * x.2) (x.2 * y.2)
def mulP (x y : Q2) : Q2 := lowP (x.1 * y.1) (x.2 * y.2)
def Pp (K : PySem.W.Frag) (H : Hp) (v : V) (x : Q2) : Prop := Pr K H v x.1 x.2
theorem Pp.same {K : PySem.W.Frag} {H H' : Hp} {v : V} {x : Q2} (h : Pp K H v x) (e : Same H H') : Pp K H' v x := Pr.same h e
/-- both terms below 2 ^ n, the bottom above nought -/
structure Ok (n : Nat) (x : Q2) : Prop where
  pos : 0 < x.2
  top : Bd n x.1
  bot : Bd n x.2
theorem Ok.mono {n m : Nat} {x : Q2} (h : Ok n x) (e : n ≤ m) : Ok m x := ⟨h.pos, h.top.mono e, h.bot.mono e⟩
theorem lowP_low {t b : Int} (h : 0 < b) : Low (lowP t b).1 (lowP t b).2 := low_div h
theorem lowP_ok {t b : Int} {n : Nat} (h : 0 < b) (h1 : Bd n t) (h2 : Bd n b) : Ok n (lowP t b) := ⟨(low_div h).pos, h1.div (gc_dl t b), h2.div (gc_dr t b)⟩
theorem addP_ok {x y : Q2} {n m : Nat} (h : Ok n x) (k : Ok m y) : Ok (n + m + 1) (addP x y) :=
  lowP_ok (Int.mul_pos h.pos k.pos) (Bd.add (h.top.mul k.bot) ((k.top.mul h.bot).mono (by omega))) ((h.bot.mul k.bot).mono (by omega))
theorem subP_ok {x y : Q2} {n m : Nat} (h : Ok n x) (k : Ok m y) : Ok (n + m + 1) (subP x y) := by
  unfold subP
  rw [Int.sub_eq_add_neg]
  exact lowP_ok (Int.mul_pos h.pos k.pos) (Bd.add (h.top.mul k.bot) ((k.top.mul h.bot).neg.mono (by omega))) ((h.bot.mul k.bot).mono (by omega))
theorem mulP_ok {x y : Q2} {n m : Nat} (h : Ok n x) (k : Ok m y) : Ok (n + m) (mulP x y) := lowP_ok (Int.mul_pos h.pos k.pos) (h.top.mul k.top) (h.bot.mul k.bot)
theorem addP_low {x y : Q2} (h : 0 < x.2) (k : 0 < y.2) : Low (addP x y).1 (addP x y).2 := low_div (Int.mul_pos h k)
/-- promise of a def that makes the pair f x y of two pairs -/
def sp_two (K : PySem.W.Frag) (C : Q2 → Q2 → Prop) (f : Q2 → Q2 → Q2) : Sp := fun vs H Q _ => ∃ (v u : V) (x y : Q2) (n m : Nat), vs = [v, u] ∧ Pp K H v x ∧ Pp K H u y ∧ Ok n x ∧ Ok m y ∧ n + m ≤ 8890 ∧ C x y ∧ ∀ H' r, Same H H' → Pp K H' r (f x y) → Q r H'
def anyC : Q2 → Q2 → Prop := fun _ _ => True
def lowC : Q2 → Q2 → Prop := fun x y => Low x.1 x.2 ∧ Low y.1 y.2
theorem len_two {K : PySem.W.Frag} {C : Q2 → Q2 → Prop} {f : Q2 → Q2 → Q2} {vs : List V} {H : Hp} {Q : VK} {E : XK} (h : sp_two K C f vs H Q E) : vs.length = 2 := by
  obtain ⟨v, u, x, y, n, m, rfl, _⟩ := h
  rfl
theorem low_neg {a b : Int} (h : Low a b) : Low (-a) b := ⟨h.pos, by rw [Int.neg_gcd]; exact h.cop⟩
theorem subP_eq (x y : Q2) : addP x (-y.1, y.2) = subP x y := by
  unfold addP subP
  show lowP (x.1 * y.2 + -y.1 * x.2) _ = _
  rw [Int.neg_mul, ← Int.sub_eq_add_neg]
theorem pp_eq {K : PySem.W.Frag} {H : Hp} {v u : V} {x : Q2} (h : Pp K H v x) (k : Pp K H u x) : ∃ d e, Dp K H v d ∧ Dp K H u e ∧ SeqAt.shaped d = true ∧ SeqAt.shaped e = true ∧ PyData.eqv d e = true :=
  ⟨_, _, Pr.dp h, Pr.dp k, shp_pr _ _, shp_pr _ _, eqv_pr _ _⟩
end DT
namespace DT
open PySem PySem.Spec PyProof.Rows L2
/-! ### sums of lists of pairs -/
def sumP (xs : List Q2) : Q2 := xs.foldl addP (0, 1)
inductive Pps (K : PySem.W.Frag) (H : Hp) : List V → List Q2 → Prop
  | nil : Pps K H [] []
  | cons {v : V} {vs : List V} {x : Q2} {xs : List Q2} : Pp K H v x → Pps K H vs xs → Pps K H (v :: vs) (x :: xs)
theorem Pps.len {K : PySem.W.Frag} {H : Hp} : ∀ {vs : List V} {xs : List Q2}, Pps K H vs xs → vs.length = xs.length
  | _, _, .nil => rfl
  | _, _, .cons _ t => congrArg (· + 1) t.len
theorem Pps.same {K : PySem.W.Frag} {H H' : Hp} (e : Same H H') : ∀ {vs : List V} {xs : List Q2}, Pps K H vs xs → Pps K H' vs xs
  | _, _, .nil => .nil
  | _, _, .cons h t => .cons (h.same e) (t.same e)
theorem Pps.snoc {K : PySem.W.Frag} {H : Hp} {v : V} {x : Q2} (h : Pp K H v x) : ∀ {vs : List V} {xs : List Q2}, Pps K H vs xs → Pps K H (vs ++ [v]) (xs ++ [x])
  | _, _, .nil => .cons h .nil
  | _, _, .cons g t => .cons g (t.snoc h)
theorem pps_get {K : PySem.W.Frag} {H : Hp} : ∀ {vs : List V} {xs : List Q2} {i : Nat} {z : V}, Pps K H vs xs → vs[i]? = some z → ∃ x, xs[i]? = some x ∧ Pp K H z x
  | _, _, 0, _, .cons h _, e => ⟨_, rfl, Option.some.inj e ▸ h⟩
  | _, _, i + 1, z, .cons (vs := vs) (xs := xs) _ t, e => by
    have r := pps_get (vs := vs) (i := i) (z := z) t (by simpa using e)
    simpa using r
theorem sumP_take {xs : List Q2} {i : Nat} {x : Q2} (h : xs[i]? = some x) : sumP (xs.take (i + 1)) = addP (sumP (xs.take i)) x := by
  unfold sumP
  rw [List.take_add_one, h, List.foldl_append]
  rfl
theorem sumP_ok0 : Ok (201 * (0 + 1)) (sumP []) := ⟨by decide, by unfold Bd; decide +kernel, by unfold Bd; decide +kernel⟩
theorem sumP_low0 : Low (sumP []).1 (sumP []).2 := ⟨by decide, rfl⟩
def lowS : Q2 → Prop := fun x => Low x.1 x.2
def anyS : Q2 → Prop := fun _ => True
def sp_sum (K : PySem.W.Frag) (C : Q2 → Prop) : Sp := fun vs H Q _ => ∃ (l : Addr) (us : List V) (xs : List Q2), vs = [.ref l] ∧ SqL K H l us ∧ Pps K H us xs ∧ (∀ x ∈ xs, Ok 200 x) ∧ xs.length ≤ 30 ∧ (∀ x ∈ xs, C x) ∧
  ∀ H' r, Same H H' → Pp K H' r (sumP xs) → Ok 6300 (sumP xs) → Low (sumP xs).1 (sumP xs).2 → Q r H'
end DT
namespace DT
open PySem PySem.Spec PyProof.Rows L2
def datP (x : Q2) : PyData := .tuple [.int x.1, .int x.2]
theorem Pps.dp {K : PySem.W.Frag} {H : Hp} : ∀ {vs : List V} {xs : List Q2}, Pps K H vs xs → DpAll K H vs (xs.map datP)
  | _, _, .nil => .nil
  | _, _, .cons h t => .cons (Pr.dp h) t.dp
theorem lay_ps : ∀ xs : List Q2, PyData.canLayAll0 (xs.map datP) = true
  | [] => by simp [PyData.canLayAll0]
  | x :: xs => by
    rw [List.map_cons]
    simp only [PyData.canLayAll0, lay_ps xs, datP, PyData.canLay0, Bool.and_self]
theorem dep_ps : ∀ xs : List Q2, PyData.depthAll (xs.map datP) ≤ 1
  | [] => by simp [PyData.depthAll]
  | x :: xs => by
    have ih := dep_ps xs
    rw [List.map_cons]
    simp only [PyData.depthAll, datP, PyData.depth] at ih ⊢
    omega
theorem shp_ps (xs : List Q2) : SeqAt.shaped (.list (xs.map datP)) = true := by
  have h1 := lay_ps xs
  have h2 := dep_ps xs
  unfold SeqAt.shaped
  rw [Bool.and_eq_true]
  refine ⟨by simp only [PyData.canLay0, h1], decide_eq_true ?_⟩
  simp only [PyData.depth]
  omega
theorem eqv_ps : ∀ xs : List Q2, PyData.eqvAll (xs.map datP) (xs.map datP) = true
  | [] => by simp [PyData.eqvAll]
  | x :: xs => by
    rw [List.map_cons]
    simp only [PyData.eqvAll, eqv_ps xs, Bool.and_true]
    exact eqv_pr x.1 x.2
theorem eqv_psL (xs : List Q2) : PyData.eqv (.list (xs.map datP)) (.list (xs.map datP)) = true := by
  simp only [PyData.eqv, eqv_ps xs]
end DT
namespace DT
open PySem PySem.Spec PyProof.Rows L2
/-- a store to a list leaves pairs that stand elsewhere -/
theorem Pp.off {K : PySem.W.Frag} {H H' : Hp} {v : V} {x : Q2} {D : Addr} {us : List V} (h : Pp K H v x) (e : ∀ b o, H b = some o → b ≠ D → H' b = some o) (hD : H D = some (.lst us)) : Pp K H' v x := by
  obtain ⟨p, rfl, q⟩ := h
  refine ⟨p, rfl, ?_⟩
  rcases q with q | q
  · rcases q with q | ⟨o, q⟩
    · exact .inl (.inl (e _ _ q (fun z => by rw [z, hD] at q; cases q)))
    · exact .inl (.inr ⟨o, e _ _ q (fun z => by rw [z, hD] at q; cases q)⟩)
  · exact .inr q
theorem Pps.off {K : PySem.W.Frag} {H H' : Hp} {D : Addr} {ws : List V} : ∀ {vs : List V} {xs : List Q2}, Pps K H vs xs → (∀ b o, H b = some o → b ≠ D → H' b = some o) → H D = some (.lst ws) → Pps K H' vs xs
  | _, _, .nil, _, _ => .nil
  | _, _, .cons h t, e, hD => .cons (h.off e hD) (t.off e hD)
end DT

namespace DT
open PySem PySem.Spec PyProof.Rows L2
/-- xs[i] of a list, 0 ≤ i, for xs[i] += e -/
theorem get_list {X : Cx} : PGet X (fun x y H Q => ∃ (p : Addr) (xs : List V) (i : Nat) (v : V), x = .ref p ∧ y = .int (i : Int) ∧ SqL X.K H p xs ∧ xs[i]? = some v ∧ Q v H) := by
  intro pins s σ H o i ov iv Q I ro ri h
  obtain ⟨p, xs, k, v, rfl, rfl, hq, hx, q⟩ := h
  cases ro
  obtain ⟨t, rfl⟩ := ri
  obtain ⟨its, r, pl, hz⟩ := I.list hq
  obtain ⟨w, ew, rw'⟩ := r.get hx
  have hk : k < xs.length := (List.getElem?_eq_some_iff.1 hx).1
  have hn := line63
  exact wpAny_getItem_list pl.isList (by omega) (by omega) (by simpa using ew) ⟨v, H, I, rw', q⟩
/-! ### lists of pairs, tracked -/
def LP (K : PySem.W.Frag) (H : Hp) (p : Addr) (xs : List Q2) : Prop := ∃ us, H p = some (.lst us) ∧ Pps K H us xs
theorem LP.same {K : PySem.W.Frag} {H H' : Hp} {p : Addr} {xs : List Q2} (h : LP K H p xs) (e : Same H H') : LP K H' p xs := by
  obtain ⟨us, h1, h2⟩ := h
  exact ⟨us, e _ _ h1, h2.same e⟩
/-- every pair in lowest terms and below 2 ^ n -/
def AllOk (n : Nat) (xs : List Q2) : Prop := ∀ x ∈ xs, Ok n x ∧ Low x.1 x.2
theorem AllOk.mono {n m : Nat} {xs : List Q2} (h : AllOk n xs) (e : n ≤ m) : AllOk m xs := fun x hx => ⟨(h x hx).1.mono e, (h x hx).2⟩
theorem AllOk.nil {n : Nat} : AllOk n [] := fun _ h => nomatch h
theorem AllOk.snoc {n : Nat} {xs : List Q2} {x : Q2} (h : AllOk n xs) (o : Ok n x) (l : Low x.1 x.2) : AllOk n (xs ++ [x]) := fun y hy => by
  rcases List.mem_append.1 hy with z | z
  · exact h y z
  · rw [List.mem_singleton.1 z]
    exact ⟨o, l⟩
/-- a list that grows by one pair, the pair's tuple anywhere -/
theorem pps_grow {K : PySem.W.Frag} {H : Hp} {D : Addr} {us : List V} {v : V} {xs : List Q2} {x : Q2} (hD : H D = some (.lst us)) (h : Pps K H us xs) (k : Pp K H v x) : Pps K (upd H D (.lst (us ++ [v]))) (us ++ [v]) (xs ++ [x]) := by
  have sd : ∀ b o, H b = some o → b ≠ D → upd H D (.lst (us ++ [v])) b = some o := fun b o e n => by
    rw [upd_ne n]
    exact e
  exact (h.off sd hD).snoc (k.off sd hD)
theorem pps_at {K : PySem.W.Frag} {H : Hp} {us : List V} {xs : List Q2} (h : Pps K H us xs) {i : Nat} {x : Q2} (e : xs[i]? = some x) : ∃ v, us[i]? = some v ∧ Pp K H v x := by
  have hi : i < us.length := by
    rw [h.len]
    exact (List.getElem?_eq_some_iff.1 e).1
  obtain ⟨y, ey, py⟩ := pps_get h (List.getElem?_eq_getElem hi)
  rw [e] at ey
  cases ey
  exact ⟨_, List.getElem?_eq_getElem hi, py⟩
/-- == of two lists of pairs -/
theorem eqv_iff : ∀ (xs ys : List Q2), PyData.eqvAll (xs.map datP) (ys.map datP) = decide (xs = ys)
  | [], [] => by simp [PyData.eqvAll]
  | [], y :: ys => by simp [PyData.eqvAll]
  | x :: xs, [] => by simp [PyData.eqvAll]
  | x :: xs, y :: ys => by
    rw [List.map_cons, List.map_cons]
    simp only [PyData.eqvAll, eqv_iff xs ys]
    obtain ⟨a, b⟩ := x
    obtain ⟨c, d⟩ := y
    simp only [datP, PyData.eqv, PyData.eqvAll, Bool.and_true]
    by_cases h1 : a = c <;> by_cases h2 : b = d <;> by_cases h3 : xs = ys <;> simp [h1, h2, h3]
/-- a list of ints -/
theorem sq_ints {K : PySem.W.Frag} {H : Hp} {p : Addr} {rs : List Int} (h : H p = some (.lst (rs.map V.int))) : SqL K H p (rs.map V.int) := SqL.of h
theorem cut_map (rs : List Int) (lo hi : Option Int) : cutV (rs.map V.int) lo hi = ((rs.drop (HT.sIx rs.length 0 lo)).take (HT.sIx rs.length rs.length hi - HT.sIx rs.length 0 lo)).map V.int := by
  unfold cutV
  rw [List.length_map, ← List.map_drop, ← List.map_take]
theorem cut_to (rs : List Int) (n : Nat) (h : n ≤ rs.length) : cutV (rs.map V.int) none (some (n : Int)) = (rs.take n).map V.int := by
  rw [cut_map, HT.sIx_none, HT.sIx_nat, List.drop_zero, Nat.sub_zero, Nat.min_eq_left h]
theorem cut_from (rs : List Int) (n : Nat) (h : n ≤ rs.length) : cutV (rs.map V.int) (some (n : Int)) none = (rs.drop n).map V.int := by
  rw [cut_map, HT.sIx_none, HT.sIx_nat, Nat.min_eq_left h]
  rw [List.take_of_length_le (by rw [List.length_drop]; omega)]
end DT
namespace DT
open PySem PySem.Spec PyProof.Rows L2
/-- a store to the list at D leaves the lists of pairs at other places -/
theorem LP.off {K : PySem.W.Frag} {H : Hp} {D p : Addr} {us vs : List V} {xs : List Q2} (h : LP K H p xs) (hD : H D = some (.lst us)) (n : p ≠ D) : LP K (upd H D (.lst vs)) p xs := by
  obtain ⟨ws, e, k⟩ := h
  refine ⟨ws, by rw [upd_ne n]; exact e, k.off (D := D) (fun b o eb nb => by rw [upd_ne nb]; exact eb) hD⟩
theorem LP.ne {K : PySem.W.Frag} {H H' : Hp} {p q : Addr} {xs : List Q2} (h : LP K H p xs) (n : H q = none) : p ≠ q := by
  obtain ⟨us, e, _⟩ := h
  exact ne_of_none e n
theorem LP.sq {K : PySem.W.Frag} {H : Hp} {p : Addr} {xs : List Q2} (h : LP K H p xs) : ∃ us, SqL K H p us ∧ us.length = xs.length ∧ Pps K H us xs := by
  obtain ⟨us, e, k⟩ := h
  exact ⟨us, SqL.of e, k.len, k⟩
theorem LP.dp {K : PySem.W.Frag} {H : Hp} {p : Addr} {xs : List Q2} (h : LP K H p xs) : Dp K H (.ref p) (.list (xs.map datP)) := by
  obtain ⟨us, e, k⟩ := h
  exact .lst (SqL.of e) k.dp
def dat2 (xs ys : List Q2) : PyData := .list [.list (xs.map datP), .list (ys.map datP)]
theorem shp_2 (xs ys : List Q2) : SeqAt.shaped (dat2 xs ys) = true := by
  have h1 := lay_ps xs
  have h2 := dep_ps xs
  have h3 := lay_ps ys
  have h4 := dep_ps ys
  unfold SeqAt.shaped dat2
  rw [Bool.and_eq_true]
  refine ⟨by simp only [PyData.canLay0, PyData.canLayAll0, h1, h3, Bool.and_self], decide_eq_true ?_⟩
  simp only [PyData.depth, PyData.depthAll]
  omega
theorem eqv_2 (xs ys : List Q2) : PyData.eqv (dat2 xs ys) (dat2 xs ys) = true := by
  unfold dat2
  simp only [PyData.eqv, PyData.eqvAll, eqv_ps, Bool.and_self]
end DT

namespace DT
open PySem PySem.Spec PyProof.Rows L2
theorem take_map {rs : List Int} {i : Nat} {r : Int} (h : rs[i]? = some r) (f : Int → Int) : ((rs.take i).map f).map V.int ++ [V.int (f r)] = ((rs.take (i + 1)).map f).map V.int := by
  rw [List.take_add_one, h]
  simp only [List.map_append, Option.toList_some, List.map_cons, List.map_nil]
theorem int_at {rs : List Int} {i : Nat} {x : V} (h : (rs.map V.int)[i]? = some x) : ∃ r, rs[i]? = some r ∧ x = .int r := by
  rw [List.getElem?_map] at h
  cases e : rs[i]? with
  | none => rw [e] at h; cases h
  | some r => rw [e] at h; exact ⟨r, rfl, (Option.some.inj h).symm⟩
/-! ### the first of the greatest -/
def lessP (x y : Q2) : Bool := decide (x.1 * y.2 < y.1 * x.2)
def itemP (xs : List Q2) (i : Nat) : Q2 := xs.getD i (0, 1)
def firstF (xs : List Q2) : Nat → Nat
  | 0 => 0
  | i + 1 => if lessP (itemP xs (firstF xs i)) (itemP xs i) = true then i else firstF xs i
def firstM (xs : List Q2) : Nat := firstF xs xs.length
theorem firstF_lt (xs : List Q2) : ∀ i, firstF xs i < max 1 i
  | 0 => by show 0 < max 1 0; omega
  | i + 1 => by
    have ih := firstF_lt xs i
    unfold firstF
    split <;> omega
theorem firstM_lt {xs : List Q2} (h : 0 < xs.length) : firstM xs < xs.length := by
  have := firstF_lt xs xs.length
  unfold firstM
  omega
theorem item_some {xs : List Q2} {i : Nat} (h : i < xs.length) : xs[i]? = some (itemP xs i) := by
  unfold itemP
  rw [List.getElem?_eq_getElem h]
  simp [List.getD, List.getElem?_eq_getElem h]
theorem item_ok {xs : List Q2} {n i : Nat} (h : AllOk n xs) (hi : i < xs.length) : Ok n (itemP xs i) ∧ Low (itemP xs i).1 (itemP xs i).2 := by
  refine h _ ?_
  exact List.mem_of_getElem? (item_some hi)
def sp_first (K : PySem.W.Frag) : Sp := fun vs H Q _ => ∃ (p : Addr) (xs : List Q2), vs = [.ref p] ∧ LP K H p xs ∧ 0 < xs.length ∧ xs.length ≤ 1000 ∧ AllOk 4000 xs ∧ Q (.int (firstM xs : Int)) H
/-- two lists, item by item -/
def sp_raised (K : PySem.W.Frag) : Sp := fun vs H Q _ => ∃ (p q : Addr) (xs ys : List Q2), vs = [.ref p, .ref q] ∧ LP K H p xs ∧ LP K H q ys ∧ xs.length = ys.length ∧ xs.length ≤ 1000 ∧ AllOk 3800 xs ∧ AllOk 3800 ys ∧
  ∀ H' r, Same H H' → H r = none → LP K H' r (List.zipWith addP xs ys) → Q (.ref r) H'
theorem zip_at {xs ys : List Q2} {i : Nat} {x y : Q2} (hx : xs[i]? = some x) (hy : ys[i]? = some y) : (List.zipWith addP xs ys).take (i + 1) = (List.zipWith addP xs ys).take i ++ [addP x y] := by
  rw [List.take_add_one]
  have : (List.zipWith addP xs ys)[i]? = some (addP x y) := by
    rw [List.getElem?_zipWith, hx, hy]
  rw [this]
  rfl
/-- the weights and the shares of the law -/
def sharesOf (ws : List Int) : List Q2 := ws.map fun w => lowP w ws.sum
def WsOk (n : Nat) (ws : List Int) : Prop := ws.length = n ∧ (∀ w ∈ ws, 0 ≤ w ∧ w < 1000005) ∧ 0 < ws.sum ∧ ws.sum ≤ 1000005 * n
theorem shares_ok {n : Nat} {ws : List Int} (h : WsOk n ws) (hn : n ≤ 24) : AllOk 26 (sharesOf ws) := by
  intro x hx
  obtain ⟨w, hw, rfl⟩ := List.mem_map.1 hx
  obtain ⟨h1, h2, h3, h4⟩ := h
  have hb := h2 w hw
  exact ⟨lowP_ok h3 (Bd.of (m := 30000000) (by omega) (by omega) (by decide)) (Bd.of (m := 30000000) (by omega) (by omega) (by decide)), lowP_low h3⟩
theorem shares_len (ws : List Int) : (sharesOf ws).length = ws.length := by
  unfold sharesOf
  rw [List.length_map]
theorem sum_bound {ws : List Int} : (∀ w ∈ ws, 0 ≤ w ∧ w < 1000005) → 0 ≤ ws.sum ∧ ws.sum ≤ 1000005 * ws.length := by
  induction ws with
  | nil => intro _; exact ⟨Int.le_refl _, Int.le_refl _⟩
  | cons w ws ih =>
    intro h
    have h1 := h w List.mem_cons_self
    have h2 := ih fun v hv => h v (List.mem_cons_of_mem _ hv)
    rw [List.sum_cons, List.length_cons]
    omega
end DT

namespace DT
/-! ### what a pair is worth -/
def val (x : Q2) : Rat := (x.1 : Rat) / (x.2 : Rat)
theorem r_ne {a : Int} (h : 0 < a) : (a : Rat) ≠ 0 := fun e => by
  have := Rat.intCast_eq_zero_iff.1 e
  omega
theorem r_pos {a : Int} (h : 0 < a) : (0 : Rat) < (a : Rat) := Rat.intCast_pos.2 h
theorem val_eq {x y : Q2} (hx : 0 < x.2) (hy : 0 < y.2) (h : x.1 * y.2 = y.1 * x.2) : val x = val y := by
  unfold val
  have h1 := r_ne hx
  have h2 := r_ne hy
  have h3 : (x.1 : Rat) * (y.2 : Rat) = (y.1 : Rat) * (x.2 : Rat) := by rw [← Rat.intCast_mul, ← Rat.intCast_mul, h]
  grind
theorem val_low {t b : Int} (h : 0 < b) : val (lowP t b) = (t : Rat) / (b : Rat) := by
  have := val_eq (x := lowP t b) (y := (t, b)) (lowP_low h).pos h (by show t / gc t b * b = t * (b / gc t b); rw [low_cross t b, Int.mul_comm])
  exact this
theorem val_add {x y : Q2} (hx : 0 < x.2) (hy : 0 < y.2) : val (addP x y) = val x + val y := by
  unfold addP
  rw [val_low (Int.mul_pos hx hy)]
  unfold val
  have h1 := r_ne hx
  have h2 := r_ne hy
  rw [Rat.intCast_add, Rat.intCast_mul, Rat.intCast_mul, Rat.intCast_mul]
  grind
theorem val_sub {x y : Q2} (hx : 0 < x.2) (hy : 0 < y.2) : val (subP x y) = val x - val y := by
  unfold subP
  rw [val_low (Int.mul_pos hx hy)]
  unfold val
  have h1 := r_ne hx
  have h2 := r_ne hy
  rw [Rat.intCast_sub, Rat.intCast_mul, Rat.intCast_mul, Rat.intCast_mul]
  grind
theorem val_mul {x y : Q2} (hx : 0 < x.2) (hy : 0 < y.2) : val (mulP x y) = val x * val y := by
  unfold mulP
  rw [val_low (Int.mul_pos hx hy)]
  unfold val
  have h1 := r_ne hx
  have h2 := r_ne hy
  rw [Rat.intCast_mul, Rat.intCast_mul]
  grind
theorem val_lt {x y : Q2} (hx : 0 < x.2) (hy : 0 < y.2) : x.1 * y.2 < y.1 * x.2 ↔ val x < val y := by
  unfold val
  rw [Rat.div_lt_iff (r_pos hx), ← Rat.intCast_lt_intCast, Rat.intCast_mul, Rat.intCast_mul]
  have h2 := r_ne hy
  have hp := r_pos hy
  have e : (y.1 : Rat) / (y.2 : Rat) * (x.2 : Rat) = ((y.1 : Rat) * (x.2 : Rat)) / (y.2 : Rat) := by grind
  rw [e, Rat.lt_div_iff hp]
theorem lessP_iff {x y : Q2} (hx : 0 < x.2) (hy : 0 < y.2) : lessP x y = true ↔ val x < val y := by
  unfold lessP
  rw [decide_eq_true_iff]
  exact val_lt hx hy
theorem val_inj {x y : Q2} (hx : Low x.1 x.2) (hy : Low y.1 y.2) (h : val x = val y) : x = y := by
  have h1 := r_ne hx.pos
  have h2 := r_ne hy.pos
  have h3 : (x.1 : Rat) * (y.2 : Rat) = (y.1 : Rat) * (x.2 : Rat) := by
    unfold val at h
    grind
  rw [← Rat.intCast_mul, ← Rat.intCast_mul, Rat.intCast_inj] at h3
  obtain ⟨e1, e2⟩ := low_uniq hx hy h3
  exact Prod.ext e1 e2
def rsum (l : List Rat) : Rat := l.foldr (· + ·) 0
theorem rsum_cons (a : Rat) (l : List Rat) : rsum (a :: l) = a + rsum l := rfl
theorem rsum_nil : rsum [] = 0 := rfl
theorem rsum_app (l m : List Rat) : rsum (l ++ m) = rsum l + rsum m := by
  induction l with
  | nil => rw [List.nil_append, rsum_nil]; grind
  | cons a l ih => rw [List.cons_append, rsum_cons, rsum_cons, ih]; grind
def worth (xs : List Q2) : Rat := rsum (xs.map val)
theorem worth_cons (x : Q2) (xs : List Q2) : worth (x :: xs) = val x + worth xs := rfl
theorem worth_app (xs ys : List Q2) : worth (xs ++ ys) = worth xs + worth ys := by
  unfold worth
  rw [List.map_append, rsum_app]
/-- all bottoms above nought -/
def AllPos (xs : List Q2) : Prop := ∀ x ∈ xs, 0 < x.2
theorem AllOk.pos {n : Nat} {xs : List Q2} (h : AllOk n xs) : AllPos xs := fun x hx => (h x hx).1.pos
theorem fold_worth : ∀ (xs : List Q2) (x : Q2), 0 < x.2 → AllPos xs → val (xs.foldl addP x) = val x + worth xs ∧ 0 < (xs.foldl addP x).2
  | [], x, hx, _ => ⟨by show val x = val x + 0; grind, hx⟩
  | y :: ys, x, hx, h => by
    have hy := h y List.mem_cons_self
    have hz : 0 < (addP x y).2 := (addP_low hx hy).pos
    obtain ⟨e, p⟩ := fold_worth ys (addP x y) hz fun z hz => h z (List.mem_cons_of_mem _ hz)
    refine ⟨?_, p⟩
    rw [List.foldl_cons, e, val_add hx hy, worth_cons]
    grind
theorem sumP_worth {xs : List Q2} (h : AllPos xs) : val (sumP xs) = worth xs := by
  have := (fold_worth xs (0, 1) (by decide) h).1
  have z : val (0, 1) = 0 := by
    unfold val
    show ((0 : Int) : Rat) / ((1 : Int) : Rat) = 0
    rw [Rat.intCast_zero, Rat.intCast_one]
    grind
  unfold sumP
  rw [this, z]
  grind
theorem worth_zip : ∀ (xs ys : List Q2), xs.length = ys.length → AllPos xs → AllPos ys → worth (List.zipWith addP xs ys) = worth xs + worth ys
  | [], [], _, _, _ => by show (0 : Rat) = 0 + 0; grind
  | x :: xs, y :: ys, h, hx, hy => by
    rw [List.zipWith_cons_cons, worth_cons, worth_cons, worth_cons, val_add (hx x List.mem_cons_self) (hy y List.mem_cons_self),
      worth_zip xs ys (by simpa using h) (fun z hz => hx z (List.mem_cons_of_mem _ hz)) fun z hz => hy z (List.mem_cons_of_mem _ hz)]
    grind
theorem worth_set : ∀ {xs : List Q2} {i : Nat} {x y : Q2}, xs[i]? = some x → worth (xs.set i y) = worth xs - val x + val y
  | [], i, x, y, h => by simp at h
  | a :: xs, 0, x, y, h => by
    have e : a = x := Option.some.inj h
    subst e
    show val y + worth xs = val a + worth xs - val a + val y
    grind
  | a :: xs, i + 1, x, y, h => by
    have ih := worth_set (xs := xs) (i := i) (x := x) (y := y) (by simpa using h)
    show val a + worth (xs.set i y) = val a + worth xs - val x + val y
    rw [ih]
    grind
theorem worth_shares {n : Nat} {ws : List Int} (h : WsOk n ws) : worth (sharesOf ws) = 1 := by
  obtain ⟨_, _, hs, _⟩ := h
  have key : ∀ (l : List Int) (S : Int), 0 < S → worth (l.map fun w => lowP w S) = (l.sum : Rat) / (S : Rat) := by
    intro l S hS
    have hn := r_ne hS
    induction l with
    | nil =>
      show (0 : Rat) = ((0 : Int) : Rat) / (S : Rat)
      rw [Rat.intCast_zero]
      grind
    | cons w l ih =>
      rw [List.map_cons, worth_cons, ih, val_low hS, List.sum_cons, Rat.intCast_add]
      grind
  unfold sharesOf
  rw [key ws ws.sum hs]
  have hn := r_ne hs
  grind
theorem val_one : val (1, 1) = 1 := by
  unfold val
  show ((1 : Int) : Rat) / ((1 : Int) : Rat) = 1
  rw [Rat.intCast_one]
  grind
theorem val_zero' : val (0, 1) = 0 := by
  unfold val
  show ((0 : Int) : Rat) / ((1 : Int) : Rat) = 0
  rw [Rat.intCast_zero, Rat.intCast_one]
  grind
/-! ### one hour -/
def hourM (xs ys : List Q2) : Nat × List Q2 :=
  let zs := List.zipWith addP xs ys
  (firstM zs, zs.set (firstM zs) (subP (itemP zs (firstM zs)) (1, 1)))
theorem zip_ok {n m : Nat} {xs ys : List Q2} (hx : AllOk n xs) (hy : AllOk m ys) : AllOk (n + m + 1) (List.zipWith addP xs ys) := by
  intro z hz
  obtain ⟨i, hi⟩ := List.mem_iff_getElem?.1 hz
  rw [List.getElem?_zipWith] at hi
  cases ex : xs[i]? with
  | none => rw [ex] at hi; simp at hi
  | some x =>
    cases ey : ys[i]? with
    | none => rw [ex, ey] at hi; simp at hi
    | some y =>
      rw [ex, ey] at hi
      have e1 : addP x y = z := Option.some.inj hi
      have o1 := hx x (List.mem_of_getElem? ex)
      have o2 := hy y (List.mem_of_getElem? ey)
      rw [← e1]
      exact ⟨addP_ok o1.1 o2.1, addP_low o1.1.pos o2.1.pos⟩
theorem ok11 : Ok 1 ((1, 1) : Q2) := ⟨by decide, by unfold Bd; decide, by unfold Bd; decide⟩
theorem sub_low {x y : Q2} (hx : 0 < x.2) (hy : 0 < y.2) : Low (subP x y).1 (subP x y).2 := low_div (Int.mul_pos hx hy)
theorem hour_ok {n m : Nat} {xs ys : List Q2} (hx : AllOk n xs) (hy : AllOk m ys) (hl : xs.length = ys.length) (h0 : 0 < xs.length) : AllOk (n + m + 3) (hourM xs ys).2 ∧ (hourM xs ys).2.length = xs.length ∧ (hourM xs ys).1 < xs.length := by
  have hz := zip_ok hx hy
  have lz : (List.zipWith addP xs ys).length = xs.length := by rw [List.length_zipWith]; omega
  have hf := firstM_lt (xs := List.zipWith addP xs ys) (by omega)
  have oi := item_ok hz hf
  refine ⟨fun z hz' => ?_, ?_, by show firstM (List.zipWith addP xs ys) < _; omega⟩
  · rcases List.mem_or_eq_of_mem_set hz' with h | h
    · exact ⟨(hz z h).1.mono (by omega), (hz z h).2⟩
    · rw [h]
      exact ⟨(subP_ok oi.1 ok11).mono (by omega), sub_low oi.1.pos ok11.pos⟩
  · show ((List.zipWith addP xs ys).set _ _).length = _
    rw [List.length_set, lz]
theorem hour_worth {n m : Nat} {xs ys : List Q2} (hx : AllOk n xs) (hy : AllOk m ys) (hl : xs.length = ys.length) (h0 : 0 < xs.length) : worth (hourM xs ys).2 = worth xs + worth ys - 1 := by
  have hz := zip_ok hx hy
  have lz : (List.zipWith addP xs ys).length = xs.length := by rw [List.length_zipWith]; omega
  have hf := firstM_lt (xs := List.zipWith addP xs ys) (by omega)
  have oi := item_ok hz hf
  show worth ((List.zipWith addP xs ys).set _ _) = _
  rw [worth_set (item_some hf), val_sub oi.1.pos ok11.pos, val_one, worth_zip xs ys hl hx.pos hy.pos]
  grind
/-- lags behind some hours: as many, small, in lowest terms, together nought -/
structure Lags (n N : Nat) (xs : List Q2) : Prop where
  len : xs.length = n
  ok : AllOk N xs
  zero : worth xs = 0
end DT
namespace DT
open PySem PySem.Spec PyProof.Rows L2
theorem Pps.set {K : PySem.W.Frag} {H : Hp} {v : V} {y : Q2} (h : Pp K H v y) : ∀ {us : List V} {xs : List Q2} (i : Nat), Pps K H us xs → Pps K H (us.set i v) (xs.set i y)
  | _, _, _, .nil => .nil
  | _, _, 0, .cons _ t => .cons h t
  | _, _, i + 1, .cons g t => .cons g (t.set h i)
theorem LP.put {K : PySem.W.Frag} {H : Hp} {p : Addr} {us : List V} {v : V} {xs : List Q2} {y : Q2} (e : H p = some (.lst us)) (k : Pps K H us xs) (h : Pp K H v y) (i : Nat) : LP K (upd H p (.lst (us.set i v))) p (xs.set i y) := by
  have sd : ∀ b o, H b = some o → b ≠ p → upd H p (.lst (us.set i v)) b = some o := fun b o eb n => by
    rw [upd_ne n]
    exact eb
  exact ⟨_, upd_same, Pps.set (h.off sd e) i (k.off sd e)⟩
def sp_hour (K : PySem.W.Frag) : Sp := fun vs H Q _ => ∃ (p q : Addr) (xs ys : List Q2) (N : Nat), vs = [.ref p, .ref q] ∧ LP K H p xs ∧ LP K H q ys ∧ xs.length = ys.length ∧ 0 < xs.length ∧ xs.length ≤ 1000 ∧ AllOk N xs ∧ AllOk 26 ys ∧ N ≤ 3700 ∧
  ∀ H' t r, Same H H' → H r = none → SqT K H' t [.int ((hourM xs ys).1 : Int), .ref r] → LP K H' r (hourM xs ys).2 → Q (.ref t) H'
theorem ix_nat {n : Nat} {j : Nat} (h : j < n) : ixN n (j : Int) = some j := by
  unfold ixN
  rw [if_pos (by omega), if_pos (by omega), Int.toNat_natCast]
end DT

namespace DT
open PySem PySem.Spec PyProof.Rows L2
def topS (i : Nat) : Stmt := PySem.Challenge.pw_ditchturn_k10_one_hour_dealt.main.body.getD i (.Pass ⟨0, 0, 0, 0⟩)
abbrev s_common : Stmt := topS 1
abbrev N_common : List Str := ["a", "b"]
theorem sc_common : FnScope N_common ["a", "b"] (defScope s_common) := ⟨rfl, rfl, rfl, by decide +kernel, rfl, by decide +kernel, by decide +kernel⟩
abbrev s_plus : Stmt := topS 2
abbrev N_plus : List Str := ["a", "b", "shared", "rest", "top", "again"]
theorem sc_plus : FnScope N_plus ["a", "b"] (defScope s_plus) := ⟨rfl, rfl, rfl, by decide +kernel, rfl, by decide +kernel, by decide +kernel⟩
abbrev s_minus : Stmt := topS 3
abbrev N_minus : List Str := ["a", "b"]
theorem sc_minus : FnScope N_minus ["a", "b"] (defScope s_minus) := ⟨rfl, rfl, rfl, by decide +kernel, rfl, by decide +kernel, by decide +kernel⟩
abbrev s_below : Stmt := topS 4
abbrev N_below : List Str := ["a", "b"]
theorem sc_below : FnScope N_below ["a", "b"] (defScope s_below) := ⟨rfl, rfl, rfl, by decide +kernel, rfl, by decide +kernel, by decide +kernel⟩
abbrev s_raised : Stmt := topS 6
abbrev N_raised : List Str := ["lags", "shares", "lag", "share"]
theorem sc_raised : FnScope N_raised ["lags", "shares"] (defScope s_raised) := ⟨rfl, rfl, rfl, by decide +kernel, rfl, by decide +kernel, by decide +kernel⟩
abbrev s_turn_of : Stmt := topS 7
abbrev N_turn_of : List Str := ["row", "place", "at", "part"]
theorem sc_turn_of : FnScope N_turn_of ["row"] (defScope s_turn_of) := ⟨rfl, rfl, rfl, by decide +kernel, rfl, by decide +kernel, by decide +kernel⟩
abbrev s_dealt : Stmt := topS 8
abbrev N_dealt : List Str := ["lags", "shares", "row", "place"]
theorem sc_dealt : FnScope N_dealt ["lags", "shares"] (defScope s_dealt) := ⟨rfl, rfl, rfl, by decide +kernel, rfl, by decide +kernel, by decide +kernel⟩
abbrev s__law_whole : Stmt := topS 11
abbrev N__law_whole : List Str := ["_law_found"]
theorem sc__law_whole : FnScope N__law_whole ["_law_found"] (defScope s__law_whole) := ⟨rfl, rfl, rfl, by decide +kernel, rfl, by decide +kernel, by decide +kernel⟩
abbrev s__law_low : Stmt := topS 12
abbrev N__law_low : List Str := ["_law_top", "_law_bottom", "_law_one", "_law_other"]
theorem sc__law_low : FnScope N__law_low ["_law_top", "_law_bottom"] (defScope s__law_low) := ⟨rfl, rfl, rfl, by decide +kernel, rfl, by decide +kernel, by decide +kernel⟩
abbrev s__law_add : Stmt := topS 13
abbrev N__law_add : List Str := ["_law_a", "_law_b"]
theorem sc__law_add : FnScope N__law_add ["_law_a", "_law_b"] (defScope s__law_add) := ⟨rfl, rfl, rfl, by decide +kernel, rfl, by decide +kernel, by decide +kernel⟩
abbrev s__law_sub : Stmt := topS 14
abbrev N__law_sub : List Str := ["_law_a", "_law_b"]
theorem sc__law_sub : FnScope N__law_sub ["_law_a", "_law_b"] (defScope s__law_sub) := ⟨rfl, rfl, rfl, by decide +kernel, rfl, by decide +kernel, by decide +kernel⟩
abbrev s__law_less : Stmt := topS 15
abbrev N__law_less : List Str := ["_law_a", "_law_b"]
theorem sc__law_less : FnScope N__law_less ["_law_a", "_law_b"] (defScope s__law_less) := ⟨rfl, rfl, rfl, by decide +kernel, rfl, by decide +kernel, by decide +kernel⟩
abbrev s__law_part : Stmt := topS 16
abbrev N__law_part : List Str := ["_law_found"]
theorem sc__law_part : FnScope N__law_part ["_law_found"] (defScope s__law_part) := ⟨rfl, rfl, rfl, by decide +kernel, rfl, by decide +kernel, by decide +kernel⟩
abbrev s__law_parts : Stmt := topS 17
abbrev N__law_parts : List Str := ["_law_found", "_law_a"]
theorem sc__law_parts : FnScope N__law_parts ["_law_found"] (defScope s__law_parts) := ⟨rfl, rfl, rfl, by decide +kernel, rfl, by decide +kernel, by decide +kernel⟩
abbrev s__law_first : Stmt := topS 20
abbrev N__law_first : List Str := ["_law_row", "_law_at", "_law_k"]
theorem sc__law_first : FnScope N__law_first ["_law_row"] (defScope s__law_first) := ⟨rfl, rfl, rfl, by decide +kernel, rfl, by decide +kernel, by decide +kernel⟩
abbrev s__law_many_fields : Stmt := topS 22
abbrev N__law_many_fields : List Str := ["_law_one", "_law_top"]
theorem sc__law_many_fields : FnScope N__law_many_fields ["_law_one", "_law_top"] (defScope s__law_many_fields) := ⟨rfl, rfl, rfl, by decide +kernel, rfl, by decide +kernel, by decide +kernel⟩
abbrev s__law_any : Stmt := topS 18
abbrev N__law_any : List Str := ["_law_one", "_law_two", "_law_top", "_law_bottom"]
theorem sc__law_any : FnScope N__law_any ["_law_one", "_law_two"] (defScope s__law_any) := ⟨rfl, rfl, rfl, by decide +kernel, rfl, by decide +kernel, by decide +kernel⟩
abbrev s__law_shares : Stmt := topS 19
abbrev N__law_shares : List Str := ["_law_row", "_law_n", "_law_weights", "_law_whole_here", "_law_one", "_law_weight"]
theorem sc__law_shares : FnScope N__law_shares ["_law_row", "_law_n"] (defScope s__law_shares) := ⟨rfl, rfl, rfl, by decide +kernel, rfl, by decide +kernel, by decide +kernel⟩
abbrev s__law_hour : Stmt := topS 21
abbrev N__law_hour : List Str := ["_law_lags", "_law_shares_here", "_law_row", "_law_at", "_law_lag", "_law_share"]
theorem sc__law_hour : FnScope N__law_hour ["_law_lags", "_law_shares_here"] (defScope s__law_hour) := ⟨rfl, rfl, rfl, by decide +kernel, rfl, by decide +kernel, by decide +kernel⟩
abbrev s__law_lived : Stmt := topS 23
abbrev N__law_lived : List Str := ["_law_n", "_law_row", "_law_hours", "_law_k", "_law_lags"]
theorem sc__law_lived : FnScope N__law_lived ["_law_n", "_law_row", "_law_hours"] (defScope s__law_lived) := ⟨rfl, rfl, rfl, by decide +kernel, rfl, by decide +kernel, by decide +kernel⟩
abbrev s__law_flow : Stmt := topS 10
abbrev N__law_flow : List Str := ["_law_script", "_law_many", "_law_great", "_law_row", "_law_k", "_law_cell", "_law_mixed"]
theorem sc__law_flow : FnScope N__law_flow ["_law_script", "_law_many"] (defScope s__law_flow) := ⟨rfl, rfl, rfl, by decide +kernel, rfl, by decide +kernel, by decide +kernel⟩
abbrev s_law : Stmt := topS 24
abbrev N_law : List Str := ["_law_script", "_law_row", "_law_n", "_law_lags", "_law_shares_here", "_law_handed", "_law_due", "_law_turn", "_law_found", "_law_k"]
theorem sc_law : FnScope N_law ["_law_script"] (defScope s_law) := ⟨rfl, rfl, rfl, by decide +kernel, rfl, by decide +kernel, by decide +kernel⟩
section
variable {P : Program} {w : World} {K : PySem.W.Frag} {mg : Str → Option Value} {base : Heap}
def sp_common : Sp := fun vs H Q _ => ∃ a b : Int, vs = [.int a, .int b] ∧ 0 < b ∧ Q (.int (gc a b)) H
theorem ok_common {k : Nat} (D : Df K mg "common" s_common ["a", "b"]) : FnOk P w K mg base CX0 (k + 1) D.f D.fd ["a", "b"] sp_common := by
  refine D.F.ok sc_common (fun vs H Q E h => ?_) (fun cdv A outer s H vs Q E hr h => ?_)
  · obtain ⟨a, b, rfl, _⟩ := h
    rfl
  · obtain ⟨a, b, rfl, hb, q⟩ := h
    refine ⟨_, (pss_cons (ps_while PassesOwn.never (pt_cmpR op_gt (pv 1) pe_int (nomark _)) (pss_one (ps_par (i := 0) (j := 1) (by rfl) sc_common.nd rfl rfl (by decide) rfl rfl (pa_cons (pv 1) (pa_cons (pe_op op_mod (pv 0) (pv 1)) pa_nil)) (by rfl))))
      (pss_one (ps_ret (pv 0)))), ?_⟩
    refine while_by (fun σ H' => ∃ x y : Int, σ = [some (.int x), some (.int y)] ∧ H' = H ∧ 0 ≤ y ∧ Int.gcd x y = Int.gcd a b ∧ (y = 0 → 0 ≤ x))
      (fun σ _ => match σ with | [_, some (.int y)] => y.toNat | _ => 0) ⟨a, b, rfl, rfl, by omega, rfl, by omega⟩ ?_ ?_
    · rintro σ H' ⟨x, y, rfl, rfl, h0, hg, hz⟩
      refine ⟨_, rfl, _, _, rfl, rfl, _, rfl, ite2 (fun e => ?_) (fun e => ?_)⟩
      · have e1 : 0 < y := of_decide_eq_true e
        refine ⟨_, rfl, _, rfl, _, rfl, _, _, rfl, rfl, e1, _, _, rfl, ⟨y, x % y, rfl, rfl, Int.emod_nonneg x (by omega), gc_step.trans hg, fun _ => by omega⟩, ?_⟩
        show (x % y).toNat < y.toNat
        have := Int.emod_lt_of_pos x e1
        have := Int.emod_nonneg x (show y ≠ 0 by omega)
        omega
      · have e1 : ¬ 0 < y := fun z => e (decide_eq_true z)
        have e2 : y = 0 := by omega
        subst e2
        refine ⟨_, rfl, ?_⟩
        have e3 : x = gc a b := by
          unfold gc
          rw [← hg, Int.gcd_zero]
          have := hz rfl
          omega
        rw [e3]
        exact q
    · rintro σ H' Q1 Q2 hq ⟨v, e, i, j, e1, e2, c, e3, r⟩
      exact ⟨v, e, i, j, e1, e2, c, e3, hq _ _ r⟩

theorem ok_plus {k : Nat} (D : Df K mg "plus" s_plus ["a", "b"]) (D_common : Df K mg "common" s_common ["a", "b"]) : FnOk P w K mg base CX0 (k + 2) D.f D.fd ["a", "b"] (sp_two K lowC addP) := by
  have G_common : FnOk P w K mg base CX0 1 D_common.f D_common.fd ["a", "b"] sp_common := ok_common D_common
  refine D.F.ok sc_plus (fun vs H Q E h => len_two h) (fun cdv A outer s H vs Q E hr h => ?_)
  obtain ⟨v, u, x, y, n, m, rfl, ⟨p, rfl, hp⟩, ⟨r, rfl, hq⟩, ox, oy, hn, ⟨lx, ly⟩, q⟩ := h
  refine ⟨_, (pss_cons (ps_set (i := 2) sc_plus.nd rfl (.inl rfl) (pe_call G_common (hr.mono (by omega)) (by rfl) D_common.g D_common.F.kp D_common.b .nil pass0 (pa_cons (pe_ix ix_tup (pv 0) pe_int (fun _ _ => rfl)) (pa_cons (pe_ix ix_tup (pv 1) pe_int (fun _ _ => rfl)) pa_nil))))
      (pss_cons (ps_set (i := 3) sc_plus.nd rfl (.inl rfl) (pe_op op_fdivW (pe_ix ix_tup (pv 0) pe_int (fun _ _ => rfl)) (pv 2)))
      (pss_cons (ps_set (i := 4) sc_plus.nd rfl (.inl rfl) (pe_op op_add (pe_op op_mulW (pe_ix ix_tup (pv 0) pe_int (fun _ _ => rfl)) (pe_op op_fdivW (pe_ix ix_tup (pv 1) pe_int (fun _ _ => rfl)) (pv 2))) (pe_op op_mulW (pe_ix ix_tup (pv 1) pe_int (fun _ _ => rfl)) (pv 3))))
      (pss_cons (ps_set (i := 5) sc_plus.nd rfl (.inl rfl) (pe_call G_common (hr.mono (by omega)) (by rfl) D_common.g D_common.F.kp D_common.b .nil pass0 (pa_cons (pv 4) (pa_cons (pv 2) pa_nil))))
      (pss_one (ps_ret (pe_tup (pa_cons (pe_op op_fdivW (pv 4) (pv 5)) (pa_cons (pe_op op_mulW (pv 3) (pe_op op_fdivW (pe_ix ix_tup (pv 1) pe_int (fun _ _ => rfl)) (pv 5))) pa_nil))))))))), ?_⟩
  have hs := gc_pos (a := x.2) oy.pos
  have bs := oy.bot.gc (x := x.2) oy.pos
  have br := ox.bot.div (gc_dl x.2 y.2)
  have bt := (ox.top.mul (oy.bot.div (gc_dr x.2 y.2))).add ((oy.top.mul br).mono (show m + n ≤ n + m by omega))
  have hg := gc_pos (a := x.1 * (y.2 / gc x.2 y.2) + y.1 * (x.2 / gc x.2 y.2)) hs
  have bg := bs.gc (x := x.1 * (y.2 / gc x.2 y.2) + y.1 * (x.2 / gc x.2 y.2)) hs
  have gd : gc (x.1 * (y.2 / gc x.2 y.2) + y.1 * (x.2 / gc x.2 y.2)) (gc x.2 y.2) ∣ y.2 := Int.dvd_trans (gc_dr _ _) (gc_dr _ _)
  refine ⟨_, rfl, p, _, 1, _, rfl, rfl, hp, rfl, _, rfl, r, _, 1, _, rfl, rfl, hq, rfl, _, _, rfl, oy.pos, ?_⟩
  refine ⟨_, rfl, p, _, 1, _, rfl, rfl, hp, rfl, _, rfl, _, _, rfl, rfl, bd_divok hs bs (by omega), ?_⟩
  refine ⟨_, rfl, p, _, 0, _, rfl, rfl, hp, rfl, _, rfl, r, _, 1, _, rfl, rfl, hq, rfl, _, rfl, _, _, rfl, rfl, bd_divok hs bs (by omega), _, _, rfl, rfl, bd_mulok ox.top (oy.bot.div (gc_dr x.2 y.2)) (by omega), _, rfl, r, _, 0, _, rfl, rfl, hq, rfl, _, rfl, _, _, rfl, rfl, bd_mulok oy.top br (by omega), _, _, rfl, rfl, ?_⟩
  refine ⟨_, rfl, _, rfl, _, _, rfl, hs, ?_⟩
  refine ⟨_, rfl, _, rfl, _, _, rfl, rfl, bd_divok hg bg (by omega), _, rfl, _, rfl, r, _, 1, _, rfl, rfl, hq, rfl, _, rfl, _, _, rfl, rfl, bd_divok hg bg (by omega), _, _, rfl, rfl, bd_mulok br (oy.bot.div gd) (by omega), (by show 2 ≤ sizeLine; decide), fun t ht => ?_⟩
  refine q _ _ (same_upd ht) ?_
  obtain ⟨e1, e2⟩ := plus_is lx ly
  show Pr K _ _ (addP x y).1 (addP x y).2
  unfold addP lowP
  dsimp only
  rw [← e1, ← e2]
  exact Pr.new

theorem ok_minus {k : Nat} (D : Df K mg "minus" s_minus ["a", "b"]) (D_common : Df K mg "common" s_common ["a", "b"]) (D_plus : Df K mg "plus" s_plus ["a", "b"]) : FnOk P w K mg base CX0 (k + 3) D.f D.fd ["a", "b"] (sp_two K lowC subP) := by
  have G_plus : FnOk P w K mg base CX0 2 D_plus.f D_plus.fd ["a", "b"] (sp_two K lowC addP) := ok_plus D_plus D_common
  refine D.F.ok sc_minus (fun vs H Q E h => len_two h) (fun cdv A outer s H vs Q E hr h => ?_)
  obtain ⟨v, u, x, y, n, m, rfl, hp, ⟨r, rfl, hq⟩, ox, oy, hn, ⟨lx, ly⟩, q⟩ := h
  refine ⟨_, (pss_one (ps_ret (pe_call G_plus (hr.mono (by omega)) (by rfl) D_plus.g D_plus.F.kp D_plus.b .nil pass0 (pa_cons (pv 0) (pa_cons (pe_tup (pa_cons (pe_un un_neg (pe_ix ix_tup (pv 1) pe_int (fun _ _ => rfl))) (pa_cons (pe_ix ix_tup (pv 1) pe_int (fun _ _ => rfl)) pa_nil))) pa_nil))))), ?_⟩
  refine ⟨_, rfl, _, rfl, r, _, 0, _, rfl, rfl, hq, rfl, _, rfl, _, rfl, r, _, 1, _, rfl, rfl, hq, rfl, (by show 2 ≤ sizeLine; decide), fun t ht => ?_⟩
  refine ⟨_, _, x, (-y.1, y.2), n, m, rfl, hp.same (same_upd ht), Pr.new, ox, ⟨oy.pos, oy.top.neg, oy.bot⟩, hn, ⟨lx, low_neg ly⟩, fun H' r' sm pr => ?_⟩
  rw [subP_eq] at pr
  exact q _ _ ((same_upd ht).trans sm) pr

def sp_below (K : PySem.W.Frag) : Sp := fun vs H Q _ => ∃ (v u : V) (a b c d : Int) (n : Nat), vs = [v, u] ∧ Pr K H v a b ∧ Pr K H u c d ∧ (Bd n a ∧ Bd n b ∧ Bd n c ∧ Bd n d) ∧ n ≤ 9000 ∧ Q (.bl (decide (a * d < c * b))) H
theorem ok_below {k : Nat} (D : Df K mg "below" s_below ["a", "b"]) : FnOk P w K mg base CX0 (k + 1) D.f D.fd ["a", "b"] (sp_below K) := by
  refine D.F.ok sc_below (fun vs H Q E h => ?_) (fun cdv A outer s H vs Q E hr h => ?_)
  · obtain ⟨v, u, a, b, c, d, n, rfl, _⟩ := h
    rfl
  · obtain ⟨v, u, a, b, c, d, n, rfl, ⟨p, rfl, hp⟩, ⟨r, rfl, hq⟩, ⟨b1, b2, b3, b4⟩, hn, q⟩ := h
    refine ⟨_, (pss_one (ps_ret (pe_cmpR op_lt (pe_op op_mulW (pe_ix ix_tup (pv 0) pe_int (fun _ _ => rfl)) (pe_ix ix_tup (pv 1) pe_int (fun _ _ => rfl))) (pe_op op_mulW (pe_ix ix_tup (pv 1) pe_int (fun _ _ => rfl)) (pe_ix ix_tup (pv 0) pe_int (fun _ _ => rfl))) (nomark _)))), ?_⟩
    refine ⟨_, rfl, p, _, 0, _, rfl, rfl, hp, rfl, _, rfl, r, _, 1, _, rfl, rfl, hq, rfl, _, _, rfl, rfl, bd_mulok b1 b4 (by omega), ?_⟩
    exact ⟨_, rfl, r, _, 0, _, rfl, rfl, hq, rfl, _, rfl, p, _, 1, _, rfl, rfl, hp, rfl, _, _, rfl, rfl, bd_mulok b3 b2 (by omega), _, _, rfl, rfl, q⟩

theorem ok_raised {k : Nat} (D : Df K mg "raised" s_raised ["lags", "shares"]) (D_common : Df K mg "common" s_common ["a", "b"]) (D_plus : Df K mg "plus" s_plus ["a", "b"]) (m_zip : mg "zip" = none) : FnOk P w K mg base CX0 (k + 3) D.f D.fd ["lags", "shares"] (sp_raised K) := by
  have G_plus : FnOk P w K mg base CX0 2 D_plus.f D_plus.fd ["a", "b"] (sp_two K lowC addP) := ok_plus D_plus D_common
  refine D.F.ok sc_raised (fun vs H Q E h => ?_) (fun cdv A outer s H vs Q E hr h => ?_)
  · obtain ⟨p, q, xs, ys, rfl, _⟩ := h
    rfl
  obtain ⟨p, r, xs, ys, rfl, ⟨us, ep, hP⟩, ⟨ws, er, hR⟩, hl, hn, hx, hy, q⟩ := h
  refine ⟨_, (pss_one (ps_ret (pe_lc (own := [("lag", 2), ("share", 3)]) (g := gTup K 2 (gCons (gName 2) (gCons (gName 3) gNil))) (tt := tYes) rfl sc_raised.nd (pi_zip (by rfl) m_zip (pa_cons (pv 0) (pa_cons (pv 1) pa_nil))) (blkOk_by (N := N_raised) (sc := defScope s_raised) (by decide +kernel)) (fun _ _ _ _ _ => pg_tup rfl (pgs_cons (pg_name (i := 2) sc_raised.nd rfl (Or.inl rfl)) (pgs_cons (pg_name (i := 3) sc_raised.nd rfl (Or.inl rfl)) pgs_nil))) (fun _ _ _ _ _ => pts_nil) (fun _ _ _ _ _ => (pe_call G_plus (hr.mono (by omega)) (by rfl) D_plus.g D_plus.F.kp D_plus.b .nil pass0 (pa_cons (pv 2) (pa_cons (pv 3) pa_nil))))))), ?_⟩
  refine ⟨_, rfl, _, rfl, p, r, us, ws, rfl, SqL.of ep, SqL.of er, fun Dd hD => ?_⟩
  refine lc_it (walk_zip (xs := us) (ys := ws) (n := xs.length) (by rw [hP.len, hR.len, hl, Nat.min_self])) (fun i H' => ∃ vs, H' Dd = some (.lst vs) ∧ Pps K H' vs ((List.zipWith addP xs ys).take i) ∧ Same H H') ⟨[], upd_same, .nil, same_upd hD⟩ (fun i H' _ hW => ?_) (fun i x H' H'' hi hW hy' => ?_) (fun H' hW => ?_)
  · obtain ⟨vs, _, _, sm⟩ := hW
    exact ⟨SqL.of (sm _ _ ep), SqL.of (sm _ _ er)⟩
  · obtain ⟨vs, eD, hV, sm⟩ := hW
    obtain ⟨T, x1, x2, rfl, nT, rfl, f1, f2⟩ := hy'
    obtain ⟨a, ha, pa⟩ := pps_get hP f1
    obtain ⟨b, hb, pb⟩ := pps_get hR f2
    have oa := hx a (List.mem_of_getElem? ha)
    have ob := hy b (List.mem_of_getElem? hb)
    have st := same_upd (o := .tup [x1, x2]) nT
    have sm2 := sm.trans st
    refine ⟨T, [x1, x2], rfl, SqT.of upd_same, rfl, x1, [x2], rfl, x2, [], rfl, rfl, ?_⟩
    refine ⟨rfl, ?_⟩
    dsimp only [tYes]
    rw [if_pos rfl]
    refine ⟨_, rfl, _, rfl, x1, x2, a, b, 3800, 3800, rfl, pa.same sm2, pb.same sm2, oa.1, ob.1, by decide, ⟨oa.2, ob.2⟩, fun H4 v4 s4 p4 => ?_⟩
    have eD4 := s4 _ _ (st _ _ eD)
    refine ⟨vs, eD4, small1000 ?_, vs ++ [v4], upd_same, ?_, same_at hD (sm2.trans s4)⟩
    · rw [hV.len, List.length_take]
      omega
    · rw [zip_at ha hb]
      exact pps_grow eD4 ((hV.same st).same s4) p4
  · obtain ⟨vs, eD, hV, sm⟩ := hW
    rw [List.take_of_length_le (by rw [List.length_zipWith]; omega)] at hV
    exact q _ _ sm hD ⟨vs, eD, hV⟩

def sp_turn (K : PySem.W.Frag) : Sp := fun vs H Q _ => ∃ (p : Addr) (xs : List Q2), vs = [.ref p] ∧ LP K H p xs ∧ 0 < xs.length ∧ xs.length ≤ 1000 ∧ AllOk 4000 xs ∧ ∀ H', Same H H' → Q (.int (firstM xs : Int)) H'
theorem ok_turn_of {k : Nat} (D : Df K mg "turn_of" s_turn_of ["row"]) (D_below : Df K mg "below" s_below ["a", "b"]) (m_enumerate : mg "enumerate" = none) : FnOk P w K mg base CX0 (k + 2) D.f D.fd ["row"] (sp_turn K) := by
  have G_below : FnOk P w K mg base CX0 1 D_below.f D_below.fd ["a", "b"] (sp_below K) := ok_below D_below
  refine D.F.ok sc_turn_of (fun vs H Q E h => ?_) (fun cdv A outer s H vs Q E hr h => ?_)
  · obtain ⟨p, xs, rfl, _⟩ := h
    rfl
  obtain ⟨p, xs, rfl, ⟨us, ep, hP⟩, h0, hn, hx, q⟩ := h
  refine ⟨_, (pss_cons (ps_set (i := 1) sc_turn_of.nd rfl (.inl rfl) pe_int)
      (pss_cons (ps_for PassesOwn.never rfl (pi_enum (by rfl) m_enumerate (pa_cons (pv 0) pa_nil)) (pg_tup rfl (pgs_cons (pg_name (i := 2) sc_turn_of.nd rfl (.inl rfl)) (pgs_cons (pg_name (i := 3) sc_turn_of.nd rfl (.inl rfl)) pgs_nil))) (pss_one (ps_if (pt_val (pe_call G_below (hr.mono (by omega)) (by rfl) D_below.g D_below.F.kp D_below.b .nil pass0 (pa_cons (pe_ix ix_list (pv 0) (pv 1) (fun _ _ => rfl)) (pa_cons (pv 3) pa_nil)))) (pss_one (ps_set (i := 1) sc_turn_of.nd rfl (.inl rfl) (pv 2))) pss_nil)))
      (pss_one (ps_ret (pv 1))))), ?_⟩
  have hul := hP.len
  refine ⟨_, rfl, p, us, rfl, SqL.of ep, ?_⟩
  refine for_it (walk_enum (xs := us)) (fun i σ H3 => ∃ y2 y3, σ = [some (.ref p), some (.int (firstF xs i : Int)), y2, y3] ∧ Same H H3) ⟨_, _, rfl, Same.refl _⟩ (fun i σ H3 _ hW => ?_) (fun i x σ H3 H4 hi hW hy => ?_) (fun σ H3 hW => ?_)
  · obtain ⟨_, _, _, sm⟩ := hW
    exact SqL.of (sm _ _ ep)
  · obtain ⟨y2, y3, rfl, sm⟩ := hW
    obtain ⟨T, x1, x2, rfl, nT, rfl, f1, f2⟩ := hy
    cases f1
    have hf := firstF_lt xs i
    have hfl : firstF xs i < xs.length := by omega
    have hil : i < xs.length := by omega
    obtain ⟨v1, g1, p1⟩ := pps_at hP (item_some hfl)
    obtain ⟨v2, g2, p2⟩ := pps_at hP (item_some hil)
    obtain rfl : x2 = v2 := Option.some.inj (f2.symm.trans g2)
    have st := same_upd (o := .tup [.int ((i : Nat) : Int), x2]) nT
    have sm2 := sm.trans st
    have o1 := (item_ok hx hfl).1
    have o2 := (item_ok hx hil).1
    refine ⟨T, _, rfl, SqT.of upd_same, rfl, _, _, rfl, _, _, rfl, rfl, ?_⟩
    refine ⟨_, rfl, _, rfl, p, us, _, v1, rfl, rfl, SqL.of (sm2 _ _ ep), atI_nat g1, _, rfl, v1, x2, _, _, _, _, 4000, rfl, p1.same sm2, p2.same sm2, ⟨o1.top, o1.bot, o2.top, o2.bot⟩, by decide, _, rfl, ite2 (fun e => ?_) (fun e => ?_)⟩
    · refine ⟨_, rfl, some (.int ((i : Nat) : Int)), some x2, ?_, sm2⟩
      have : firstF xs (i + 1) = i := by
        unfold firstF
        exact if_pos e
      rw [this]
      rfl
    · refine ⟨some (.int ((i : Nat) : Int)), some x2, ?_, sm2⟩
      have : firstF xs (i + 1) = firstF xs i := by
        show (if lessP (itemP xs (firstF xs i)) (itemP xs i) = true then i else firstF xs i) = _
        exact if_neg e
      rw [this]
      rfl
  · obtain ⟨y2, y3, rfl, sm⟩ := hW
    rw [hul]
    exact ⟨_, rfl, q _ sm⟩

theorem ok_dealt {k : Nat} (D : Df K mg "dealt" s_dealt ["lags", "shares"]) (D_common : Df K mg "common" s_common ["a", "b"]) (D_plus : Df K mg "plus" s_plus ["a", "b"]) (D_minus : Df K mg "minus" s_minus ["a", "b"]) (D_below : Df K mg "below" s_below ["a", "b"]) (D_raised : Df K mg "raised" s_raised ["lags", "shares"]) (D_turn_of : Df K mg "turn_of" s_turn_of ["row"]) (m_enumerate : mg "enumerate" = none) (m_zip : mg "zip" = none) :
    FnOk P w K mg base CX0 (k + 4) D.f D.fd ["lags", "shares"] (sp_hour K) := by
  have G_raised : FnOk P w K mg base CX0 3 D_raised.f D_raised.fd ["lags", "shares"] (sp_raised K) := ok_raised D_raised D_common D_plus m_zip
  have G_turn_of : FnOk P w K mg base CX0 3 D_turn_of.f D_turn_of.fd ["row"] (sp_turn K) := ok_turn_of D_turn_of D_below m_enumerate
  have G_minus : FnOk P w K mg base CX0 3 D_minus.f D_minus.fd ["a", "b"] (sp_two K lowC subP) := ok_minus D_minus D_common D_plus
  refine D.F.ok sc_dealt (fun vs H Q E h => ?_) (fun cdv A outer s H vs Q E hr h => ?_)
  · obtain ⟨p, q, xs, ys, N, rfl, _⟩ := h
    rfl
  obtain ⟨p, r, xs, ys, N, rfl, hp, hr', hl, h0, hn, hx, hy, hN, q⟩ := h
  refine ⟨_, (pss_cons (ps_set (i := 2) sc_dealt.nd rfl (.inl rfl) (pe_call G_raised (hr.mono (by omega)) (by rfl) D_raised.g D_raised.F.kp D_raised.b .nil pass0 (pa_cons (pv 0) (pa_cons (pv 1) pa_nil))))
      (pss_cons (ps_set (i := 3) sc_dealt.nd rfl (.inl rfl) (pe_call G_turn_of (hr.mono (by omega)) (by rfl) D_turn_of.g D_turn_of.F.kp D_turn_of.b .nil pass0 (pa_cons (pv 2) pa_nil)))
      (pss_cons (ps_asg (pe_call G_minus (hr.mono (by omega)) (by rfl) D_minus.g D_minus.F.kp D_minus.b .nil pass0 (pa_cons (pe_ix ix_list (pv 2) (pv 3) (fun _ _ => rfl)) (pa_cons (pe_tup (pa_cons pe_int (pa_cons pe_int pa_nil))) pa_nil))) (pg_sub (pv 2) (pv 3) set_list))
      (pss_one (ps_ret (pe_tup (pa_cons (pv 3) (pa_cons (pv 2) pa_nil)))))))), ?_⟩
  refine ⟨_, rfl, _, rfl, p, r, xs, ys, rfl, hp, hr', hl, hn, hx.mono (by omega), hy.mono (by decide), fun H1 Dd sm hD lp1 => ?_⟩
  have lz : (List.zipWith addP xs ys).length = xs.length := by rw [List.length_zipWith]; omega
  have oz := zip_ok hx hy
  have hf := firstM_lt (xs := List.zipWith addP xs ys) (by omega)
  have oi := item_ok oz hf
  refine ⟨_, rfl, Dd, _, rfl, lp1, by omega, by omega, oz.mono (by omega), fun H1 sm' => ?_⟩
  replace lp1 := lp1.same sm'
  replace sm := sm.trans sm'
  obtain ⟨vs, eD, hV⟩ := lp1
  obtain ⟨v1, g1, p1⟩ := pps_at hV (item_some hf)
  have hvl := hV.len
  refine ⟨_, rfl, _, rfl, Dd, vs, _, v1, rfl, rfl, SqL.of eD, atI_nat g1, (by show 2 ≤ sizeLine; decide), fun t ht => ?_⟩
  have st := same_upd (o := .tup [.int 1, .int 1]) ht
  refine ⟨v1, .ref t, _, (1, 1), N + 26 + 1, 1, rfl, p1.same st, Pr.new, oi.1, ok11, by omega, ⟨oi.2, ⟨by decide, rfl⟩⟩, fun H5 v5 s5 p5 => ?_⟩
  have eD5 := s5 _ _ (st _ _ eD)
  refine ⟨_, rfl, _, rfl, Dd, vs, _, firstM (List.zipWith addP xs ys), rfl, rfl, eD5, ix_nat (by omega), ?_⟩
  have lp := LP.put eD5 ((hV.same st).same s5) p5 (firstM (List.zipWith addP xs ys))
  have s6 : Same H (upd H5 Dd (.lst (vs.set (firstM (List.zipWith addP xs ys)) v5))) := same_at hD (sm.trans (st.trans s5))
  refine ⟨_, rfl, _, rfl, (by show 2 ≤ sizeLine; decide), fun t2 ht2 => ?_⟩
  have st2 := same_upd (o := .tup [.int (firstM (List.zipWith addP xs ys) : Int), .ref Dd]) ht2
  exact q _ t2 Dd (s6.trans st2) hD (SqT.of upd_same) (lp.same st2)

def sp__law_whole : Sp := fun vs H Q _ => ∃ i : Int, vs = [.int i] ∧ Q (.bl true) H
theorem ok__law_whole {k : Nat} (D : Df K mg "_law_whole" s__law_whole ["_law_found"]) (m_isinstance : mg "isinstance" = none) (m_int : mg "int" = none) (m_bool : mg "bool" = none) : FnOk P w K mg base CX0 (k + 1) D.f D.fd ["_law_found"] sp__law_whole := by
  refine D.F.ok sc__law_whole (fun vs H Q E h => ?_) (fun cdv A outer s H vs Q E hr h => ?_)
  · obtain ⟨a, rfl, _⟩ := h
    rfl
  · obtain ⟨i, rfl, q⟩ := h
    refine ⟨_, (pss_one (ps_ret (pe_and (pe_callB call_isi (by rfl) m_isinstance PyProof.Rows.boot_isinstance (pa_cons (pv 0) (pa_cons (pe_bltn (v := .ty "int") (by rfl) m_int PyProof.Rows.boot_int rfl) pa_nil))) (pe_one (pe_not (pe_callB call_isi (by rfl) m_isinstance PyProof.Rows.boot_isinstance (pa_cons (pv 0) (pa_cons (pe_bltn (v := .ty "bool") (by rfl) m_bool PyProof.Rows.boot_bool rfl) pa_nil)))))))), ?_⟩
    refine ⟨_, rfl, _, _, _, _, true, rfl, .ty "int", .base (.int i), kit_ty (by decide +kernel), true, rfl, iteT ?_⟩
    exact ⟨_, rfl, _, _, _, _, false, rfl, .ty "bool", .base (.int i), kit_ty (by decide +kernel), false, rfl, q⟩

theorem ok__law_low {k : Nat} (D : Df K mg "_law_low" s__law_low ["_law_top", "_law_bottom"]) (m_abs : mg "abs" = none) : FnOk P w K mg base CX0 (k + 1) D.f D.fd ["_law_top", "_law_bottom"] (sp_lowest K) := by
  refine D.F.ok sc__law_low (fun vs H Q E h => ?_) (fun cdv A outer s H vs Q E hr h => ?_)
  · obtain ⟨a, b, rfl, _⟩ := h
    rfl
  · obtain ⟨a, b, rfl, hb, hB, q⟩ := h
    refine ⟨_, (pss_cons (ps_set (i := 2) sc__law_low.nd rfl (.inl rfl) (pe_callB call_abs (by rfl) m_abs boot_abs (pa_cons (pv 0) pa_nil)))
      (pss_cons (ps_set (i := 3) sc__law_low.nd rfl (.inl rfl) (pv 1))
      (pss_cons (ps_while PassesOwn.never (pt_cmpR op_gt (pv 3) pe_int (nomark _)) (pss_one (ps_par (i := 2) (j := 3) (by rfl) sc__law_low.nd rfl rfl (by decide) rfl rfl (pa_cons (pv 3) (pa_cons (pe_op op_mod (pv 2) (pv 3)) pa_nil)) (by rfl))))
      (pss_one (ps_ret (pe_tup (pa_cons (pe_op op_fdivW (pv 0) (pv 2)) (pa_cons (pe_op op_fdivW (pv 1) (pv 2)) pa_nil)))))))), ?_⟩
    refine ⟨_, rfl, _, rfl, ?_⟩
    refine ⟨_, rfl, ?_⟩
    refine while_by (fun σ H' => ∃ x y : Int, σ = [some (.int a), some (.int b), some (.int x), some (.int y)] ∧ H' = H ∧ 0 ≤ y ∧ Int.gcd x y = Int.gcd a b ∧ (y = 0 → 0 ≤ x))
      (fun σ _ => match σ with | [_, _, _, some (.int y)] => y.toNat | _ => 0) ⟨_, b, rfl, rfl, by omega, gc_abs a b, by omega⟩ ?_ ?_
    · rintro σ H' ⟨x, y, rfl, rfl, h0, hg, hz⟩
      refine ⟨_, rfl, _, _, rfl, rfl, _, rfl, ite2 (fun e => ?_) (fun e => ?_)⟩
      · have e1 : 0 < y := of_decide_eq_true e
        refine ⟨_, rfl, _, rfl, _, rfl, _, _, rfl, rfl, e1, _, _, rfl, ⟨y, x % y, rfl, rfl, Int.emod_nonneg x (by omega), gc_step.trans hg, fun _ => by omega⟩, ?_⟩
        show (x % y).toNat < y.toNat
        have := Int.emod_lt_of_pos x e1
        have := Int.emod_nonneg x (show y ≠ 0 by omega)
        omega
      · have e1 : ¬ 0 < y := fun z => e (decide_eq_true z)
        have e2 : y = 0 := by omega
        subst e2
        have e3 : x = gc a b := by
          unfold gc
          rw [← hg, Int.gcd_zero]
          have := hz rfl
          omega
        subst e3
        have hg := gc_pos (a := a) hb
        have hk := hB.gc (x := a) hb
        refine ⟨_, rfl, _, rfl, _, _, rfl, rfl, bd_divok hg hk (by decide), _, rfl, _, rfl, _, _, rfl, rfl, bd_divok hg hk (by decide), (by show 2 ≤ sizeLine; decide), fun p hp => ?_⟩
        exact q _ _ (same_upd hp) Pr.new
    · rintro σ H' Q1 Q2 hq ⟨v, e, i, j, e1, e2, c, e3, r⟩
      exact ⟨v, e, i, j, e1, e2, c, e3, hq _ _ r⟩

theorem ok__law_add {k : Nat} (D : Df K mg "_law_add" s__law_add ["_law_a", "_law_b"]) (D__law_low : Df K mg "_law_low" s__law_low ["_law_top", "_law_bottom"]) (m_abs : mg "abs" = none) : FnOk P w K mg base CX0 (k + 2) D.f D.fd ["_law_a", "_law_b"] (sp_two K anyC addP) := by
  have G__law_low : FnOk P w K mg base CX0 1 D__law_low.f D__law_low.fd ["_law_top", "_law_bottom"] (sp_lowest K) := ok__law_low D__law_low m_abs
  refine D.F.ok sc__law_add (fun vs H Q E h => len_two h) (fun cdv A outer s H vs Q E hr h => ?_)
  obtain ⟨v, u, x, y, n, m, rfl, ⟨p, rfl, hp⟩, ⟨r, rfl, hq⟩, ox, oy, hn, _, q⟩ := h
  refine ⟨_, (pss_one (ps_ret (pe_call G__law_low (hr.mono (by omega)) (by rfl) D__law_low.g D__law_low.F.kp D__law_low.b .nil pass0 (pa_cons (pe_op op_add (pe_op op_mulW (pe_ix ix_tup (pv 0) pe_int (fun _ _ => rfl)) (pe_ix ix_tup (pv 1) pe_int (fun _ _ => rfl))) (pe_op op_mulW (pe_ix ix_tup (pv 1) pe_int (fun _ _ => rfl)) (pe_ix ix_tup (pv 0) pe_int (fun _ _ => rfl)))) (pa_cons (pe_op op_mulW (pe_ix ix_tup (pv 0) pe_int (fun _ _ => rfl)) (pe_ix ix_tup (pv 1) pe_int (fun _ _ => rfl))) pa_nil))))), ?_⟩
  refine ⟨_, rfl, p, _, 0, _, rfl, rfl, hp, rfl, _, rfl, r, _, 1, _, rfl, rfl, hq, rfl, _, _, rfl, rfl, bd_mulok ox.top oy.bot (by omega), ?_⟩
  refine ⟨_, rfl, r, _, 0, _, rfl, rfl, hq, rfl, _, rfl, p, _, 1, _, rfl, rfl, hp, rfl, _, _, rfl, rfl, bd_mulok oy.top ox.bot (by omega), _, _, rfl, rfl, ?_⟩
  refine ⟨_, rfl, p, _, 1, _, rfl, rfl, hp, rfl, _, rfl, r, _, 1, _, rfl, rfl, hq, rfl, _, _, rfl, rfl, bd_mulok ox.bot oy.bot (by omega), ?_⟩
  exact ⟨_, _, rfl, Int.mul_pos ox.pos oy.pos, (ox.bot.mul oy.bot).mono (by omega), fun H' r' sm pr => q _ _ sm pr⟩

theorem ok__law_sub {k : Nat} (D : Df K mg "_law_sub" s__law_sub ["_law_a", "_law_b"]) (D__law_low : Df K mg "_law_low" s__law_low ["_law_top", "_law_bottom"]) (m_abs : mg "abs" = none) : FnOk P w K mg base CX0 (k + 2) D.f D.fd ["_law_a", "_law_b"] (sp_two K anyC subP) := by
  have G__law_low : FnOk P w K mg base CX0 1 D__law_low.f D__law_low.fd ["_law_top", "_law_bottom"] (sp_lowest K) := ok__law_low D__law_low m_abs
  refine D.F.ok sc__law_sub (fun vs H Q E h => len_two h) (fun cdv A outer s H vs Q E hr h => ?_)
  obtain ⟨v, u, x, y, n, m, rfl, ⟨p, rfl, hp⟩, ⟨r, rfl, hq⟩, ox, oy, hn, _, q⟩ := h
  refine ⟨_, (pss_one (ps_ret (pe_call G__law_low (hr.mono (by omega)) (by rfl) D__law_low.g D__law_low.F.kp D__law_low.b .nil pass0 (pa_cons (pe_op op_sub (pe_op op_mulW (pe_ix ix_tup (pv 0) pe_int (fun _ _ => rfl)) (pe_ix ix_tup (pv 1) pe_int (fun _ _ => rfl))) (pe_op op_mulW (pe_ix ix_tup (pv 1) pe_int (fun _ _ => rfl)) (pe_ix ix_tup (pv 0) pe_int (fun _ _ => rfl)))) (pa_cons (pe_op op_mulW (pe_ix ix_tup (pv 0) pe_int (fun _ _ => rfl)) (pe_ix ix_tup (pv 1) pe_int (fun _ _ => rfl))) pa_nil))))), ?_⟩
  refine ⟨_, rfl, p, _, 0, _, rfl, rfl, hp, rfl, _, rfl, r, _, 1, _, rfl, rfl, hq, rfl, _, _, rfl, rfl, bd_mulok ox.top oy.bot (by omega), ?_⟩
  refine ⟨_, rfl, r, _, 0, _, rfl, rfl, hq, rfl, _, rfl, p, _, 1, _, rfl, rfl, hp, rfl, _, _, rfl, rfl, bd_mulok oy.top ox.bot (by omega), _, _, rfl, rfl, ?_⟩
  refine ⟨_, rfl, p, _, 1, _, rfl, rfl, hp, rfl, _, rfl, r, _, 1, _, rfl, rfl, hq, rfl, _, _, rfl, rfl, bd_mulok ox.bot oy.bot (by omega), ?_⟩
  exact ⟨_, _, rfl, Int.mul_pos ox.pos oy.pos, (ox.bot.mul oy.bot).mono (by omega), fun H' r' sm pr => q _ _ sm pr⟩

def sp_less (K : PySem.W.Frag) : Sp := fun vs H Q _ => ∃ (v u : V) (a b c d : Int) (n : Nat), vs = [v, u] ∧ Pr K H v a b ∧ Pr K H u c d ∧ (Bd n a ∧ Bd n b ∧ Bd n c ∧ Bd n d) ∧ n ≤ 9000 ∧ Q (.bl (decide (a * d < c * b))) H
theorem ok__law_less {k : Nat} (D : Df K mg "_law_less" s__law_less ["_law_a", "_law_b"]) : FnOk P w K mg base CX0 (k + 1) D.f D.fd ["_law_a", "_law_b"] (sp_less K) := by
  refine D.F.ok sc__law_less (fun vs H Q E h => ?_) (fun cdv A outer s H vs Q E hr h => ?_)
  · obtain ⟨v, u, a, b, c, d, n, rfl, _⟩ := h
    rfl
  · obtain ⟨v, u, a, b, c, d, n, rfl, ⟨p, rfl, hp⟩, ⟨r, rfl, hq⟩, ⟨b1, b2, b3, b4⟩, hn, q⟩ := h
    refine ⟨_, (pss_one (ps_ret (pe_cmpR op_lt (pe_op op_mulW (pe_ix ix_tup (pv 0) pe_int (fun _ _ => rfl)) (pe_ix ix_tup (pv 1) pe_int (fun _ _ => rfl))) (pe_op op_mulW (pe_ix ix_tup (pv 1) pe_int (fun _ _ => rfl)) (pe_ix ix_tup (pv 0) pe_int (fun _ _ => rfl))) (nomark _)))), ?_⟩
    refine ⟨_, rfl, p, _, 0, _, rfl, rfl, hp, rfl, _, rfl, r, _, 1, _, rfl, rfl, hq, rfl, _, _, rfl, rfl, bd_mulok b1 b4 (by omega), ?_⟩
    exact ⟨_, rfl, r, _, 0, _, rfl, rfl, hq, rfl, _, rfl, p, _, 1, _, rfl, rfl, hp, rfl, _, _, rfl, rfl, bd_mulok b3 b2 (by omega), _, _, rfl, rfl, q⟩

def sp__law_part (K : PySem.W.Frag) : Sp := fun vs H Q _ => ∃ (v : V) (a b : Int), vs = [v] ∧ Pr K H v a b ∧ Q (.bl true) H
theorem ok__law_part {k : Nat} (D : Df K mg "_law_part" s__law_part ["_law_found"]) (D__law_whole : Df K mg "_law_whole" s__law_whole ["_law_found"]) (m_isinstance : mg "isinstance" = none) (m_int : mg "int" = none) (m_bool : mg "bool" = none) (m_tuple : mg "tuple" = none) (m_len : mg "len" = none) :
    FnOk P w K mg base CX0 (k + 2) D.f D.fd ["_law_found"] (sp__law_part K) := by
  have G__law_whole : FnOk P w K mg base CX0 1 D__law_whole.f D__law_whole.fd ["_law_found"] sp__law_whole := ok__law_whole D__law_whole m_isinstance m_int m_bool
  refine D.F.ok sc__law_part (fun vs H Q E h => ?_) (fun cdv A outer s H vs Q E hr h => ?_)
  · obtain ⟨v, a, b, rfl, _⟩ := h
    rfl
  · obtain ⟨v, a, b, rfl, ⟨p, rfl, hp⟩, q⟩ := h
    refine ⟨_, (pss_cons (ps_if (PW.pt (pw_or (pt_not (pt_val (pe_callB call_isi (by rfl) m_isinstance PyProof.Rows.boot_isinstance (pa_cons (pv 0) (pa_cons (pe_bltn (v := .ty "tuple") (by rfl) m_tuple PyProof.Rows.boot_tuple rfl) pa_nil))))) (pw_or1 (pt_cmpR op_ne (pe_callB call_len_seq (by rfl) m_len PySem.boot_len (pa_cons (pv 0) pa_nil)) pe_int (nomark _))))) (pss_one (ps_ret pe_bl)) pss_nil)
      (pss_one (ps_ret (pe_and (pe_call G__law_whole (hr.mono (by omega)) (by rfl) D__law_whole.g D__law_whole.F.kp D__law_whole.b .nil pass0 (pa_cons (pe_ix ix_tup (pv 0) pe_int (fun _ _ => rfl)) pa_nil)) (pe_one (pe_call G__law_whole (hr.mono (by omega)) (by rfl) D__law_whole.g D__law_whole.F.kp D__law_whole.b .nil pass0 (pa_cons (pe_ix ix_tup (pv 0) pe_int (fun _ _ => rfl)) pa_nil))))))), ?_⟩
    refine ⟨_, rfl, _, _, _, _, true, rfl, .ty "tuple", sqT_ty hp, kit_ty (by decide +kernel), true, rfl, iteF ?_⟩
    refine ⟨_, rfl, p, _, rfl, .inr hp, rfl, false, rfl, iteF ?_⟩
    refine ⟨_, rfl, p, _, 0, .int a, rfl, rfl, hp, rfl, a, rfl, true, rfl, iteT ?_⟩
    exact ⟨_, rfl, p, _, 1, .int b, rfl, rfl, hp, rfl, b, rfl, q⟩

def sp__law_parts (K : PySem.W.Frag) : Sp := fun vs H Q _ => ∃ (p : Addr) (xs : List Q2), vs = [.ref p] ∧ LP K H p xs ∧ xs.length ≤ 1000 ∧ ∀ H', Same H H' → Q (.bl true) H'
theorem all_true (n : Nat) : (List.replicate n true).all id = true := by
  rw [List.all_eq_true]
  intro b hb
  rw [(List.mem_replicate.1 hb).2]
  rfl
theorem ok__law_parts {k : Nat} (D : Df K mg "_law_parts" s__law_parts ["_law_found"]) (D__law_part : Df K mg "_law_part" s__law_part ["_law_found"]) (D__law_whole : Df K mg "_law_whole" s__law_whole ["_law_found"]) (m_isinstance : mg "isinstance" = none) (m_int : mg "int" = none) (m_bool : mg "bool" = none) (m_tuple : mg "tuple" = none) (m_len : mg "len" = none) (m_list : mg "list" = none) (m_all : mg "all" = none) :
    FnOk P w K mg base CX0 (k + 3) D.f D.fd ["_law_found"] (sp__law_parts K) := by
  have G__law_part : FnOk P w K mg base CX0 2 D__law_part.f D__law_part.fd ["_law_found"] (sp__law_part K) := ok__law_part D__law_part D__law_whole m_isinstance m_int m_bool m_tuple m_len
  refine D.F.ok sc__law_parts (fun vs H Q E h => ?_) (fun cdv A outer s H vs Q E hr h => ?_)
  · obtain ⟨p, xs, rfl, _⟩ := h
    rfl
  obtain ⟨p, xs, rfl, ⟨us, ep, hP⟩, hn, q⟩ := h
  refine ⟨_, (pss_one (ps_ret (pe_and (pe_callB call_isi (by rfl) m_isinstance PyProof.Rows.boot_isinstance (pa_cons (pv 0) (pa_cons (pe_bltn (v := .ty "list") (by rfl) m_list PyProof.Rows.boot_list rfl) pa_nil))) (pe_one (pe_callB (cr_all rfl) (by rfl) m_all PyProof.Rows.boot_all (pa_cons (pe_lc (own := [("_law_a", 1)]) (g := gName 1) (tt := tYes) rfl sc__law_parts.nd (pi_list (pv 0)) (blkOk_by (N := N__law_parts) (sc := defScope s__law_parts) (by decide +kernel)) (fun _ _ _ _ _ => pg_name (i := 1) sc__law_parts.nd rfl (Or.inl rfl)) (fun _ _ _ _ _ => pts_nil) (fun _ _ _ _ _ => (pe_call G__law_part (hr.mono (by omega)) (by rfl) D__law_part.g D__law_part.F.kp D__law_part.b .nil pass0 (pa_cons (pv 1) pa_nil)))) pa_nil)))))), ?_⟩
  refine ⟨_, rfl, _, _, _, _, true, rfl, .ty "list", .base (.lst ep), kit_ty (by decide +kernel), true, rfl, iteT ?_⟩
  refine ⟨_, rfl, p, rfl, ⟨_, SqL.of ep⟩, fun Dd hD => ?_⟩
  refine lc_list (xs := us) (fun i H' => H' Dd = some (.lst ((List.replicate i true).map V.bl)) ∧ Same H H') ⟨upd_same, same_upd hD⟩ (fun i H' _ hW => SqL.of (hW.2 _ _ ep)) (fun i x H' hx hW => ?_) (fun H' hW => ?_)
  · obtain ⟨eD, sm⟩ := hW
    obtain ⟨a, ha, pa⟩ := pps_get hP hx
    have hi := (List.getElem?_eq_some_iff.1 hx).1
    have := hP.len
    refine ⟨rfl, ?_⟩
    dsimp only [tYes]
    rw [if_pos rfl]
    refine ⟨_, rfl, x, a.1, a.2, rfl, Pr.same pa sm, _, eD, small1000 (by rw [List.length_map, List.length_replicate]; omega), ?_, same_at hD sm⟩
    rw [upd_same, List.replicate_succ', List.map_append]
    rfl
  · obtain ⟨eD, sm⟩ := hW
    refine ⟨Dd, _, rfl, SqL.of eD, ?_⟩
    rw [all_true]
    exact q _ sm

theorem ok__law_first {k : Nat} (D : Df K mg "_law_first" s__law_first ["_law_row"]) (D__law_less : Df K mg "_law_less" s__law_less ["_law_a", "_law_b"]) (m_range : mg "range" = none) (m_len : mg "len" = none) : FnOk P w K mg base CX0 (k + 2) D.f D.fd ["_law_row"] (sp_first K) := by
  have G__law_less : FnOk P w K mg base CX0 1 D__law_less.f D__law_less.fd ["_law_a", "_law_b"] (sp_less K) := ok__law_less D__law_less
  refine D.F.ok sc__law_first (fun vs H Q E h => ?_) (fun cdv A outer s H vs Q E hr h => ?_)
  · obtain ⟨p, xs, rfl, _⟩ := h
    rfl
  obtain ⟨p, xs, rfl, ⟨us, ep, hP⟩, h0, hn, hx, q⟩ := h
  refine ⟨_, (pss_cons (ps_set (i := 1) sc__law_first.nd rfl (.inl rfl) pe_int)
      (pss_cons (ps_for PassesOwn.never rfl (pi_range1 (by rfl) m_range (pa_cons (pe_callB call_len_seq (by rfl) m_len PySem.boot_len (pa_cons (pv 0) pa_nil)) pa_nil)) (pg_name (i := 2) sc__law_first.nd rfl (.inl rfl)) (pss_one (ps_if (pt_val (pe_call G__law_less (hr.mono (by omega)) (by rfl) D__law_less.g D__law_less.F.kp D__law_less.b .nil pass0 (pa_cons (pe_ix ix_list (pv 0) (pv 1) (fun _ _ => rfl)) (pa_cons (pe_ix ix_list (pv 0) (pv 2) (fun _ _ => rfl)) pa_nil)))) (pss_one (ps_set (i := 1) sc__law_first.nd rfl (.inl rfl) (pv 2))) pss_nil)))
      (pss_one (ps_ret (pv 1))))), ?_⟩
  have hul := hP.len
  refine ⟨_, rfl, p, us, rfl, .inl (SqL.of ep), _, rfl, by omega, by omega, ?_⟩
  refine for_range (n := us.length) (fun i σ H3 => ∃ y2, σ = [some (.ref p), some (.int (firstF xs i : Int)), y2] ∧ H3 = H) ⟨_, rfl, rfl⟩ (fun i σ H3 hi hW => ?_) (fun σ H3 hW => ?_)
  · obtain ⟨y2, rfl, rfl⟩ := hW
    have hf := firstF_lt xs i
    have hfl : firstF xs i < xs.length := by omega
    have hil : i < xs.length := by omega
    obtain ⟨v1, g1, p1⟩ := pps_at hP (item_some hfl)
    obtain ⟨v2, g2, p2⟩ := pps_at hP (item_some hil)
    have o1 := (item_ok hx hfl).1
    have o2 := (item_ok hx hil).1
    refine ⟨_, rfl, _, rfl, p, us, _, v1, rfl, rfl, SqL.of ep, atI_nat g1, _, rfl, _, rfl, p, us, _, v2, rfl, rfl, SqL.of ep, at_of (by omega) g2, v1, v2, _, _, _, _, 4000, rfl, p1, p2, ⟨o1.top, o1.bot, o2.top, o2.bot⟩, by decide, _, rfl, ite2 (fun e => ?_) (fun e => ?_)⟩
    · refine ⟨_, rfl, ?_⟩
      refine ⟨some (.int (0 + (i : Int))), ?_, rfl⟩
      have : firstF xs (i + 1) = i := by
        unfold firstF
        exact if_pos e
      rw [this, Int.zero_add]
      rfl
    · refine ⟨some (.int (0 + (i : Int))), ?_, rfl⟩
      have : firstF xs (i + 1) = firstF xs i := by
        show (if lessP (itemP xs (firstF xs i)) (itemP xs i) = true then i else firstF xs i) = _
        exact if_neg e
      rw [this]
      rfl
  · obtain ⟨y2, rfl, rfl⟩ := hW
    rw [hul]
    exact ⟨_, rfl, q⟩

def sp__law_many_fields : Sp := fun vs H Q _ => ∃ x t : Int, vs = [.int x, .int t] ∧ 1 ≤ t ∧ ∀ n : Int, 1 ≤ n → n ≤ t → Q (.int n) H
theorem ok__law_many_fields {k : Nat} (D : Df K mg "_law_many_fields" s__law_many_fields ["_law_one", "_law_top"]) (m_min : mg "min" = none) : FnOk P w K mg base CX0 (k + 1) D.f D.fd ["_law_one", "_law_top"] sp__law_many_fields := by
  refine D.F.ok sc__law_many_fields (fun vs H Q E h => ?_) (fun cdv A outer s H vs Q E hr h => ?_)
  · obtain ⟨x, t, rfl, _⟩ := h
    rfl
  obtain ⟨x, t, rfl, ht, q⟩ := h
  refine ⟨_, (pss_cons (ps_if (pt_cmpR op_eq (pe_op op_mod (pv 0) pe_int) pe_int (nomark _)) (pss_one (ps_ret (pe_op op_add pe_int (pe_op op_mod (pe_op op_fdivW (pv 0) pe_int) (pv 1))))) pss_nil)
      (pss_one (ps_ret (pe_op op_add pe_int (pe_op op_mod (pe_op op_fdivW (pv 0) pe_int) (pe_callB (call_min2 rfl) (by rfl) m_min (by decide +kernel) (pa_cons (pv 1) (pa_cons pe_int pa_nil)))))))), ?_⟩
  have c4 : ∀ x : Int, CDivW x 4 := fun x => bd_divok (n := 20) (by decide) (by unfold Bd; decide) (by decide)
  refine ⟨_, rfl, _, _, rfl, rfl, (by show (0 : Int) < _; decide), rfl, _, rfl, ite2 (fun e => ?_) (fun e => ?_)⟩
  · have h1 := Int.emod_nonneg (x / 4) (show t ≠ 0 by omega)
    have h2 := Int.emod_lt_of_pos (x / 4) (show 0 < t by omega)
    exact ⟨_, rfl, _, _, rfl, rfl, c4 _, _, rfl, _, _, rfl, rfl, (show 0 < t by omega), _, _, rfl, rfl, q _ (by omega) (by omega)⟩
  · have hm : 0 < (if (5 : Int) < t then 5 else t) := by split <;> omega
    have hm2 : (if (5 : Int) < t then 5 else t) ≤ t := by split <;> omega
    have h1 := Int.emod_nonneg (x / 4) (show (if (5 : Int) < t then 5 else t) ≠ 0 by omega)
    have h2 := Int.emod_lt_of_pos (x / 4) hm
    exact ⟨_, rfl, _, _, rfl, rfl, c4 _, _, rfl, _, _, rfl, _, _, rfl, rfl, hm, _, _, rfl, rfl, q _ (by omega) (by omega)⟩

def sp__law_any (K : PySem.W.Frag) : Sp := fun vs H Q _ => ∃ x y : Int, vs = [.int x, .int y] ∧ (0 ≤ x ∧ x < 1000000) ∧ (0 ≤ y ∧ y < 1000000) ∧ ∀ H' v a b, Same H H' → Low a b → Bd 200 a → Bd 200 b → Pr K H' v a b → Q v H'
theorem ok__law_any {k : Nat} (D : Df K mg "_law_any" s__law_any ["_law_one", "_law_two"]) (D__law_low : Df K mg "_law_low" s__law_low ["_law_top", "_law_bottom"]) (m_abs : mg "abs" = none) : FnOk P w K mg base CX0 (k + 2) D.f D.fd ["_law_one", "_law_two"] (sp__law_any K) := by
  have G__law_low : FnOk P w K mg base CX0 1 D__law_low.f D__law_low.fd ["_law_top", "_law_bottom"] (sp_lowest K) := ok__law_low D__law_low m_abs
  refine D.F.ok sc__law_any (fun vs H Q E h => ?_) (fun cdv A outer s H vs Q E hr h => ?_)
  · obtain ⟨x, y, rfl, _⟩ := h
    rfl
  · obtain ⟨x, y, rfl, hx, hy, q⟩ := h
    refine ⟨_, (pss_cons (ps_if (pt_cmpR op_eq (pe_op op_mod (pv 0) pe_int) pe_int (nomark _)) (pss_one (ps_ret (pe_tup (pa_cons pe_int (pa_cons pe_int pa_nil))))) pss_nil)
      (pss_cons (ps_set (i := 2) sc__law_any.nd rfl (.inl rfl) (pe_op op_sub (pe_op op_mod (pv 0) pe_int) pe_int))
      (pss_cons (ps_set (i := 3) sc__law_any.nd rfl (.inl rfl) (pe_op op_add pe_int (pe_op op_mod (pv 1) pe_int)))
      (pss_cons (ps_if (pt_cmpR op_eq (pe_op op_mod (pe_op op_fdivW (pv 0) pe_int) pe_int) pe_int (nomark _)) (pss_cons (ps_set (i := 2) sc__law_any.nd rfl (.inl rfl) (pe_op op_sub (pv 0) pe_int))
      (pss_one (ps_set (i := 3) sc__law_any.nd rfl (.inl rfl) (pe_op op_add pe_int (pv 1))))) pss_nil)
      (pss_cons (ps_if (pt_cmpR op_eq (pe_op op_mod (pe_op op_fdivW (pv 0) pe_int) pe_int) pe_int (nomark _)) (pss_cons (ps_set (i := 2) sc__law_any.nd rfl (.inl rfl) (pe_op op_add (pe_op op_mulW (pv 0) (pe_op op_pow pe_int pe_int)) (pv 1)))
      (pss_cons (ps_set (i := 3) sc__law_any.nd rfl (.inl rfl) (pe_op op_add (pe_op op_mulW (pv 1) (pe_op op_pow pe_int pe_int)) pe_int))
      (pss_one (ps_if (pt_cmpR op_eq (pe_op op_mod (pv 0) pe_int) pe_int (nomark _)) (pss_one (ps_set (i := 2) sc__law_any.nd rfl (.inl rfl) (pe_un un_neg (pv 2)))) pss_nil)))) pss_nil)
      (pss_one (ps_ret (pe_call G__law_low (hr.mono (by omega)) (by rfl) D__law_low.g D__law_low.F.kp D__law_low.b .nil pass0 (pa_cons (pv 2) (pa_cons (pv 3) pa_nil)))))))))), ?_⟩
    have fin : ∀ t b : Int, 0 < b → Bd 200 t → Bd 200 b → sp_lowest K [V.int t, V.int b] H Q E := fun t b hb h1 h2 =>
      ⟨t, b, rfl, hb, h2.mono (by decide), fun H' v sm pr => q H' v _ _ sm (low_div hb) (h1.div (gc_dl t b)) (h2.div (gc_dr t b)) pr⟩
    have p40 : Bd 133 ((10 : Int) ^ (40 : Int).toNat) := by unfold Bd; decide +kernel
    have p30 : Bd 133 ((10 : Int) ^ (30 : Int).toNat) := by unfold Bd; decide +kernel
    have bx : Bd 20 x := Bd.of (m := 1000000) (by omega) (by omega) (by decide)
    have by' : Bd 20 y := Bd.of (m := 1000000) (by omega) (by omega) (by decide)
    have t1 : Bd 200 (x % 41 - 20) := Bd.of (m := 1000000) (by omega) (by omega) (by decide +kernel)
    have t2 : Bd 200 (1 + y % 24) := Bd.of (m := 1000000) (by omega) (by omega) (by decide +kernel)
    have t3 : Bd 200 (x - 500000) := Bd.of (m := 10000000) (by omega) (by omega) (by decide +kernel)
    have t4 : Bd 200 (1 + y) := Bd.of (m := 10000000) (by omega) (by omega) (by decide +kernel)
    have t5 : Bd 200 (x * (10 : Int) ^ (40 : Int).toNat + y) := ((bx.mul p40).add (by'.mono (by decide))).mono (by decide)
    have t6 : Bd 200 (y * (10 : Int) ^ (30 : Int).toNat + 1) := ((by'.mul p30).add ((Bd.of (n := 20) (x := 1) (m := 1000000) (by omega) (by omega) (by decide)).mono (by decide))).mono (by decide)
    have p6 : 0 < y * (10 : Int) ^ (30 : Int).toNat + 1 := by
      have := Int.mul_nonneg hy.1 (show (0 : Int) ≤ (10 : Int) ^ (30 : Int).toNat by decide +kernel)
      omega
    have d41 : CDivW x 41 := bd_divok (n := 20) (by decide) (by unfold Bd; decide) (by decide)
    refine ⟨_, rfl, _, _, rfl, rfl, (by show (0 : Int) < _; decide), rfl, _, rfl, ite2 (fun e => ?_) (fun e => ?_)⟩
    · exact ⟨(by show 2 ≤ sizeLine; decide), fun p hp => q _ _ 0 1 (same_upd hp) ⟨by decide, rfl⟩ (by unfold Bd; decide) (by unfold Bd; decide) Pr.new⟩
    · refine ⟨_, rfl, _, _, rfl, rfl, (by show (0 : Int) < _; decide), _, _, rfl, rfl, ?_⟩
      refine ⟨_, rfl, _, _, rfl, rfl, (by show (0 : Int) < _; decide), _, _, rfl, rfl, ?_⟩
      refine ⟨_, rfl, _, _, rfl, rfl, d41, _, _, rfl, rfl, (by show (0 : Int) < _; decide), rfl, _, rfl, ite2 (fun e1 => ?_) (fun e1 => ?_)⟩
      · refine ⟨_, rfl, _, _, rfl, rfl, ?_⟩
        refine ⟨_, rfl, _, _, rfl, rfl, ?_⟩
        refine ⟨_, rfl, _, _, rfl, rfl, d41, _, _, rfl, rfl, (by show (0 : Int) < _; decide), rfl, _, rfl, ite2 (fun e2 => ?_) (fun e2 => ?_)⟩
        · refine ⟨_, rfl, _, _, rfl, rfl, ⟨by decide, by decide, by decide⟩, _, _, rfl, rfl, bd_mulok bx p40 (by decide), _, rfl, _, _, rfl, rfl, ?_⟩
          refine ⟨_, rfl, _, _, rfl, rfl, ⟨by decide, by decide, by decide⟩, _, _, rfl, rfl, bd_mulok by' p30 (by decide), _, _, rfl, rfl, ?_⟩
          refine ⟨_, rfl, _, _, rfl, rfl, (by show (0 : Int) < _; decide), rfl, _, rfl, ite2 (fun e3 => ?_) (fun e3 => ?_)⟩
          · refine ⟨_, rfl, _, rfl, ?_⟩
            exact ⟨_, rfl, _, rfl, fin _ _ p6 t5.neg t6⟩
          · exact ⟨_, rfl, _, rfl, fin _ _ p6 t5 t6⟩
        · exact ⟨_, rfl, _, rfl, fin _ _ (by omega) t3 t4⟩
      · refine ⟨_, rfl, _, _, rfl, rfl, d41, _, _, rfl, rfl, (by show (0 : Int) < _; decide), rfl, _, rfl, ite2 (fun e2 => ?_) (fun e2 => ?_)⟩
        · refine ⟨_, rfl, _, _, rfl, rfl, ⟨by decide, by decide, by decide⟩, _, _, rfl, rfl, bd_mulok bx p40 (by decide), _, rfl, _, _, rfl, rfl, ?_⟩
          refine ⟨_, rfl, _, _, rfl, rfl, ⟨by decide, by decide, by decide⟩, _, _, rfl, rfl, bd_mulok by' p30 (by decide), _, _, rfl, rfl, ?_⟩
          refine ⟨_, rfl, _, _, rfl, rfl, (by show (0 : Int) < _; decide), rfl, _, rfl, ite2 (fun e3 => ?_) (fun e3 => ?_)⟩
          · refine ⟨_, rfl, _, rfl, ?_⟩
            exact ⟨_, rfl, _, rfl, fin _ _ p6 t5.neg t6⟩
          · exact ⟨_, rfl, _, rfl, fin _ _ p6 t5 t6⟩
        · exact ⟨_, rfl, _, rfl, fin _ _ (by omega) t1 t2⟩

def sp__law_shares (K : PySem.W.Frag) : Sp := fun vs H Q _ => ∃ (pr : Addr) (rs : List Int) (n : Nat), vs = [.ref pr, .int n] ∧ H pr = some (.lst (rs.map V.int)) ∧ 1 ≤ n ∧ n ≤ 24 ∧ n < rs.length ∧ (∀ r ∈ rs, 0 ≤ r ∧ r < 1000000) ∧
  ∀ H' p ws, Same H H' → H p = none → WsOk n ws → LP K H' p (sharesOf ws) → Q (.ref p) H'
theorem same_free {H H' : Hp} (s : Same H H') {p : Addr} (h : H' p = none) : H p = none := s.free h
theorem ws_in {rs : List Int} {n : Nat} {f : Int → Int} (hb : ∀ r ∈ rs, 0 ≤ r ∧ r < 1000000) (hf : ∀ r : Int, 0 ≤ r → r < 1000000 → 0 ≤ f r ∧ f r < 1000000) : ∀ w ∈ (rs.take n).map f, 0 ≤ w ∧ w < 1000000 := fun w hw => by
  obtain ⟨r, hr, rfl⟩ := List.mem_map.1 hw
  have h := hb r (List.mem_of_mem_take hr)
  exact hf r h.1 h.2
theorem sum_set' {ws : List Int} {j : Nat} {z : Int} (d : Int) (h : ws[j]? = some z) : (ws.set j (z + d)).sum = ws.sum + d := by
  rw [sum_set h]
  omega
theorem ok__law_shares {k : Nat} (D : Df K mg "_law_shares" s__law_shares ["_law_row", "_law_n"]) (D__law_low : Df K mg "_law_low" s__law_low ["_law_top", "_law_bottom"]) (m_abs : mg "abs" = none) (m_int : mg "int" = none) (m_sum : mg "sum" = none) : FnOk P w K mg base CX0 (k + 2) D.f D.fd ["_law_row", "_law_n"] (sp__law_shares K) := by
  have G__law_low : FnOk P w K mg base CX0 1 D__law_low.f D__law_low.fd ["_law_top", "_law_bottom"] (sp_lowest K) := ok__law_low D__law_low m_abs
  refine D.F.ok sc__law_shares (fun vs H Q E h => ?_) (fun cdv A outer s H vs Q E hr h => ?_)
  · obtain ⟨pr, rs, n, rfl, _⟩ := h
    rfl
  obtain ⟨pr, rs, n, rfl, epr, hn1, hn2, hnr, hb, q⟩ := h
  have bn := hb _ (getD_in hnr)
  have c5 : ∀ x : Int, CDivW x 5 := fun x => bd_divok (n := 20) (by decide) (by unfold Bd; decide) (by decide)
  have c131 : ∀ x : Int, CDivW x 131 := fun x => bd_divok (n := 20) (by decide) (by unfold Bd; decide) (by decide)
  refine ⟨_, (pss_cons (ps_setLc (i := 2) (own := [("_law_one", 4)]) (g := gName 4) (tt := tYes) rfl sc__law_shares.nd rfl rfl (sw_true rfl rfl rfl (by decide +kernel)) (pi_list (pe_slice sl_list (pv 0) po_none (po_some (pv 1)))) (blkOk_by (N := N__law_shares) (sc := defScope s__law_shares) (by decide +kernel)) (fun _ _ _ _ _ => pg_name (i := 4) sc__law_shares.nd rfl (Or.inl rfl)) (fun _ _ _ _ _ => pts_nil) (fun _ _ _ _ _ => (pe_op op_mod (pv 4) pe_int)))
      (C8.pss_cut (ps_if (pt_cmpR op_eq (pe_op op_mod (pe_ix ix_list (pv 0) (pv 1) (fun _ _ => rfl)) pe_int) pe_int (nomark _)) (pss_one (ps_setLc (i := 2) (own := [("_law_one", 4)]) (g := gName 4) (tt := tYes) rfl sc__law_shares.nd rfl rfl (sw_true rfl rfl rfl (by decide +kernel)) (pi_list (pe_slice sl_list (pv 0) po_none (po_some (pv 1)))) (blkOk_by (N := N__law_shares) (sc := defScope s__law_shares) (by decide +kernel)) (fun _ _ _ _ _ => pg_name (i := 4) sc__law_shares.nd rfl (Or.inl rfl)) (fun _ _ _ _ _ => pts_nil) (fun _ _ _ _ _ => (pe_op op_mod (pv 4) pe_int)))) pss_nil)
      (C8.pss_cut (ps_if (pt_cmpR op_eq (pe_op op_mod (pe_ix ix_list (pv 0) (pv 1) (fun _ _ => rfl)) pe_int) pe_int (nomark _)) (pss_one (ps_setLc (i := 2) (own := [("_law_one", 4)]) (g := gName 4) (tt := tYes) rfl sc__law_shares.nd rfl rfl (sw_true rfl rfl rfl (by decide +kernel)) (pi_list (pe_slice sl_list (pv 0) po_none (po_some (pv 1)))) (blkOk_by (N := N__law_shares) (sc := defScope s__law_shares) (by decide +kernel)) (fun _ _ _ _ _ => pg_name (i := 4) sc__law_shares.nd rfl (Or.inl rfl)) (fun _ _ _ _ _ => pts_nil) (fun _ _ _ _ _ => (pe_op op_mul (pv 4) (pe_callTy call_int1 (by rfl) m_int PyProof.Rows.boot_int (pa_cons (pe_cmpR op_eq (pe_op op_mod (pv 4) pe_int) pe_int (nomark _)) pa_nil)))))) pss_nil)
      (C8.pss_cut (ps_if (pt_cmpR op_eq (pe_op op_mod (pe_ix ix_list (pv 0) (pv 1) (fun _ _ => rfl)) pe_int) pe_int (nomark _)) (pss_one (ps_setLc (i := 2) (own := [("_law_one", 4)]) (g := gName 4) (tt := tYes) rfl sc__law_shares.nd rfl rfl (sw_true rfl rfl rfl (by decide +kernel)) (pi_list (pe_slice sl_list (pv 0) po_none (po_some (pv 1)))) (blkOk_by (N := N__law_shares) (sc := defScope s__law_shares) (by decide +kernel)) (fun _ _ _ _ _ => pg_name (i := 4) sc__law_shares.nd rfl (Or.inl rfl)) (fun _ _ _ _ _ => pts_nil) (fun _ _ _ _ _ => pe_int))) pss_nil)
      (pss_cons (ps_augS (pv 2) (pe_op op_mod (pe_op op_fdivW (pe_ix ix_list (pv 0) (pv 1) (fun _ _ => rfl)) pe_int) (pv 1)) get_list (pe_op op_add pe_int (pe_op op_mod (pe_op op_fdivW (pe_ix ix_list (pv 0) (pv 1) (fun _ _ => rfl)) pe_int) pe_int)) ip_add set_list)
      (pss_cons (ps_set (i := 3) sc__law_shares.nd rfl (.inr rfl) (pe_callB (cr_sum rfl) (by rfl) m_sum (by decide +kernel) (pa_cons (pv 2) pa_nil)))
      (pss_one (ps_ret (pe_lc (own := [("_law_weight", 5)]) (g := gName 5) (tt := tYes) rfl sc__law_shares.nd (pi_list (pv 2)) (blkOk_by (N := N__law_shares) (sc := defScope s__law_shares) (by decide +kernel)) (fun _ _ _ _ _ => pg_name (i := 5) sc__law_shares.nd rfl (Or.inl rfl)) (fun _ _ _ _ _ => pts_nil) (fun _ _ _ _ _ => (pe_call G__law_low (hr.mono (by omega)) (by rfl) D__law_low.g D__law_low.F.kp D__law_low.b .nil pass0 (pa_cons (pv 5) (pa_cons (pv 3) pa_nil))))))))))))), ?_⟩
  -- the first weights
  refine ⟨_, rfl, _, rfl, _, rfl, pr, _, rfl, SqL.of epr, fun pc hc => ?_⟩
  rw [cut_to rs n (by omega)]
  refine ⟨pc, rfl, ⟨_, SqL.of upd_same⟩, fun Dd hD => ?_⟩
  have nD : H Dd = none := same_free (same_upd hc) hD
  refine lc_list (xs := (rs.take n).map V.int) (fun i H' => H' Dd = some (.lst ((((rs.take n).take i).map (fun r => r % 12)).map V.int)) ∧ Same (upd H pc (.lst ((rs.take n).map V.int))) H') ⟨upd_same, same_upd hD⟩ (fun i H' _ hW => SqL.of (hW.2 _ _ upd_same)) (fun i x H' hx hW => ?_) (fun H6 hW => ?_)
  · obtain ⟨eD, sm⟩ := hW
    obtain ⟨r, hr', rfl⟩ := int_at hx
    refine ⟨rfl, ?_⟩
    dsimp only [tYes]
    rw [if_pos rfl]
    refine ⟨_, rfl, _, _, rfl, rfl, (by show (0 : Int) < _; decide), _, eD, small1000 (by rw [List.length_map, List.length_map, List.length_take, List.length_take]; omega), ?_, same_at hD sm⟩
    rw [upd_same]
    exact congrArg (fun z => some (HO.lst z)) (take_map hr' (fun r => r % 12))
  obtain ⟨eD0, sm0⟩ := hW
  rw [List.length_map, List.take_of_length_le (Nat.le_refl _)] at eD0
  have mid0 : ∃ (pw : Addr) (ws : List Int), H6 pw = some (.lst (ws.map V.int)) ∧ ws.length = n ∧ (∀ w ∈ ws, 0 ≤ w ∧ w < 1000000) ∧ H pw = none ∧ Same H H6 ∧ Dd = pw :=
    ⟨Dd, _, eD0, by rw [List.length_map, List.length_take]; omega, ws_in hb fun r h1 h2 => ⟨Int.emod_nonneg _ (by decide), Int.lt_of_lt_of_le (Int.emod_lt_of_pos _ (by decide)) (by decide)⟩, nD, (same_upd hc).trans sm0, rfl⟩
  obtain ⟨pw, ws, eW, lW, bW, nW, s6, rfl⟩ := mid0
  refine ⟨fun σ H' => ∃ (pw : Addr) (ws : List Int) (y3 y4 y5 : Option V), σ = [some (.ref pr), some (.int n), some (.ref pw), y3, y4, y5] ∧ H' pw = some (.lst (ws.map V.int)) ∧ ws.length = n ∧ (∀ w ∈ ws, 0 ≤ w ∧ w < 1000000) ∧ H pw = none ∧ Same H H', ?_, fun H7σ H7 hm => ?_⟩
  · refine ⟨_, rfl, _, rfl, pr, _, _, _, rfl, rfl, SqL.of (s6 _ _ epr), ls_at hnr, _, _, rfl, rfl, (by show (0 : Int) < _; decide), rfl, _, rfl, ite2 (fun e => ?_) (fun e => ?_)⟩
    · refine ⟨_, rfl, _, rfl, _, rfl, pr, _, rfl, (SqL.of (s6 _ _ epr)), fun pc hc => ?_⟩
      rw [cut_to rs n (by omega)]
      refine ⟨pc, rfl, ⟨_, SqL.of upd_same⟩, fun Dd hD => ?_⟩
      have nD : H6 Dd = none := same_free (same_upd hc) hD
      refine lc_list (xs := (rs.take n).map V.int) (fun i H' => H' Dd = some (.lst ((((rs.take n).take i).map (fun r => r % 2)).map V.int)) ∧ Same (upd H6 pc (.lst ((rs.take n).map V.int))) H') ⟨upd_same, same_upd hD⟩ (fun i H' _ hW => SqL.of (hW.2 _ _ upd_same)) (fun i x H' hx hW => ?_) (fun H' hW => ?_)
      · obtain ⟨eD, sm⟩ := hW
        obtain ⟨r, hr', rfl⟩ := int_at hx
        refine ⟨rfl, ?_⟩
        dsimp only [tYes]
        rw [if_pos rfl]
        refine ⟨_, rfl, _, _, rfl, rfl, (by show (0 : Int) < _; decide), _, eD, small1000 (by rw [List.length_map, List.length_map, List.length_take, List.length_take]; omega), ?_, same_at hD sm⟩
        rw [upd_same]
        exact congrArg (fun z => some (HO.lst z)) (take_map hr' (fun r => r % 2))
      · obtain ⟨eD, sm⟩ := hW
        rw [List.length_map, List.take_of_length_le (Nat.le_refl _)] at eD
        exact ⟨Dd, _, _, _, _, rfl, eD, (by rw [List.length_map, List.length_take]; omega), ws_in hb (fun r h1 h2 => ⟨Int.emod_nonneg _ (by decide), Int.lt_of_lt_of_le (Int.emod_lt_of_pos _ (by decide)) (by decide)⟩), same_free s6 nD, s6.trans ((same_upd hc).trans sm)⟩
    · exact ⟨Dd, ws, _, _, _, rfl, eW, lW, bW, nW, s6⟩
  obtain ⟨pw, ws, y3, y4, y5, rfl, eW, lW, bW, nW, sM⟩ := hm
  refine ⟨fun σ H' => ∃ (pw : Addr) (ws : List Int) (y3 y4 y5 : Option V), σ = [some (.ref pr), some (.int n), some (.ref pw), y3, y4, y5] ∧ H' pw = some (.lst (ws.map V.int)) ∧ ws.length = n ∧ (∀ w ∈ ws, 0 ≤ w ∧ w < 1000000) ∧ H pw = none ∧ Same H H', ?_, fun H8σ H8 hm => ?_⟩
  · refine ⟨_, rfl, _, rfl, pr, _, _, _, rfl, rfl, SqL.of (sM _ _ epr), ls_at hnr, _, _, rfl, rfl, (by show (0 : Int) < _; decide), rfl, _, rfl, ite2 (fun e => ?_) (fun e => ?_)⟩
    · refine ⟨_, rfl, _, rfl, _, rfl, pr, _, rfl, (SqL.of (sM _ _ epr)), fun pc hc => ?_⟩
      rw [cut_to rs n (by omega)]
      refine ⟨pc, rfl, ⟨_, SqL.of upd_same⟩, fun Dd hD => ?_⟩
      have nD : H7 Dd = none := same_free (same_upd hc) hD
      refine lc_list (xs := (rs.take n).map V.int) (fun i H' => H' Dd = some (.lst ((((rs.take n).take i).map (fun r => r * (if decide (V.int (r % 3) = V.int 0) = true then 1 else 0))).map V.int)) ∧ Same (upd H7 pc (.lst ((rs.take n).map V.int))) H') ⟨upd_same, same_upd hD⟩ (fun i H' _ hW => SqL.of (hW.2 _ _ upd_same)) (fun i x H' hx hW => ?_) (fun H' hW => ?_)
      · obtain ⟨eD, sm⟩ := hW
        obtain ⟨r, hr', rfl⟩ := int_at hx
        refine ⟨rfl, ?_⟩
        dsimp only [tYes]
        rw [if_pos rfl]
        refine ⟨_, rfl, _, rfl, _, _, rfl, rfl, (by show (0 : Int) < _; decide), rfl, .inr ⟨_, rfl, _, _, rfl, rfl, .inr ⟨by split <;> decide, by split <;> decide⟩, _, eD, small1000 (by rw [List.length_map, List.length_map, List.length_take, List.length_take]; omega), ?_, same_at hD sm⟩⟩
        rw [upd_same]
        exact congrArg (fun z => some (HO.lst z)) (take_map hr' (fun r => r * (if decide (V.int (r % 3) = V.int 0) = true then 1 else 0)))
      · obtain ⟨eD, sm⟩ := hW
        rw [List.length_map, List.take_of_length_le (Nat.le_refl _)] at eD
        exact ⟨Dd, _, _, _, _, rfl, eD, (by rw [List.length_map, List.length_take]; omega), ws_in hb (fun r h1 h2 => by split <;> omega), same_free sM nD, sM.trans ((same_upd hc).trans sm)⟩
    · exact ⟨pw, ws, _, _, _, rfl, eW, lW, bW, nW, sM⟩
  obtain ⟨pw, ws, y3, y4, y5, rfl, eW, lW, bW, nW, sM⟩ := hm
  refine ⟨fun σ H' => ∃ (pw : Addr) (ws : List Int) (y3 y4 y5 : Option V), σ = [some (.ref pr), some (.int n), some (.ref pw), y3, y4, y5] ∧ H' pw = some (.lst (ws.map V.int)) ∧ ws.length = n ∧ (∀ w ∈ ws, 0 ≤ w ∧ w < 1000000) ∧ H pw = none ∧ Same H H', ?_, fun H9σ H9 hm => ?_⟩
  · refine ⟨_, rfl, _, rfl, pr, _, _, _, rfl, rfl, SqL.of (sM _ _ epr), ls_at hnr, _, _, rfl, rfl, (by show (0 : Int) < _; decide), rfl, _, rfl, ite2 (fun e => ?_) (fun e => ?_)⟩
    · refine ⟨_, rfl, _, rfl, _, rfl, pr, _, rfl, (SqL.of (sM _ _ epr)), fun pc hc => ?_⟩
      rw [cut_to rs n (by omega)]
      refine ⟨pc, rfl, ⟨_, SqL.of upd_same⟩, fun Dd hD => ?_⟩
      have nD : H8 Dd = none := same_free (same_upd hc) hD
      refine lc_list (xs := (rs.take n).map V.int) (fun i H' => H' Dd = some (.lst ((((rs.take n).take i).map (fun _ => 0)).map V.int)) ∧ Same (upd H8 pc (.lst ((rs.take n).map V.int))) H') ⟨upd_same, same_upd hD⟩ (fun i H' _ hW => SqL.of (hW.2 _ _ upd_same)) (fun i x H' hx hW => ?_) (fun H' hW => ?_)
      · obtain ⟨eD, sm⟩ := hW
        obtain ⟨r, hr', rfl⟩ := int_at hx
        refine ⟨rfl, ?_⟩
        dsimp only [tYes]
        rw [if_pos rfl]
        refine ⟨_, eD, small1000 (by rw [List.length_map, List.length_map, List.length_take, List.length_take]; omega), ?_, same_at hD sm⟩
        rw [upd_same]
        exact congrArg (fun z => some (HO.lst z)) (take_map hr' (fun _ => 0))
      · obtain ⟨eD, sm⟩ := hW
        rw [List.length_map, List.take_of_length_le (Nat.le_refl _)] at eD
        exact ⟨Dd, _, _, _, _, rfl, eD, (by rw [List.length_map, List.length_take]; omega), ws_in hb (fun r h1 h2 => ⟨by decide, by decide⟩), same_free sM nD, sM.trans ((same_upd hc).trans sm)⟩
    · exact ⟨pw, ws, _, _, _, rfl, eW, lW, bW, nW, sM⟩
  obtain ⟨pw, ws, y3, y4, y5, rfl, eW, lW, bW, nW, sM⟩ := hm
  -- one of them raised
  have hL9 : SqL K H9 pr (rs.map V.int) := SqL.of (sM _ _ epr)
  have j1 := Int.emod_nonneg (rs.getD n 0 / 5) (show (n : Int) ≠ 0 by omega)
  have j2 := Int.emod_lt_of_pos (rs.getD n 0 / 5) (show (0 : Int) < n by omega)
  obtain ⟨j, hj, hjn⟩ : ∃ j : Nat, rs.getD n 0 / 5 % (n : Int) = (j : Int) ∧ j < n := ⟨(rs.getD n 0 / 5 % (n : Int)).toNat, by omega, by omega⟩
  have hwj : ws[j]? = some (ws.getD j 0) := by
    rw [List.getElem?_eq_getElem (by omega)]
    simp [List.getD, List.getElem?_eq_getElem (show j < ws.length by omega)]
  have bj := bW _ (getD_in (show j < ws.length by omega))
  have d1 := Int.emod_nonneg (rs.getD n 0 / 131) (show (4 : Int) ≠ 0 by decide)
  have d2 := Int.emod_lt_of_pos (rs.getD n 0 / 131) (show (0 : Int) < 4 by decide)
  refine ⟨_, rfl, _, rfl, _, rfl, pr, _, _, _, rfl, rfl, hL9, ls_at hnr, _, _, rfl, rfl, c5 _, _, rfl, _, _, rfl, rfl, (by show (0 : Int) < n; omega), ?_⟩
  refine ⟨pw, _, j, .int (ws.getD j 0), rfl, congrArg V.int hj, SqL.of eW, by rw [List.getElem?_map, hwj]; rfl, ?_⟩
  refine ⟨_, rfl, _, rfl, pr, _, _, _, rfl, rfl, hL9, ls_at hnr, _, _, rfl, rfl, c131 _, _, _, rfl, rfl, (by show (0 : Int) < _; decide), _, _, rfl, rfl, _, _, rfl, rfl, ?_⟩
  refine ⟨pw, _, _, j, rfl, rfl, eW, ?_, ?_⟩
  · rw [hj, List.length_map]
    unfold ixN
    rw [if_pos (by omega), if_pos (by omega), Int.toNat_natCast]
  rw [show (ws.map V.int).set j (V.int (ws.getD j 0 + (1 + rs.getD n 0 / 131 % 4))) = (ws.set j (ws.getD j 0 + (1 + rs.getD n 0 / 131 % 4))).map V.int from by rw [List.map_set]]
  obtain ⟨vs, evs⟩ : ∃ vs, vs = ws.set j (ws.getD j 0 + (1 + rs.getD n 0 / 131 % 4)) := ⟨_, rfl⟩
  rw [← evs]
  have hvs : WsOk n vs := by
    have hb2 : ∀ w ∈ vs, 0 ≤ w ∧ w < 1000005 := by
      intro w hw
      rw [evs] at hw
      rcases List.mem_or_eq_of_mem_set hw with h | h
      · have := bW w h
        omega
      · omega
    have hl : vs.length = n := by rw [evs, List.length_set, lW]
    have hs : vs.sum = ws.sum + (1 + rs.getD n 0 / 131 % 4) := by
      rw [evs]
      exact sum_set' _ hwj
    have h0 := sum_bound (ws := ws) fun w hw => by have := bW w hw; omega
    have h1 := sum_bound hb2
    rw [hl] at h1
    exact ⟨hl, hb2, by omega, h1.2⟩
  obtain ⟨hl, hb2, hs1, hs2⟩ := hvs
  -- their sum
  have s10 : Same H (upd H9 pw (.lst (vs.map V.int))) := same_at nW sM
  refine ⟨_, rfl, pw, vs, rfl, SqL.of upd_same, ?_⟩
  refine ⟨_, rfl, pw, rfl, ⟨_, SqL.of upd_same⟩, fun Dd' hD => ?_⟩
  have nD' : H Dd' = none := same_free s10 hD
  refine lc_list (xs := vs.map V.int) (fun i H' => ∃ us, H' Dd' = some (.lst us) ∧ Pps K H' us ((sharesOf vs).take i) ∧ Same (upd H9 pw (.lst (vs.map V.int))) H') ⟨[], upd_same, .nil, same_upd hD⟩ (fun i H' _ hW => ?_) (fun i x H' hx hW => ?_) (fun H' hW => ?_)
  · obtain ⟨us, _, _, sm⟩ := hW
    exact SqL.of (sm _ _ upd_same)
  · obtain ⟨us, eD, hP, sm⟩ := hW
    obtain ⟨r, hr', rfl⟩ := int_at hx
    have br := hb2 r (List.mem_of_getElem? hr')
    have hi := (List.getElem?_eq_some_iff.1 hr').1
    refine ⟨rfl, ?_⟩
    dsimp only [tYes]
    rw [if_pos rfl]
    refine ⟨_, rfl, _, rfl, r, vs.sum, rfl, hs1, Bd.of (m := 30000000) (by omega) (by omega) (by decide +kernel), fun H11 v11 s11 p11 => ?_⟩
    have eD11 := s11 _ _ eD
    refine ⟨us, eD11, small1000 (by rw [hP.len, List.length_take, shares_len]; omega), us ++ [v11], upd_same, ?_, same_at hD (sm.trans s11)⟩
    have et : (sharesOf vs).take (i + 1) = (sharesOf vs).take i ++ [lowP r vs.sum] := by
      rw [List.take_add_one]
      unfold sharesOf
      rw [List.getElem?_map, hr']
      rfl
    rw [et]
    exact pps_grow eD11 (hP.same s11) p11
  · obtain ⟨us, eD, hP, sm⟩ := hW
    rw [List.length_map, List.take_of_length_le (by rw [shares_len]; omega)] at hP
    exact q _ _ vs (s10.trans sm) nD' ⟨hl, hb2, hs1, hs2⟩ ⟨us, eD, hP⟩

theorem ok__law_hour {k : Nat} (D : Df K mg "_law_hour" s__law_hour ["_law_lags", "_law_shares_here"]) (D__law_low : Df K mg "_law_low" s__law_low ["_law_top", "_law_bottom"]) (D__law_add : Df K mg "_law_add" s__law_add ["_law_a", "_law_b"]) (D__law_sub : Df K mg "_law_sub" s__law_sub ["_law_a", "_law_b"]) (D__law_less : Df K mg "_law_less" s__law_less ["_law_a", "_law_b"]) (D__law_first : Df K mg "_law_first" s__law_first ["_law_row"]) (m_abs : mg "abs" = none) (m_range : mg "range" = none) (m_len : mg "len" = none) (m_zip : mg "zip" = none) :
    FnOk P w K mg base CX0 (k + 3) D.f D.fd ["_law_lags", "_law_shares_here"] (sp_hour K) := by
  have G__law_add : FnOk P w K mg base CX0 2 D__law_add.f D__law_add.fd ["_law_a", "_law_b"] (sp_two K anyC addP) := ok__law_add D__law_add D__law_low m_abs
  have G__law_sub : FnOk P w K mg base CX0 2 D__law_sub.f D__law_sub.fd ["_law_a", "_law_b"] (sp_two K anyC subP) := ok__law_sub D__law_sub D__law_low m_abs
  have G__law_first : FnOk P w K mg base CX0 2 D__law_first.f D__law_first.fd ["_law_row"] (sp_first K) := ok__law_first D__law_first D__law_less m_range m_len
  refine D.F.ok sc__law_hour (fun vs H Q E h => ?_) (fun cdv A outer s H vs Q E hr h => ?_)
  · obtain ⟨p, q, xs, ys, N, rfl, _⟩ := h
    rfl
  obtain ⟨p, r, xs, ys, N, rfl, ⟨us, ep, hP⟩, ⟨ws, er, hR⟩, hl, h0, hn, hx, hy, hN, q⟩ := h
  refine ⟨_, (pss_cons (ps_setLc (i := 2) (own := [("_law_lag", 4), ("_law_share", 5)]) (g := gTup K 2 (gCons (gName 4) (gCons (gName 5) gNil))) (tt := tYes) rfl sc__law_hour.nd rfl rfl (sw_true rfl rfl rfl (by decide +kernel)) (pi_zip (by rfl) m_zip (pa_cons (pv 0) (pa_cons (pv 1) pa_nil))) (blkOk_by (N := N__law_hour) (sc := defScope s__law_hour) (by decide +kernel)) (fun _ _ _ _ _ => pg_tup rfl (pgs_cons (pg_name (i := 4) sc__law_hour.nd rfl (Or.inl rfl)) (pgs_cons (pg_name (i := 5) sc__law_hour.nd rfl (Or.inl rfl)) pgs_nil))) (fun _ _ _ _ _ => pts_nil) (fun _ _ _ _ _ => (pe_call G__law_add (hr.mono (by omega)) (by rfl) D__law_add.g D__law_add.F.kp D__law_add.b .nil pass0 (pa_cons (pv 4) (pa_cons (pv 5) pa_nil)))))
      (pss_cons (ps_set (i := 3) sc__law_hour.nd rfl (.inl rfl) (pe_call G__law_first (hr.mono (by omega)) (by rfl) D__law_first.g D__law_first.F.kp D__law_first.b .nil pass0 (pa_cons (pv 2) pa_nil)))
      (pss_cons (ps_asg (pe_call G__law_sub (hr.mono (by omega)) (by rfl) D__law_sub.g D__law_sub.F.kp D__law_sub.b .nil pass0 (pa_cons (pe_ix ix_list (pv 2) (pv 3) (fun _ _ => rfl)) (pa_cons (pe_tup (pa_cons pe_int (pa_cons pe_int pa_nil))) pa_nil))) (pg_sub (pv 2) (pv 3) set_list))
      (pss_one (ps_ret (pe_tup (pa_cons (pv 3) (pa_cons (pv 2) pa_nil)))))))), ?_⟩
  refine ⟨_, rfl, _, rfl, p, r, us, ws, rfl, SqL.of ep, SqL.of er, fun Dd hD => ?_⟩
  refine lc_it (walk_zip (xs := us) (ys := ws) (n := xs.length) (by rw [hP.len, hR.len, hl, Nat.min_self])) (fun i H' => ∃ vs, H' Dd = some (.lst vs) ∧ Pps K H' vs ((List.zipWith addP xs ys).take i) ∧ Same H H') ⟨[], upd_same, .nil, same_upd hD⟩ (fun i H' _ hW => ?_) (fun i x H' H'' hi hW hy' => ?_) (fun H' hW => ?_)
  · obtain ⟨vs, _, _, sm⟩ := hW
    exact ⟨SqL.of (sm _ _ ep), SqL.of (sm _ _ er)⟩
  · obtain ⟨vs, eD, hV, sm⟩ := hW
    obtain ⟨T, x1, x2, rfl, nT, rfl, f1, f2⟩ := hy'
    obtain ⟨a, ha, pa⟩ := pps_get hP f1
    obtain ⟨b, hb, pb⟩ := pps_get hR f2
    have oa := hx a (List.mem_of_getElem? ha)
    have ob := hy b (List.mem_of_getElem? hb)
    have st := same_upd (o := .tup [x1, x2]) nT
    have sm2 := sm.trans st
    refine ⟨T, [x1, x2], rfl, SqT.of upd_same, rfl, x1, [x2], rfl, x2, [], rfl, rfl, ?_⟩
    refine ⟨rfl, ?_⟩
    dsimp only [tYes]
    rw [if_pos rfl]
    refine ⟨_, rfl, _, rfl, x1, x2, a, b, N, 26, rfl, pa.same sm2, pb.same sm2, oa.1, ob.1, by omega, True.intro, fun H4 v4 s4 p4 => ?_⟩
    have eD4 := s4 _ _ (st _ _ eD)
    refine ⟨vs, eD4, small1000 ?_, vs ++ [v4], upd_same, ?_, same_at hD (sm2.trans s4)⟩
    · rw [hV.len, List.length_take]
      omega
    · rw [zip_at ha hb]
      exact pps_grow eD4 ((hV.same st).same s4) p4
  obtain ⟨vs, eD, hV, sm⟩ := hW
  rw [List.take_of_length_le (by rw [List.length_zipWith]; omega)] at hV
  have lz : (List.zipWith addP xs ys).length = xs.length := by rw [List.length_zipWith]; omega
  have oz := zip_ok hx hy
  have hf := firstM_lt (xs := List.zipWith addP xs ys) (by omega)
  have oi := item_ok oz hf
  obtain ⟨v1, g1, p1⟩ := pps_at hV (item_some hf)
  have hvl := hV.len
  -- at = first(row)
  refine ⟨_, rfl, Dd, _, rfl, ⟨vs, eD, hV⟩, by omega, by omega, oz.mono (by omega), ?_⟩
  -- row[at] = sub(row[at], (1, 1))
  refine ⟨_, rfl, _, rfl, Dd, vs, _, v1, rfl, rfl, SqL.of eD, atI_nat g1, (by show 2 ≤ sizeLine; decide), fun t ht => ?_⟩
  have st := same_upd (o := .tup [.int 1, .int 1]) ht
  refine ⟨v1, .ref t, _, (1, 1), N + 26 + 1, 1, rfl, p1.same st, Pr.new, oi.1, ok11, by omega, True.intro, fun H5 v5 s5 p5 => ?_⟩
  have eD5 := s5 _ _ (st _ _ eD)
  refine ⟨_, rfl, _, rfl, Dd, vs, _, firstM (List.zipWith addP xs ys), rfl, rfl, eD5, ix_nat (by omega), ?_⟩
  have lp := LP.put eD5 ((hV.same st).same s5) p5 (firstM (List.zipWith addP xs ys))
  have s6 : Same H (upd H5 Dd (.lst (vs.set (firstM (List.zipWith addP xs ys)) v5))) := same_at hD (sm.trans (st.trans s5))
  -- return (at, row)
  refine ⟨_, rfl, _, rfl, (by show 2 ≤ sizeLine; decide), fun t2 ht2 => ?_⟩
  have st2 := same_upd (o := .tup [.int (firstM (List.zipWith addP xs ys) : Int), .ref Dd]) ht2
  exact q _ t2 Dd (s6.trans st2) hD (SqT.of upd_same) (lp.same st2)

def sp__law_lived (K : PySem.W.Frag) : Sp := fun vs H Q _ => ∃ (n : Nat) (pr : Addr) (rs : List Int) (h : Nat), vs = [.int n, .ref pr, .int h] ∧ H pr = some (.lst (rs.map V.int)) ∧ 1 ≤ n ∧ n ≤ 24 ∧ h ≤ 8 ∧ h * (n + 1) ≤ rs.length ∧ (∀ r ∈ rs, 0 ≤ r ∧ r < 1000000) ∧
  ∀ H' p xs, Same H H' → H p = none → LP K H' p xs → Lags n 233 xs → Q (.ref p) H'
theorem noughts_worth (n : Nat) : worth (List.replicate n (0, 1)) = 0 := by
  induction n with
  | zero => rfl
  | succ n ih =>
    rw [List.replicate_succ, worth_cons, ih, val_zero']
    grind
theorem noughts_ok (n : Nat) : AllOk 1 (List.replicate n ((0, 1) : Q2)) := fun x hx => by
  rw [(List.mem_replicate.1 hx).2]
  exact ⟨⟨by decide, by unfold Bd; decide, by unfold Bd; decide⟩, ⟨by decide, rfl⟩⟩
theorem ok__law_lived {k : Nat} (D : Df K mg "_law_lived" s__law_lived ["_law_n", "_law_row", "_law_hours"]) (D__law_low : Df K mg "_law_low" s__law_low ["_law_top", "_law_bottom"]) (D__law_add : Df K mg "_law_add" s__law_add ["_law_a", "_law_b"]) (D__law_sub : Df K mg "_law_sub" s__law_sub ["_law_a", "_law_b"]) (D__law_less : Df K mg "_law_less" s__law_less ["_law_a", "_law_b"]) (D__law_first : Df K mg "_law_first" s__law_first ["_law_row"]) (D__law_hour : Df K mg "_law_hour" s__law_hour ["_law_lags", "_law_shares_here"]) (D__law_shares : Df K mg "_law_shares" s__law_shares ["_law_row", "_law_n"])
    (m_abs : mg "abs" = none) (m_range : mg "range" = none) (m_len : mg "len" = none) (m_zip : mg "zip" = none) (m_int : mg "int" = none) (m_sum : mg "sum" = none) : FnOk P w K mg base CX0 (k + 4) D.f D.fd ["_law_n", "_law_row", "_law_hours"] (sp__law_lived K) := by
  have G__law_hour : FnOk P w K mg base CX0 3 D__law_hour.f D__law_hour.fd ["_law_lags", "_law_shares_here"] (sp_hour K) := ok__law_hour D__law_hour D__law_low D__law_add D__law_sub D__law_less D__law_first m_abs m_range m_len m_zip
  have G__law_shares : FnOk P w K mg base CX0 3 D__law_shares.f D__law_shares.fd ["_law_row", "_law_n"] (sp__law_shares K) := ok__law_shares D__law_shares D__law_low m_abs m_int m_sum
  refine D.F.ok sc__law_lived (fun vs H Q E h => ?_) (fun cdv A outer s H vs Q E hr h => ?_)
  · obtain ⟨n, pr, rs, h', rfl, _⟩ := h
    rfl
  obtain ⟨n, pr, rs, h, rfl, epr, hn1, hn2, hh, hlen, hb, q⟩ := h
  refine ⟨_, (pss_cons (ps_setLc (i := 4) (own := [("_law_k", 3)]) (g := gName 3) (tt := tYes) rfl sc__law_lived.nd rfl rfl (sw_true rfl rfl rfl (by decide +kernel)) (pi_range1 (by rfl) m_range (pa_cons (pv 0) pa_nil)) (blkOk_by (N := N__law_lived) (sc := defScope s__law_lived) (by decide +kernel)) (fun _ _ _ _ _ => pg_name (i := 3) sc__law_lived.nd rfl (Or.inl rfl)) (fun _ _ _ _ _ => pts_nil) (fun _ _ _ _ _ => (pe_tup (pa_cons pe_int (pa_cons pe_int pa_nil)))))
      (pss_cons (ps_for PassesOwn.never rfl (pi_range1 (by rfl) m_range (pa_cons (pv 2) pa_nil)) (pg_name (i := 3) sc__law_lived.nd rfl (.inl rfl)) (pss_one (ps_set (i := 4) sc__law_lived.nd rfl (.inl rfl) (pe_ix ix_tup (pe_call G__law_hour (hr.mono (by omega)) (by rfl) D__law_hour.g D__law_hour.F.kp D__law_hour.b .nil pass0 (pa_cons (pv 4) (pa_cons (pe_call G__law_shares (hr.mono (by omega)) (by rfl) D__law_shares.g D__law_shares.F.kp D__law_shares.b .nil pass0 (pa_cons (pe_slice sl_list (pv 1) (po_some (pe_op op_mul (pv 3) (pe_op op_add (pv 0) pe_int))) po_none) (pa_cons (pv 0) pa_nil))) pa_nil))) pe_int (fun _ _ => rfl)))))
      (pss_one (ps_ret (pv 4))))), ?_⟩
  -- noughts
  refine ⟨_, rfl, (n : Int), rfl, by omega, by omega, fun Dd hD => ?_⟩
  refine lc_range (n := n) (fun i H' => ∃ us, H' Dd = some (.lst us) ∧ Pps K H' us (List.replicate i (0, 1)) ∧ Same H H') ⟨[], upd_same, .nil, same_upd hD⟩ (fun i H' hi hW => ?_) (fun H1 hW => ?_)
  · obtain ⟨us, eD, hP, sm⟩ := hW
    refine ⟨rfl, ?_⟩
    dsimp only [tYes]
    rw [if_pos rfl]
    refine ⟨(by show 2 ≤ sizeLine; decide), fun t ht => ?_⟩
    have st := same_upd (o := .tup [.int 0, .int 1]) ht
    have eD2 := st _ _ eD
    refine ⟨us, eD2, small1000 (by rw [hP.len, List.length_replicate]; omega), us ++ [.ref t], upd_same, ?_, same_at hD (sm.trans st)⟩
    rw [List.replicate_succ']
    exact pps_grow eD2 (hP.same st) (x := (0, 1)) Pr.new
  obtain ⟨us, eD, hP, s1⟩ := hW
  -- the hours
  refine ⟨_, rfl, (h : Int), rfl, by omega, by omega, ?_⟩
  refine for_range (n := h) (fun i σ H3 => ∃ (pl : Addr) (xs : List Q2) (y4 : Option V), σ = [some (.int n), some (.ref pr), some (.int h), y4, some (.ref pl)] ∧ H pl = none ∧ LP K H3 pl xs ∧ Lags n (1 + 29 * i) xs ∧ Same H H3)
    ⟨_, _, _, rfl, hD, ⟨us, eD, hP⟩, ⟨by rw [List.length_replicate], noughts_ok n, noughts_worth n⟩, s1⟩ (fun i σ H3 hi hW => ?_) (fun σ H3 hW => ?_)
  · obtain ⟨pl, xs, y4, rfl, npl, lpl, hx, sm⟩ := hW
    have hk : i * (n + 1) + (n + 1) ≤ rs.length := by
      have : (i + 1) * (n + 1) ≤ h * (n + 1) := Nat.mul_le_mul_right _ hi
      rw [Nat.succ_mul] at this
      omega
    refine ⟨_, rfl, _, rfl, _, rfl, _, rfl, _, _, rfl, rfl, _, _, rfl, rfl, .inl ⟨by omega, by omega⟩, _, rfl, pr, _, rfl, SqL.of (sm _ _ epr), fun pc hc => ?_⟩
    rw [show (0 + (i : Int)) * ((n : Int) + 1) = ((i * (n + 1) : Nat) : Int) from by rw [Int.zero_add]; simp, cut_from rs (i * (n + 1)) (by omega)]
    have sc := same_upd (o := .lst ((rs.drop (i * (n + 1))).map V.int)) hc
    refine ⟨_, rfl, pc, _, n, rfl, upd_same, hn1, hn2, by rw [List.length_drop]; omega, fun r hr' => hb r (List.mem_of_mem_drop hr'), fun H5 ps ws s5 nps hws lps => ?_⟩
    have oy := shares_ok hws hn2
    have ly : (sharesOf ws).length = n := by rw [shares_len, hws.1]
    have wy := worth_shares hws
    have hxl := hx.len
    have hho := hour_ok hx.ok oy (by omega) (by omega)
    have hhw := hour_worth hx.ok oy (by omega) (by omega)
    refine ⟨pl, ps, xs, sharesOf ws, 1 + 29 * i, rfl, (lpl.same sc).same s5, lps, by omega, by omega, by omega, hx.ok, oy, by omega, fun H6 t r s6 nr hT lr => ?_⟩
    refine ⟨t, _, 1, _, rfl, rfl, hT, rfl, ?_⟩
    have s36 := sc.trans (s5.trans s6)
    refine ⟨r, _, _, rfl, ?_, lr, ⟨by omega, hho.1.mono (by omega), ?_⟩, sm.trans s36⟩
    · exact (sm.trans (sc.trans s5)).free nr
    · rw [hhw, hx.zero, wy]
      grind
  · obtain ⟨pl, xs, y4, rfl, npl, lpl, hx, sm⟩ := hW
    exact ⟨_, rfl, q _ _ _ sm npl lpl ⟨hx.len, hx.ok.mono (by omega), hx.zero⟩⟩

def rs0 (rs : List Int) (z : Int) : List Int := rs ++ [z]
def sp__law_flow (K : PySem.W.Frag) : Sp := fun vs H Q _ => ∃ (a : Addr) (ns : List Int) (m : Nat), vs = [.ref a, .int m] ∧ SqL K H a (ns.map V.int) ∧ ns.length ≤ 63 ∧ m ≤ 500 ∧
  ∀ H' v rs, Same H H' → Ls H' v rs → rs.length = m → (∀ r ∈ rs, 0 ≤ r ∧ r < 1000000) → Q v H'
theorem ok__law_flow {k : Nat} (D : Df K mg "_law_flow" s__law_flow ["_law_script", "_law_many"]) (m_abs : mg "abs" = none) (m_len : mg "len" = none) (m_range : mg "range" = none) :
    FnOk P w K mg base CX0 (k + 1) D.f D.fd ["_law_script", "_law_many"] (sp__law_flow K) := by
  refine D.F.ok sc__law_flow (fun vs H Q E h => ?_) (fun cdv A outer s H vs Q E hr h => ?_)
  · obtain ⟨a, ns, m, rfl, _⟩ := h
    rfl
  · obtain ⟨a, ns, m, rfl, hS, hlen, hm, q⟩ := h
    refine ⟨_, (pss_cons (ps_set (i := 2) sc__law_flow.nd rfl (.inl rfl) pe_int)
      (pss_cons (ps_if (PW.pt (pw_and (pt_cmpR op_gt (pe_callB call_len_seq (by rfl) m_len PySem.boot_len (pa_cons (pv 0) pa_nil)) pe_int (nomark _)) (pw_and1 (pt_cmpR op_ge (pe_callB call_abs (by rfl) m_abs boot_abs (pa_cons (pe_ix ix_list (pv 0) pe_int (fun _ _ => rfl)) pa_nil)) (pe_op op_pow pe_int pe_int) (nomark _))))) (pss_one (ps_set (i := 2) sc__law_flow.nd rfl (.inl rfl) (pe_op op_sub (pe_callB call_abs (by rfl) m_abs boot_abs (pa_cons (pe_ix ix_list (pv 0) pe_int (fun _ _ => rfl)) pa_nil)) (pe_op op_pow pe_int pe_int)))) pss_nil)
      (pss_cons (ps_set (i := 3) sc__law_flow.nd rfl (.inl rfl) (pe_lst pa_nil))
      (pss_cons (ps_for PassesOwn.never rfl (pi_range1 (by rfl) m_range (pa_cons (pv 1) pa_nil)) (pg_name (i := 4) sc__law_flow.nd rfl (.inl rfl)) (pss_one (ps_if (pt_cmpR op_gt (pv 2) pe_int (nomark _)) (pss_cons (ps_expr (pe_bm PySem.F.plainAttrs_list PySem.F.slot_list_append PySem.F.type_list_append mt_append (pv 3) (pa_cons (pe_op op_mod (pv 2) pe_int) pa_nil)))
      (pss_one (ps_set (i := 2) sc__law_flow.nd rfl (.inl rfl) (pe_op op_fdivW (pv 2) pe_int)))) (pss_cons (ps_set (i := 5) sc__law_flow.nd rfl (.inl rfl) (pe_op op_add (pv 4) pe_int))
      (pss_cons (ps_if (pt_cmpR op_gt (pe_callB call_len_seq (by rfl) m_len PySem.boot_len (pa_cons (pv 0) pa_nil)) pe_int (nomark _)) (pss_one (ps_set (i := 5) sc__law_flow.nd rfl (.inl rfl) (pe_ix ix_list (pv 0) (pe_op op_mod (pv 4) (pe_callB call_len_seq (by rfl) m_len PySem.boot_len (pa_cons (pv 0) pa_nil))) (fun _ _ => rfl)))) pss_nil)
      (pss_cons (ps_set (i := 6) sc__law_flow.nd rfl (.inl rfl) (pe_op op_mod (pe_op op_add (pe_op op_add (pe_op op_mul (pv 5) pe_int) (pe_op op_mul (pv 4) pe_int)) pe_int) pe_int))
      (pss_cons (ps_set (i := 6) sc__law_flow.nd rfl (.inl rfl) (pe_op op_mod (pe_op op_add (pe_op op_add (pe_op op_mul (pv 6) pe_int) (pe_op op_mul (pv 4) pe_int)) (pe_callB call_len_seq (by rfl) m_len PySem.boot_len (pa_cons (pv 0) pa_nil))) pe_int))
      (pss_one (ps_expr (pe_bm PySem.F.plainAttrs_list PySem.F.slot_list_append PySem.F.type_list_append mt_append (pv 3) (pa_cons (pe_op op_mod (pe_op op_fdivW (pv 6) pe_int) pe_int) pa_nil)))))))))))
      (pss_one (ps_ret (pv 3))))))), ?_⟩
    -- the loop and what follows, for any great
    have c1 : ∀ x : Int, CDivW x 1000000 := fun x => bd_divok (n := 20) (by decide) (by unfold Bd; decide) (by decide)
    have c19 : ∀ x : Int, CDivW x 19 := fun x => bd_divok (n := 20) (by decide) (by unfold Bd; decide) (by decide)
    have mk : ∀ x c : Int, -(2 ^ 64) < c → c < 2 ^ 64 → CMul x c := fun x c h1 h2 => .inr ⟨h1, h2⟩
    refine ⟨_, rfl, a, _, rfl, .inl hS, _, _, rfl, rfl, _, rfl, ite2 (fun e => ?_) (fun e => ?_)⟩
    · have hpos : 0 < ns.length := by
        have := of_decide_eq_true e
        rw [List.length_map] at this
        omega
      have g0 : atI (ns.map V.int) 0 = some (.int (ns.getD 0 0)) := ls_at (j := 0) hpos
      refine ⟨_, rfl, a, _, 0, _, rfl, rfl, hS, g0, _, rfl, _, _, rfl, rfl, ⟨by decide, by decide, by decide⟩, _, _, rfl, rfl, _, rfl, ite2 (fun e2 => ?_) (fun e2 => ?_)⟩
      · refine ⟨_, rfl, a, _, 0, _, rfl, rfl, hS, g0, _, rfl, _, _, rfl, rfl, ⟨by decide, by decide, by decide⟩, _, _, rfl, rfl, ?_⟩
        refine ⟨Nat.zero_le _, fun p hp => ?_⟩
        refine ⟨_, rfl, (m : Int), rfl, (by omega), (by omega), ?_⟩
        refine for_range (n := m) (fun i σ H3 => ∃ (g : Int) (rs : List Int) (y4 y5 y6 : Option V), σ = [some (.ref a), some (.int m), some (.int g), some (.ref p), y4, y5, y6] ∧ Same H H3 ∧ H3 p = some (.lst (rs.map V.int)) ∧ rs.length = i ∧ ∀ r ∈ rs, 0 ≤ r ∧ r < 1000000)
          ⟨_, [], _, _, _, rfl, same_upd hp, upd_same, rfl, fun r hr => nomatch hr⟩ (fun i σ H3 hi hW => ?_) (fun σ H3 hW => ?_)
        · obtain ⟨g, rs, y4, y5, y6, rfl, sm, hL, hl, hb⟩ := hW
          have hS3 := sm.seq hS
          have step : ∀ (z : Int), (0 ≤ z ∧ z < 1000000) →
              Same H (upd H3 p (.lst ((rs0 rs z).map V.int))) ∧ (upd H3 p (.lst ((rs0 rs z).map V.int))) p = some (.lst ((rs0 rs z).map V.int)) ∧ (rs0 rs z).length = i + 1 ∧ ∀ r ∈ rs0 rs z, 0 ≤ r ∧ r < 1000000 := by
            intro z hz
            refine ⟨fun b o eb => ?_, upd_same, ?_, ?_⟩
            · rw [upd_ne (ne_of_none eb hp)]
              exact sm _ _ eb
            · unfold rs0
              rw [List.length_append, hl]
              rfl
            · intro r hr
              unfold rs0 at hr
              rcases List.mem_append.1 hr with h | h
              · exact hb r h
              · rw [List.mem_singleton.1 h]
                exact hz
          have em : ∀ z : Int, (rs.map V.int) ++ [V.int z] = (rs0 rs z).map V.int := fun z => by
            unfold rs0
            rw [List.map_append]
            rfl
          have hsz : (rs.map V.int).length < sizeLine := small1000 (by rw [List.length_map]; omega)
          refine ⟨_, rfl, _, _, rfl, rfl, _, rfl, ite2 (fun e => ?_) (fun e => ?_)⟩
          · refine ⟨_, rfl, .inl ⟨rfl, _, SqL.of hL⟩, _, rfl, _, _, rfl, rfl, (by show (0 : Int) < _; decide), p, _, _, rfl, rfl, hL, hsz, ?_⟩
            rw [em]
            refine ⟨_, rfl, _, _, rfl, rfl, c1 _, ?_⟩
            exact ⟨_, _, _, _, _, rfl, step _ ⟨Int.emod_nonneg _ (by decide), Int.emod_lt_of_pos _ (by decide)⟩⟩
          · refine ⟨_, rfl, _, _, rfl, rfl, ?_⟩
            refine ⟨_, rfl, a, _, rfl, .inl hS3, _, _, rfl, rfl, _, rfl, ite2 (fun e1 => ?_) (fun e1 => ?_)⟩
            · have hpos : 0 < ns.length := by
                have := of_decide_eq_true e1
                rw [List.length_map] at this
                omega
              have hlt : i % ns.length < ns.length := Nat.mod_lt _ hpos
              have gk : atI (ns.map V.int) ((0 + (i : Int)) % ((ns.map V.int).length : Int)) = some (.int (ns.getD (i % ns.length) 0)) := by
                rw [Int.zero_add, List.length_map, ← Int.natCast_emod]
                exact ls_at hlt
              refine ⟨_, rfl, _, rfl, _, rfl, a, _, rfl, .inl hS3, _, _, rfl, rfl, (by rw [List.length_map]; omega), a, _, _, _, rfl, rfl, hS3, gk, ?_⟩
              refine ⟨_, rfl, _, _, rfl, rfl, mk _ _ (by decide) (by decide), _, rfl, _, _, rfl, rfl, mk _ _ (by decide) (by decide), _, _, rfl, rfl, _, _, rfl, rfl, _, _, rfl, rfl, (by show (0 : Int) < _; decide), ?_⟩
              refine ⟨_, rfl, _, _, rfl, rfl, mk _ _ (by decide) (by decide), _, rfl, _, _, rfl, rfl, mk _ _ (by decide) (by decide), _, _, rfl, rfl, _, rfl, a, _, rfl, .inl hS3, _, _, rfl, rfl, _, _, rfl, rfl, (by show (0 : Int) < _; decide), ?_⟩
              refine ⟨_, rfl, .inl ⟨rfl, _, SqL.of hL⟩, _, rfl, _, _, rfl, rfl, c19 _, _, _, rfl, rfl, (by show (0 : Int) < _; decide), p, _, _, rfl, rfl, hL, hsz, ?_⟩
              rw [em]
              exact ⟨_, _, _, _, _, rfl, step _ ⟨Int.emod_nonneg _ (by decide), Int.emod_lt_of_pos _ (by decide)⟩⟩
            · refine ⟨_, rfl, _, _, rfl, rfl, mk _ _ (by decide) (by decide), _, rfl, _, _, rfl, rfl, mk _ _ (by decide) (by decide), _, _, rfl, rfl, _, _, rfl, rfl, _, _, rfl, rfl, (by show (0 : Int) < _; decide), ?_⟩
              refine ⟨_, rfl, _, _, rfl, rfl, mk _ _ (by decide) (by decide), _, rfl, _, _, rfl, rfl, mk _ _ (by decide) (by decide), _, _, rfl, rfl, _, rfl, a, _, rfl, .inl hS3, _, _, rfl, rfl, _, _, rfl, rfl, (by show (0 : Int) < _; decide), ?_⟩
              refine ⟨_, rfl, .inl ⟨rfl, _, SqL.of hL⟩, _, rfl, _, _, rfl, rfl, c19 _, _, _, rfl, rfl, (by show (0 : Int) < _; decide), p, _, _, rfl, rfl, hL, hsz, ?_⟩
              rw [em]
              exact ⟨_, _, _, _, _, rfl, step _ ⟨Int.emod_nonneg _ (by decide), Int.emod_lt_of_pos _ (by decide)⟩⟩
        · obtain ⟨g, rs, y4, y5, y6, rfl, sm, hL, hl, hb⟩ := hW
          exact ⟨_, rfl, q H3 _ rs sm ⟨p, rfl, hL⟩ hl hb⟩
      · refine ⟨Nat.zero_le _, fun p hp => ?_⟩
        refine ⟨_, rfl, (m : Int), rfl, (by omega), (by omega), ?_⟩
        refine for_range (n := m) (fun i σ H3 => ∃ (g : Int) (rs : List Int) (y4 y5 y6 : Option V), σ = [some (.ref a), some (.int m), some (.int g), some (.ref p), y4, y5, y6] ∧ Same H H3 ∧ H3 p = some (.lst (rs.map V.int)) ∧ rs.length = i ∧ ∀ r ∈ rs, 0 ≤ r ∧ r < 1000000)
          ⟨_, [], _, _, _, rfl, same_upd hp, upd_same, rfl, fun r hr => nomatch hr⟩ (fun i σ H3 hi hW => ?_) (fun σ H3 hW => ?_)
        · obtain ⟨g, rs, y4, y5, y6, rfl, sm, hL, hl, hb⟩ := hW
          have hS3 := sm.seq hS
          have step : ∀ (z : Int), (0 ≤ z ∧ z < 1000000) →
              Same H (upd H3 p (.lst ((rs0 rs z).map V.int))) ∧ (upd H3 p (.lst ((rs0 rs z).map V.int))) p = some (.lst ((rs0 rs z).map V.int)) ∧ (rs0 rs z).length = i + 1 ∧ ∀ r ∈ rs0 rs z, 0 ≤ r ∧ r < 1000000 := by
            intro z hz
            refine ⟨fun b o eb => ?_, upd_same, ?_, ?_⟩
            · rw [upd_ne (ne_of_none eb hp)]
              exact sm _ _ eb
            · unfold rs0
              rw [List.length_append, hl]
              rfl
            · intro r hr
              unfold rs0 at hr
              rcases List.mem_append.1 hr with h | h
              · exact hb r h
              · rw [List.mem_singleton.1 h]
                exact hz
          have em : ∀ z : Int, (rs.map V.int) ++ [V.int z] = (rs0 rs z).map V.int := fun z => by
            unfold rs0
            rw [List.map_append]
            rfl
          have hsz : (rs.map V.int).length < sizeLine := small1000 (by rw [List.length_map]; omega)
          refine ⟨_, rfl, _, _, rfl, rfl, _, rfl, ite2 (fun e => ?_) (fun e => ?_)⟩
          · refine ⟨_, rfl, .inl ⟨rfl, _, SqL.of hL⟩, _, rfl, _, _, rfl, rfl, (by show (0 : Int) < _; decide), p, _, _, rfl, rfl, hL, hsz, ?_⟩
            rw [em]
            refine ⟨_, rfl, _, _, rfl, rfl, c1 _, ?_⟩
            exact ⟨_, _, _, _, _, rfl, step _ ⟨Int.emod_nonneg _ (by decide), Int.emod_lt_of_pos _ (by decide)⟩⟩
          · refine ⟨_, rfl, _, _, rfl, rfl, ?_⟩
            refine ⟨_, rfl, a, _, rfl, .inl hS3, _, _, rfl, rfl, _, rfl, ite2 (fun e1 => ?_) (fun e1 => ?_)⟩
            · have hpos : 0 < ns.length := by
                have := of_decide_eq_true e1
                rw [List.length_map] at this
                omega
              have hlt : i % ns.length < ns.length := Nat.mod_lt _ hpos
              have gk : atI (ns.map V.int) ((0 + (i : Int)) % ((ns.map V.int).length : Int)) = some (.int (ns.getD (i % ns.length) 0)) := by
                rw [Int.zero_add, List.length_map, ← Int.natCast_emod]
                exact ls_at hlt
              refine ⟨_, rfl, _, rfl, _, rfl, a, _, rfl, .inl hS3, _, _, rfl, rfl, (by rw [List.length_map]; omega), a, _, _, _, rfl, rfl, hS3, gk, ?_⟩
              refine ⟨_, rfl, _, _, rfl, rfl, mk _ _ (by decide) (by decide), _, rfl, _, _, rfl, rfl, mk _ _ (by decide) (by decide), _, _, rfl, rfl, _, _, rfl, rfl, _, _, rfl, rfl, (by show (0 : Int) < _; decide), ?_⟩
              refine ⟨_, rfl, _, _, rfl, rfl, mk _ _ (by decide) (by decide), _, rfl, _, _, rfl, rfl, mk _ _ (by decide) (by decide), _, _, rfl, rfl, _, rfl, a, _, rfl, .inl hS3, _, _, rfl, rfl, _, _, rfl, rfl, (by show (0 : Int) < _; decide), ?_⟩
              refine ⟨_, rfl, .inl ⟨rfl, _, SqL.of hL⟩, _, rfl, _, _, rfl, rfl, c19 _, _, _, rfl, rfl, (by show (0 : Int) < _; decide), p, _, _, rfl, rfl, hL, hsz, ?_⟩
              rw [em]
              exact ⟨_, _, _, _, _, rfl, step _ ⟨Int.emod_nonneg _ (by decide), Int.emod_lt_of_pos _ (by decide)⟩⟩
            · refine ⟨_, rfl, _, _, rfl, rfl, mk _ _ (by decide) (by decide), _, rfl, _, _, rfl, rfl, mk _ _ (by decide) (by decide), _, _, rfl, rfl, _, _, rfl, rfl, _, _, rfl, rfl, (by show (0 : Int) < _; decide), ?_⟩
              refine ⟨_, rfl, _, _, rfl, rfl, mk _ _ (by decide) (by decide), _, rfl, _, _, rfl, rfl, mk _ _ (by decide) (by decide), _, _, rfl, rfl, _, rfl, a, _, rfl, .inl hS3, _, _, rfl, rfl, _, _, rfl, rfl, (by show (0 : Int) < _; decide), ?_⟩
              refine ⟨_, rfl, .inl ⟨rfl, _, SqL.of hL⟩, _, rfl, _, _, rfl, rfl, c19 _, _, _, rfl, rfl, (by show (0 : Int) < _; decide), p, _, _, rfl, rfl, hL, hsz, ?_⟩
              rw [em]
              exact ⟨_, _, _, _, _, rfl, step _ ⟨Int.emod_nonneg _ (by decide), Int.emod_lt_of_pos _ (by decide)⟩⟩
        · obtain ⟨g, rs, y4, y5, y6, rfl, sm, hL, hl, hb⟩ := hW
          exact ⟨_, rfl, q H3 _ rs sm ⟨p, rfl, hL⟩ hl hb⟩
    · refine ⟨Nat.zero_le _, fun p hp => ?_⟩
      refine ⟨_, rfl, (m : Int), rfl, (by omega), (by omega), ?_⟩
      refine for_range (n := m) (fun i σ H3 => ∃ (g : Int) (rs : List Int) (y4 y5 y6 : Option V), σ = [some (.ref a), some (.int m), some (.int g), some (.ref p), y4, y5, y6] ∧ Same H H3 ∧ H3 p = some (.lst (rs.map V.int)) ∧ rs.length = i ∧ ∀ r ∈ rs, 0 ≤ r ∧ r < 1000000)
        ⟨_, [], _, _, _, rfl, same_upd hp, upd_same, rfl, fun r hr => nomatch hr⟩ (fun i σ H3 hi hW => ?_) (fun σ H3 hW => ?_)
      · obtain ⟨g, rs, y4, y5, y6, rfl, sm, hL, hl, hb⟩ := hW
        have hS3 := sm.seq hS
        have step : ∀ (z : Int), (0 ≤ z ∧ z < 1000000) →
            Same H (upd H3 p (.lst ((rs0 rs z).map V.int))) ∧ (upd H3 p (.lst ((rs0 rs z).map V.int))) p = some (.lst ((rs0 rs z).map V.int)) ∧ (rs0 rs z).length = i + 1 ∧ ∀ r ∈ rs0 rs z, 0 ≤ r ∧ r < 1000000 := by
          intro z hz
          refine ⟨fun b o eb => ?_, upd_same, ?_, ?_⟩
          · rw [upd_ne (ne_of_none eb hp)]
            exact sm _ _ eb
          · unfold rs0
            rw [List.length_append, hl]
            rfl
          · intro r hr
            unfold rs0 at hr
            rcases List.mem_append.1 hr with h | h
            · exact hb r h
            · rw [List.mem_singleton.1 h]
              exact hz
        have em : ∀ z : Int, (rs.map V.int) ++ [V.int z] = (rs0 rs z).map V.int := fun z => by
          unfold rs0
          rw [List.map_append]
          rfl
        have hsz : (rs.map V.int).length < sizeLine := small1000 (by rw [List.length_map]; omega)
        refine ⟨_, rfl, _, _, rfl, rfl, _, rfl, ite2 (fun e => ?_) (fun e => ?_)⟩
        · refine ⟨_, rfl, .inl ⟨rfl, _, SqL.of hL⟩, _, rfl, _, _, rfl, rfl, (by show (0 : Int) < _; decide), p, _, _, rfl, rfl, hL, hsz, ?_⟩
          rw [em]
          refine ⟨_, rfl, _, _, rfl, rfl, c1 _, ?_⟩
          exact ⟨_, _, _, _, _, rfl, step _ ⟨Int.emod_nonneg _ (by decide), Int.emod_lt_of_pos _ (by decide)⟩⟩
        · refine ⟨_, rfl, _, _, rfl, rfl, ?_⟩
          refine ⟨_, rfl, a, _, rfl, .inl hS3, _, _, rfl, rfl, _, rfl, ite2 (fun e1 => ?_) (fun e1 => ?_)⟩
          · have hpos : 0 < ns.length := by
              have := of_decide_eq_true e1
              rw [List.length_map] at this
              omega
            have hlt : i % ns.length < ns.length := Nat.mod_lt _ hpos
            have gk : atI (ns.map V.int) ((0 + (i : Int)) % ((ns.map V.int).length : Int)) = some (.int (ns.getD (i % ns.length) 0)) := by
              rw [Int.zero_add, List.length_map, ← Int.natCast_emod]
              exact ls_at hlt
            refine ⟨_, rfl, _, rfl, _, rfl, a, _, rfl, .inl hS3, _, _, rfl, rfl, (by rw [List.length_map]; omega), a, _, _, _, rfl, rfl, hS3, gk, ?_⟩
            refine ⟨_, rfl, _, _, rfl, rfl, mk _ _ (by decide) (by decide), _, rfl, _, _, rfl, rfl, mk _ _ (by decide) (by decide), _, _, rfl, rfl, _, _, rfl, rfl, _, _, rfl, rfl, (by show (0 : Int) < _; decide), ?_⟩
            refine ⟨_, rfl, _, _, rfl, rfl, mk _ _ (by decide) (by decide), _, rfl, _, _, rfl, rfl, mk _ _ (by decide) (by decide), _, _, rfl, rfl, _, rfl, a, _, rfl, .inl hS3, _, _, rfl, rfl, _, _, rfl, rfl, (by show (0 : Int) < _; decide), ?_⟩
            refine ⟨_, rfl, .inl ⟨rfl, _, SqL.of hL⟩, _, rfl, _, _, rfl, rfl, c19 _, _, _, rfl, rfl, (by show (0 : Int) < _; decide), p, _, _, rfl, rfl, hL, hsz, ?_⟩
            rw [em]
            exact ⟨_, _, _, _, _, rfl, step _ ⟨Int.emod_nonneg _ (by decide), Int.emod_lt_of_pos _ (by decide)⟩⟩
          · refine ⟨_, rfl, _, _, rfl, rfl, mk _ _ (by decide) (by decide), _, rfl, _, _, rfl, rfl, mk _ _ (by decide) (by decide), _, _, rfl, rfl, _, _, rfl, rfl, _, _, rfl, rfl, (by show (0 : Int) < _; decide), ?_⟩
            refine ⟨_, rfl, _, _, rfl, rfl, mk _ _ (by decide) (by decide), _, rfl, _, _, rfl, rfl, mk _ _ (by decide) (by decide), _, _, rfl, rfl, _, rfl, a, _, rfl, .inl hS3, _, _, rfl, rfl, _, _, rfl, rfl, (by show (0 : Int) < _; decide), ?_⟩
            refine ⟨_, rfl, .inl ⟨rfl, _, SqL.of hL⟩, _, rfl, _, _, rfl, rfl, c19 _, _, _, rfl, rfl, (by show (0 : Int) < _; decide), p, _, _, rfl, rfl, hL, hsz, ?_⟩
            rw [em]
            exact ⟨_, _, _, _, _, rfl, step _ ⟨Int.emod_nonneg _ (by decide), Int.emod_lt_of_pos _ (by decide)⟩⟩
      · obtain ⟨g, rs, y4, y5, y6, rfl, sm, hL, hl, hb⟩ := hW
        exact ⟨_, rfl, q H3 _ rs sm ⟨p, rfl, hL⟩ hl hb⟩

theorem ok_law (D : Df K mg "law" s_law ["_law_script"]) (D_common : Df K mg "common" s_common ["a", "b"]) (D_plus : Df K mg "plus" s_plus ["a", "b"]) (D_minus : Df K mg "minus" s_minus ["a", "b"]) (D_below : Df K mg "below" s_below ["a", "b"]) (D_raised : Df K mg "raised" s_raised ["lags", "shares"]) (D_turn_of : Df K mg "turn_of" s_turn_of ["row"]) (D_dealt : Df K mg "dealt" s_dealt ["lags", "shares"]) (D__law_whole : Df K mg "_law_whole" s__law_whole ["_law_found"]) (D__law_low : Df K mg "_law_low" s__law_low ["_law_top", "_law_bottom"]) (D__law_add : Df K mg "_law_add" s__law_add ["_law_a", "_law_b"]) (D__law_sub : Df K mg "_law_sub" s__law_sub ["_law_a", "_law_b"]) (D__law_less : Df K mg "_law_less" s__law_less ["_law_a", "_law_b"]) (D__law_part : Df K mg "_law_part" s__law_part ["_law_found"]) (D__law_parts : Df K mg "_law_parts" s__law_parts ["_law_found"]) (D__law_first : Df K mg "_law_first" s__law_first ["_law_row"]) (D__law_many_fields : Df K mg "_law_many_fields" s__law_many_fields ["_law_one", "_law_top"]) (D__law_any : Df K mg "_law_any" s__law_any ["_law_one", "_law_two"]) (D__law_shares : Df K mg "_law_shares" s__law_shares ["_law_row", "_law_n"]) (D__law_hour : Df K mg "_law_hour" s__law_hour ["_law_lags", "_law_shares_here"]) (D__law_lived : Df K mg "_law_lived" s__law_lived ["_law_n", "_law_row", "_law_hours"]) (D__law_flow : Df K mg "_law_flow" s__law_flow ["_law_script", "_law_many"])
    (m_zip : mg "zip" = none) (m_enumerate : mg "enumerate" = none) (m_isinstance : mg "isinstance" = none) (m_bool : mg "bool" = none) (m_int : mg "int" = none) (m_abs : mg "abs" = none) (m_len : mg "len" = none) (m_tuple : mg "tuple" = none) (m_all : mg "all" = none) (m_list : mg "list" = none) (m_range : mg "range" = none) (m_min : mg "min" = none) (m_sum : mg "sum" = none) : FnOk P w K mg base CX0 7 D.f D.fd ["_law_script"] (sp_law K) := by
  have G_dealt : FnOk P w K mg base CX0 6 D_dealt.f D_dealt.fd ["lags", "shares"] (sp_hour K) := ok_dealt D_dealt D_common D_plus D_minus D_below D_raised D_turn_of m_enumerate m_zip
  have G__law_whole : FnOk P w K mg base CX0 6 D__law_whole.f D__law_whole.fd ["_law_found"] sp__law_whole := ok__law_whole D__law_whole m_isinstance m_int m_bool
  have G__law_parts : FnOk P w K mg base CX0 6 D__law_parts.f D__law_parts.fd ["_law_found"] (sp__law_parts K) := ok__law_parts D__law_parts D__law_part D__law_whole m_isinstance m_int m_bool m_tuple m_len m_list m_all
  have G__law_any : FnOk P w K mg base CX0 6 D__law_any.f D__law_any.fd ["_law_one", "_law_two"] (sp__law_any K) := ok__law_any D__law_any D__law_low m_abs
  have G__law_shares : FnOk P w K mg base CX0 6 D__law_shares.f D__law_shares.fd ["_law_row", "_law_n"] (sp__law_shares K) := ok__law_shares D__law_shares D__law_low m_abs m_int m_sum
  have G__law_many_fields : FnOk P w K mg base CX0 6 D__law_many_fields.f D__law_many_fields.fd ["_law_one", "_law_top"] sp__law_many_fields := ok__law_many_fields D__law_many_fields m_min
  have G__law_hour : FnOk P w K mg base CX0 6 D__law_hour.f D__law_hour.fd ["_law_lags", "_law_shares_here"] (sp_hour K) := ok__law_hour D__law_hour D__law_low D__law_add D__law_sub D__law_less D__law_first m_abs m_range m_len m_zip
  have G__law_lived : FnOk P w K mg base CX0 6 D__law_lived.f D__law_lived.fd ["_law_n", "_law_row", "_law_hours"] (sp__law_lived K) := ok__law_lived D__law_lived D__law_low D__law_add D__law_sub D__law_less D__law_first D__law_hour D__law_shares m_abs m_range m_len m_zip m_int m_sum
  have G__law_flow : FnOk P w K mg base CX0 6 D__law_flow.f D__law_flow.fd ["_law_script", "_law_many"] (sp__law_flow K) := ok__law_flow D__law_flow m_abs m_len m_range
  refine D.F.ok sc_law (fun vs H Q E h => ?_) (fun cdv A outer s H vs Q E hr h => ?_)
  · obtain ⟨a, ns, rfl, _⟩ := h
    rfl
  obtain ⟨a, ns, rfl, hS, hlen, q⟩ := h
  refine ⟨_, (pss_cons (ps_set (i := 1) sc_law.nd rfl (.inr rfl) (pe_call G__law_flow (hr.mono (by omega)) (by rfl) D__law_flow.g D__law_flow.F.kp D__law_flow.b .nil pass0 (pa_cons (pv 0) (pa_cons pe_int pa_nil))))
      (pss_cons (ps_set (i := 2) sc_law.nd rfl (.inl rfl) (pe_call G__law_many_fields (hr.mono (by omega)) (by rfl) D__law_many_fields.g D__law_many_fields.F.kp D__law_many_fields.b .nil pass0 (pa_cons (pe_ix ix_list (pv 1) pe_int (fun _ _ => rfl)) (pa_cons pe_int pa_nil))))
      (pss_cons (ps_setLc (i := 3) (own := [("_law_k", 9)]) (g := gName 9) (tt := tYes) rfl sc_law.nd rfl rfl (sw_true rfl rfl rfl (by decide +kernel)) (pi_range1 (by rfl) m_range (pa_cons (pv 2) pa_nil)) (blkOk_by (N := N_law) (sc := defScope s_law) (by decide +kernel)) (fun _ _ _ _ _ => pg_name (i := 9) sc_law.nd rfl (Or.inl rfl)) (fun _ _ _ _ _ => pts_nil) (fun _ _ _ _ _ => (pe_call G__law_any (hr.mono (by omega)) (by rfl) D__law_any.g D__law_any.F.kp D__law_any.b .nil pass0 (pa_cons (pe_ix (r := rIxL K) ix_list (pv 1) (pe_op op_add pe_int (pe_op op_mul pe_int (pv 9))) (fun _ _ => rfl)) (pa_cons (pe_ix (r := rIxL K) ix_list (pv 1) (pe_op op_add pe_int (pe_op op_mul pe_int (pv 9))) (fun _ _ => rfl)) pa_nil)))))
      (C8.pss_cut (ps_if (pt_cmpR op_gt (pe_op op_mod (pe_ix ix_list (pv 1) pe_int (fun _ _ => rfl)) pe_int) pe_int (nomark _)) (pss_one (ps_set (i := 3) sc_law.nd rfl (.inl rfl) (pe_call G__law_lived (hr.mono (by omega)) (by rfl) D__law_lived.g D__law_lived.F.kp D__law_lived.b .nil pass0 (pa_cons (pv 2) (pa_cons (pe_slice sl_list (pv 1) (po_some pe_int) po_none) (pa_cons (pe_op op_mod (pe_op op_fdivW (pe_ix ix_list (pv 1) pe_int (fun _ _ => rfl)) pe_int) pe_int) pa_nil)))))) pss_nil)
      (pss_cons (ps_set (i := 4) sc_law.nd rfl (.inl rfl) (pe_call G__law_shares (hr.mono (by omega)) (by rfl) D__law_shares.g D__law_shares.F.kp D__law_shares.b .nil pass0 (pa_cons (pe_slice sl_list (pv 1) (po_some pe_int) po_none) (pa_cons (pv 2) pa_nil))))
      (pss_cons (ps_set (i := 5) sc_law.nd rfl (.inl rfl) (pe_lst (pa_cons (pe_callTy call_list_of (by rfl) m_list PyProof.Rows.boot_list (pa_cons (pv 3) pa_nil)) (pa_cons (pe_callTy call_list_of (by rfl) m_list PyProof.Rows.boot_list (pa_cons (pv 4) pa_nil)) pa_nil))))
      (pss_cons (ps_set (i := 6) sc_law.nd rfl (.inl rfl) (pe_call G__law_hour (hr.mono (by omega)) (by rfl) D__law_hour.g D__law_hour.F.kp D__law_hour.b .nil pass0 (pa_cons (pv 3) (pa_cons (pv 4) pa_nil))))
      (pss_cons (ps_for PassesOwn.never rfl (pi_range1 (by rfl) m_range (pa_cons pe_int pa_nil)) (pg_name (i := 7) sc_law.nd rfl (.inl rfl)) (pss_cons (ps_set (i := 8) sc_law.nd rfl (.inl rfl) (pe_call G_dealt (hr.mono (by omega)) (by rfl) D_dealt.g D_dealt.F.kp D_dealt.b .nil pass0 (pa_cons (pe_ix ix_list (pv 5) pe_int (fun _ _ => rfl)) (pa_cons (pe_ix ix_list (pv 5) pe_int (fun _ _ => rfl)) pa_nil))))
      (pss_cons (ps_if (PW.pt (pw_or (pt_not (pt_val (pe_callB call_isi (by rfl) m_isinstance PyProof.Rows.boot_isinstance (pa_cons (pv 8) (pa_cons (pe_bltn (v := .ty "tuple") (by rfl) m_tuple PyProof.Rows.boot_tuple rfl) pa_nil))))) (pw_or (pt_cmpR op_ne (pe_callB call_len_seq (by rfl) m_len PySem.boot_len (pa_cons (pv 8) pa_nil)) pe_int (nomark _)) (pw_or1 (pt_not (pt_val (pe_call G__law_whole (hr.mono (by omega)) (by rfl) D__law_whole.g D__law_whole.F.kp D__law_whole.b .nil pass0 (pa_cons (pe_ix ix_tup (pv 8) pe_int (fun _ _ => rfl)) pa_nil)))))))) (pss_one (ps_ret pe_bl)) pss_nil)
      (pss_cons (ps_if (PW.pt (pw_or (pt_not (pt_val (pe_call G__law_parts (hr.mono (by omega)) (by rfl) D__law_parts.g D__law_parts.F.kp D__law_parts.b .nil pass0 (pa_cons (pe_ix ix_tup (pv 8) pe_int (fun _ _ => rfl)) pa_nil)))) (pw_or (pt_cmpR op_ne (pe_ix ix_tup (pv 8) pe_int (fun _ _ => rfl)) (pe_ix ix_tup (pv 6) pe_int (fun _ _ => rfl)) (nomark _)) (pw_or1 (pt_cmpR (op_neD hr.units) (pe_ix ix_tup (pv 8) pe_int (fun _ _ => rfl)) (pe_ix ix_tup (pv 6) pe_int (fun _ _ => rfl)) (nomark _)))))) (pss_one (ps_ret pe_bl)) pss_nil)
      (pss_cons (ps_expr (pe_bm PySem.F.plainAttrs_list PySem.F.slot_list_append PySem.F.type_list_append mt_append (pe_ix ix_tup (pv 8) pe_int (fun _ _ => rfl)) (pa_cons (pe_tup (pa_cons pe_int (pa_cons pe_int pa_nil))) pa_nil)))
      (pss_one (ps_if (pt_cmpR (op_neD hr.units) (pv 5) (pe_lst (pa_cons (pv 3) (pa_cons (pv 4) pa_nil))) (nomark _)) (pss_one (ps_ret pe_bl)) pss_nil)))))))
      (pss_one (ps_ret pe_bl)))))))))), ?_⟩
  refine ⟨_, rfl, a, ns, 310, rfl, hS, hlen, (by decide), fun H1 v rs sm1 ls1 hl hb => ?_⟩
  obtain ⟨p, rfl, ep⟩ := ls1
  have hL1 : SqL K H1 p (rs.map V.int) := SqL.of ep
  refine ⟨_, rfl, p, _, _, _, rfl, rfl, hL1, ls_z 0 rfl (by omega), _, _, rfl, by decide, fun n hn1 hn2 => ?_⟩
  obtain ⟨m, rfl⟩ : ∃ m : Nat, n = (m : Int) := ⟨n.toNat, by omega⟩
  -- the lags
  refine ⟨_, rfl, (m : Int), rfl, by omega, by omega, fun Dd hD => ?_⟩
  refine lc_range (n := m) (fun i H' => ∃ us xs, H' Dd = some (.lst us) ∧ Pps K H' us xs ∧ xs.length = i ∧ AllOk 200 xs ∧ Same H1 H') ⟨[], [], upd_same, .nil, rfl, AllOk.nil, same_upd hD⟩ (fun i H' hi hW => ?_) (fun H2 hW => ?_)
  · obtain ⟨us, xs, eD, hP, hlx, hx, sm⟩ := hW
    have hLi : SqL K H' p (rs.map V.int) := SqL.of (sm _ _ ep)
    refine ⟨rfl, ?_⟩
    dsimp only [tYes]
    rw [if_pos rfl]
    refine ⟨_, rfl, _, rfl, _, _, rfl, rfl, .inl ⟨by decide, by decide⟩, _, _, rfl, rfl, p, _, _, _, rfl, rfl, hLi, ls_z (2 + 2 * i) (by omega) (by omega), ?_⟩
    refine ⟨_, rfl, _, rfl, _, _, rfl, rfl, .inl ⟨by decide, by decide⟩, _, _, rfl, rfl, p, _, _, _, rfl, rfl, hLi, ls_z (3 + 2 * i) (by omega) (by omega), ?_⟩
    refine ⟨_, _, rfl, hb _ (getD_in (by omega)), hb _ (getD_in (by omega)), fun H'' vk x3 y3 sm3 low3 bx3 by3 prk' => ?_⟩
    have prk : Pp K H'' vk (x3, y3) := prk'
    have eD2 := sm3 _ _ eD
    refine ⟨us, eD2, small1000 (by rw [hP.len]; omega), us ++ [vk], _, upd_same, pps_grow eD2 (hP.same sm3) prk, by rw [List.length_append, hlx]; rfl, hx.snoc ⟨low3.pos, bx3, by3⟩ low3, same_at hD (sm.trans sm3)⟩
  obtain ⟨us2, xs2, eD2, hP2, hlx2, hx2, s2⟩ := hW
  have c4 : ∀ x : Int, CDivW x 4 := fun x => bd_divok (n := 20) (by decide) (by unfold Bd; decide) (by decide)
  refine ⟨fun σ H' => ∃ (pl : Addr) (xs : List Q2) (y4 y5 y6 y7 y8 y9 : Option V), σ = [some (.ref a), some (.ref p), some (.int m), some (.ref pl), y4, y5, y6, y7, y8, y9] ∧ LP K H' pl xs ∧ xs.length = m ∧ AllOk 240 xs ∧ Same H1 H', ?_, fun σ3 H3 hm => ?_⟩
  · refine ⟨_, rfl, p, _, _, _, rfl, rfl, SqL.of (s2 _ _ ep), ls_z 1 rfl (by omega), _, _, rfl, rfl, (by show (0 : Int) < _; decide), _, _, rfl, rfl, _, rfl, ite2 (fun e => ?_) (fun e => ?_)⟩
    · refine ⟨_, rfl, _, rfl, 52, rfl, p, _, rfl, SqL.of (s2 _ _ ep), fun pc hc => ?_⟩
      rw [show cutV (rs.map V.int) (some 52) none = (rs.drop 52).map V.int from cut_from rs 52 (by omega)]
      have sc := same_upd (o := .lst ((rs.drop 52).map V.int)) hc
      have g1 := Int.emod_nonneg (rs.getD 1 0 / 4) (show (9 : Int) ≠ 0 by decide)
      have g2 := Int.emod_lt_of_pos (rs.getD 1 0 / 4) (show (0 : Int) < 9 by decide)
      obtain ⟨h, eh, hh⟩ : ∃ h : Nat, rs.getD 1 0 / 4 % 9 = (h : Int) ∧ h ≤ 8 := ⟨(rs.getD 1 0 / 4 % 9).toNat, by omega, by omega⟩
      refine ⟨_, rfl, p, _, _, _, rfl, rfl, SqL.of (sc _ _ (s2 _ _ ep)), ls_z 1 rfl (by omega), _, _, rfl, rfl, c4 _, _, _, rfl, rfl, (by show (0 : Int) < _; decide), ?_⟩
      refine ⟨m, pc, rs.drop 52, h, by rw [← eh]; rfl, upd_same, by omega, by omega, hh, ?_, fun r hr' => hb r (List.mem_of_mem_drop hr'), fun H4 pl xs s4 npl lpl hx => ?_⟩
      · have : h * (m + 1) ≤ 8 * 25 := Nat.mul_le_mul hh (by omega)
        rw [List.length_drop]
        omega
      · exact ⟨_, _, _, _, _, _, _, _, rfl, lpl, hx.len, hx.ok.mono (by decide), s2.trans (sc.trans s4)⟩
    · exact ⟨_, _, _, _, _, _, _, _, rfl, ⟨us2, eD2, hP2⟩, hlx2, hx2.mono (by decide), s2⟩
  obtain ⟨pl, xs, y4, y5, y6, y7, y8, y9, rfl, lpl, lx, ox, s3⟩ := hm
  -- the shares
  refine ⟨_, rfl, 280, rfl, p, _, rfl, SqL.of (s3 _ _ ep), fun pc hc => ?_⟩
  rw [show cutV (rs.map V.int) (some 280) none = (rs.drop 280).map V.int from cut_from rs 280 (by omega)]
  have s4 := same_upd (o := .lst ((rs.drop 280).map V.int)) hc
  refine ⟨_, rfl, pc, rs.drop 280, m, rfl, upd_same, by omega, by omega, by rw [List.length_drop]; omega, fun r hr' => hb r (List.mem_of_mem_drop hr'), fun H5 ps ws s5 nps hws lps => ?_⟩
  have oy := shares_ok hws (by omega)
  have ly : (sharesOf ws).length = m := by rw [shares_len, hws.1]
  generalize sharesOf ws = ys at lps oy ly
  obtain ⟨us, eus, hus⟩ := (lpl.same s4).same s5
  obtain ⟨vs, evs, hvs⟩ := lps
  refine ⟨_, rfl, pl, us, rfl, .inl (SqL.of eus), fun l1 h1 => ?_⟩
  have t1 := same_upd (o := .lst us) h1
  refine ⟨_, rfl, ps, vs, rfl, .inl (SqL.of (t1 _ _ evs)), fun l2 h2 => ?_⟩
  have t2 := same_upd (o := .lst vs) h2
  refine ⟨(by show 2 ≤ sizeLine; decide), fun ph hh => ?_⟩
  have t3 := same_upd (o := .lst [.ref l1, .ref l2]) hh
  have t13 := t1.trans (t2.trans t3)
  obtain ⟨H6, eH6⟩ : ∃ H6, H6 = upd (upd (upd H5 l1 (.lst us)) l2 (.lst vs)) ph (.lst [.ref l1, .ref l2]) := ⟨_, rfl⟩
  have el1 : H6 l1 = some (.lst us) := by rw [eH6]; exact t3 _ _ (t2 _ _ upd_same)
  have el2 : H6 l2 = some (.lst vs) := by rw [eH6]; exact t3 _ _ upd_same
  have eph : H6 ph = some (.lst [.ref l1, .ref l2]) := by rw [eH6]; exact upd_same
  have s6 : Same H5 H6 := by rw [eH6]; exact t13
  rw [← eH6]
  have hus6 := hus.same s6
  have hvs6 := hvs.same s6
  have L1 : LP K H6 l1 xs := ⟨us, el1, hus6⟩
  have L2' : LP K H6 l2 ys := ⟨vs, el2, hvs6⟩
  have Lpl : LP K H6 pl xs := ⟨us, s6 _ _ eus, hus6⟩
  have Lps : LP K H6 ps ys := ⟨vs, s6 _ _ evs, hvs6⟩
  have hho := hour_ok ox oy (by omega) (by omega)
  -- due
  refine ⟨_, rfl, _, rfl, pl, ps, xs, ys, 240, rfl, Lpl, Lps, by omega, by omega, by omega, ox, oy, by decide, fun H7 td rd s7 nrd hTd lrd => ?_⟩
  refine ⟨2, rfl, by decide, by decide, ?_⟩
  refine for_range (n := 2) (fun i σ H8 => ∃ y7 y8 y9, σ = [some (.ref a), some (.ref p), some (.int m), some (.ref pl), some (.ref ps), some (.ref ph), some (.ref td), y7, y8, y9] ∧ Same H7 H8) ⟨_, _, _, rfl, Same.refl _⟩ (fun i σ H8 hi hW => ?_) (fun σ H8 hW => ?_)
  · obtain ⟨y7, y8, y9, rfl, s8⟩ := hW
    have s68 := s7.trans s8
    refine ⟨_, rfl, ph, _, 0, .ref l1, rfl, rfl, SqL.of (s68 _ _ eph), rfl, _, rfl, ph, _, 1, .ref l2, rfl, rfl, SqL.of (s68 _ _ eph), rfl, l1, l2, xs, ys, 240, rfl, L1.same s68, L2'.same s68, by omega, by omega, by omega, ox, oy, by decide, fun H9 tf rf s9 nrf hTf lrf => ?_⟩
    have hTd9 := same_seqT (s8.trans s9) hTd
    have lrd9 := (lrd.same s8).same s9
    have lzs : (hourM xs ys).2.length ≤ 1000 := by omega
    generalize hourM xs ys = hm at hTd9 lrd9 hTf lrf lzs
    refine ⟨_, rfl, _, _, _, _, true, rfl, .ty "tuple", sqT_ty hTf, kit_ty (by decide +kernel), true, rfl, iteF ?_⟩
    refine ⟨_, rfl, tf, _, rfl, .inr hTf, rfl, false, rfl, iteF ?_⟩
    refine ⟨_, rfl, tf, _, 0, _, rfl, rfl, hTf, rfl, _, rfl, true, rfl, iteF ?_⟩
    refine ⟨_, rfl, tf, _, 1, .ref rf, rfl, rfl, hTf, rfl, rf, _, rfl, lrf, lzs, fun H10 s10 => ⟨true, rfl, iteF ?_⟩⟩
    have hTf0 := same_seqT s10 hTf
    have hTd0 := same_seqT s10 hTd9
    refine ⟨_, rfl, tf, _, 0, _, rfl, rfl, hTf0, rfl, _, rfl, td, _, 0, _, rfl, rfl, hTd0, rfl, rfl, _, rfl, iteNS rfl ?_⟩
    refine ⟨_, rfl, tf, _, 1, _, rfl, rfl, hTf0, rfl, _, rfl, td, _, 1, _, rfl, rfl, hTd0, rfl, _, _, (lrf.same s10).dp, (lrd9.same s10).dp, shp_ps _, shp_ps _, _, rfl, ?_⟩
    rw [eqv_psL]
    refine iteF ?_
    obtain ⟨fs, efs, hfs⟩ := lrf.same s10
    refine ⟨_, rfl, tf, _, 1, .ref rf, rfl, rfl, hTf0, rfl, .inl ⟨rfl, _, SqL.of efs⟩, (by show 2 ≤ sizeLine; decide), fun t ht => ?_⟩
    have st := same_upd (o := .tup [.int 0, .int 1]) ht
    refine ⟨rf, _, _, rfl, rfl, st _ _ efs, small1000 (by rw [hfs.len]; omega), ?_⟩
    have sT := s68.trans (s9.trans (s10.trans st))
    have np : ∀ r o, H6 r = some o → r ≠ rf := fun r o e => ne_of_none (s68 _ _ e) nrf
    have n7 : H7 rf = none := s8.free nrf
    have s7T : Same H7 (upd (upd H10 t (.tup [.int 0, .int 1])) rf (.lst (fs ++ [.ref t]))) := same_at n7 (s8.trans (s9.trans (s10.trans st)))
    obtain ⟨H11, e11⟩ : ∃ H11, H11 = upd (upd H10 t (.tup [.int 0, .int 1])) rf (.lst (fs ++ [.ref t])) := ⟨_, rfl⟩
    rw [← e11] at s7T ⊢
    have k1 : LP K H11 l1 xs := by rw [e11]; exact (L1.same sT).off (st _ _ efs) (np _ _ el1)
    have k2 : LP K H11 l2 ys := by rw [e11]; exact (L2'.same sT).off (st _ _ efs) (np _ _ el2)
    have k3 : LP K H11 pl xs := by rw [e11]; exact (Lpl.same sT).off (st _ _ efs) (np _ _ (s6 _ _ eus))
    have k4 : LP K H11 ps ys := by rw [e11]; exact (Lps.same sT).off (st _ _ efs) (np _ _ (s6 _ _ evs))
    have k5 : H11 ph = some (.lst [.ref l1, .ref l2]) := by rw [e11, upd_ne (np _ _ eph)]; exact sT _ _ eph
    refine ⟨_, rfl, _, rfl, _, rfl, (by show 2 ≤ sizeLine; decide), fun pz hz => ?_⟩
    have sz := same_upd (o := .lst [.ref pl, .ref ps]) hz
    refine ⟨_, _, .lst (SqL.of (sz _ _ k5)) (.cons (k1.same sz).dp (.cons (k2.same sz).dp .nil)), .lst (SqL.of upd_same) (.cons (k3.same sz).dp (.cons (k4.same sz).dp .nil)), shp_2 xs ys, shp_2 xs ys, _, rfl, ?_⟩
    rw [show PyData.eqv (.list [.list (xs.map datP), .list (ys.map datP)]) (.list [.list (xs.map datP), .list (ys.map datP)]) = true from eqv_2 xs ys]
    refine iteF ?_
    exact ⟨_, _, _, rfl, s7T.trans sz⟩
  · exact q _

end
theorem all_mk {l : PySem.W.OpenLaw} {w : World} {K : PySem.W.Frag} {h : Heap} {mg : Str → Option Value} {fa f0 f1 f2 f3 f4 f5 f6 f7 f8 f9 f10 f11 f12 f13 f14 f15 f16 f17 f18 f19 f20 f21 : Addr} (X : K.In h) (G : h.Ns mainGlobals mg) (hfa : mg "law" = some (.ref fa))
    {od0 an0 : Option Addr} {sl0 : Array (Option Value)} {oc0 kV0 dc0 pm0 cd0 ct0 : Value}
    (a0 : PySem.W.nsIn K mainGlobals "common" = some (some (.ref f0))) (l0 : K.lookup f0 = some ⟨oc0, od0, .func (PySem.W.fnOf "common" "common" (defArgs s_common) (defBody s_common) (defScope s_common) .none kV0 dc0 pm0 an0 cd0 ct0), sl0⟩) (c0 : PySem.W.codeIn K cd0 "common" = true) (k0 : PySem.W.keepIn K (.ref f0) = true)
    {od1 an1 : Option Addr} {sl1 : Array (Option Value)} {oc1 kV1 dc1 pm1 cd1 ct1 : Value}
    (a1 : PySem.W.nsIn K mainGlobals "plus" = some (some (.ref f1))) (l1 : K.lookup f1 = some ⟨oc1, od1, .func (PySem.W.fnOf "plus" "plus" (defArgs s_plus) (defBody s_plus) (defScope s_plus) .none kV1 dc1 pm1 an1 cd1 ct1), sl1⟩) (c1 : PySem.W.codeIn K cd1 "plus" = true) (k1 : PySem.W.keepIn K (.ref f1) = true)
    {od2 an2 : Option Addr} {sl2 : Array (Option Value)} {oc2 kV2 dc2 pm2 cd2 ct2 : Value}
    (a2 : PySem.W.nsIn K mainGlobals "minus" = some (some (.ref f2))) (l2 : K.lookup f2 = some ⟨oc2, od2, .func (PySem.W.fnOf "minus" "minus" (defArgs s_minus) (defBody s_minus) (defScope s_minus) .none kV2 dc2 pm2 an2 cd2 ct2), sl2⟩) (c2 : PySem.W.codeIn K cd2 "minus" = true) (k2 : PySem.W.keepIn K (.ref f2) = true)
    {od3 an3 : Option Addr} {sl3 : Array (Option Value)} {oc3 kV3 dc3 pm3 cd3 ct3 : Value}
    (a3 : PySem.W.nsIn K mainGlobals "below" = some (some (.ref f3))) (l3 : K.lookup f3 = some ⟨oc3, od3, .func (PySem.W.fnOf "below" "below" (defArgs s_below) (defBody s_below) (defScope s_below) .none kV3 dc3 pm3 an3 cd3 ct3), sl3⟩) (c3 : PySem.W.codeIn K cd3 "below" = true) (k3 : PySem.W.keepIn K (.ref f3) = true)
    {od4 an4 : Option Addr} {sl4 : Array (Option Value)} {oc4 kV4 dc4 pm4 cd4 ct4 : Value}
    (a4 : PySem.W.nsIn K mainGlobals "raised" = some (some (.ref f4))) (l4 : K.lookup f4 = some ⟨oc4, od4, .func (PySem.W.fnOf "raised" "raised" (defArgs s_raised) (defBody s_raised) (defScope s_raised) .none kV4 dc4 pm4 an4 cd4 ct4), sl4⟩) (c4 : PySem.W.codeIn K cd4 "raised" = true) (k4 : PySem.W.keepIn K (.ref f4) = true)
    {od5 an5 : Option Addr} {sl5 : Array (Option Value)} {oc5 kV5 dc5 pm5 cd5 ct5 : Value}
    (a5 : PySem.W.nsIn K mainGlobals "turn_of" = some (some (.ref f5))) (l5 : K.lookup f5 = some ⟨oc5, od5, .func (PySem.W.fnOf "turn_of" "turn_of" (defArgs s_turn_of) (defBody s_turn_of) (defScope s_turn_of) .none kV5 dc5 pm5 an5 cd5 ct5), sl5⟩) (c5 : PySem.W.codeIn K cd5 "turn_of" = true) (k5 : PySem.W.keepIn K (.ref f5) = true)
    {od6 an6 : Option Addr} {sl6 : Array (Option Value)} {oc6 kV6 dc6 pm6 cd6 ct6 : Value}
    (a6 : PySem.W.nsIn K mainGlobals "dealt" = some (some (.ref f6))) (l6 : K.lookup f6 = some ⟨oc6, od6, .func (PySem.W.fnOf "dealt" "dealt" (defArgs s_dealt) (defBody s_dealt) (defScope s_dealt) .none kV6 dc6 pm6 an6 cd6 ct6), sl6⟩) (c6 : PySem.W.codeIn K cd6 "dealt" = true) (k6 : PySem.W.keepIn K (.ref f6) = true)
    {od7 an7 : Option Addr} {sl7 : Array (Option Value)} {oc7 kV7 dc7 pm7 cd7 ct7 : Value}
    (a7 : PySem.W.nsIn K mainGlobals "_law_whole" = some (some (.ref f7))) (l7 : K.lookup f7 = some ⟨oc7, od7, .func (PySem.W.fnOf "_law_whole" "_law_whole" (defArgs s__law_whole) (defBody s__law_whole) (defScope s__law_whole) .none kV7 dc7 pm7 an7 cd7 ct7), sl7⟩) (c7 : PySem.W.codeIn K cd7 "_law_whole" = true) (k7 : PySem.W.keepIn K (.ref f7) = true)
    {od8 an8 : Option Addr} {sl8 : Array (Option Value)} {oc8 kV8 dc8 pm8 cd8 ct8 : Value}
    (a8 : PySem.W.nsIn K mainGlobals "_law_low" = some (some (.ref f8))) (l8 : K.lookup f8 = some ⟨oc8, od8, .func (PySem.W.fnOf "_law_low" "_law_low" (defArgs s__law_low) (defBody s__law_low) (defScope s__law_low) .none kV8 dc8 pm8 an8 cd8 ct8), sl8⟩) (c8 : PySem.W.codeIn K cd8 "_law_low" = true) (k8 : PySem.W.keepIn K (.ref f8) = true)
    {od9 an9 : Option Addr} {sl9 : Array (Option Value)} {oc9 kV9 dc9 pm9 cd9 ct9 : Value}
    (a9 : PySem.W.nsIn K mainGlobals "_law_add" = some (some (.ref f9))) (l9 : K.lookup f9 = some ⟨oc9, od9, .func (PySem.W.fnOf "_law_add" "_law_add" (defArgs s__law_add) (defBody s__law_add) (defScope s__law_add) .none kV9 dc9 pm9 an9 cd9 ct9), sl9⟩) (c9 : PySem.W.codeIn K cd9 "_law_add" = true) (k9 : PySem.W.keepIn K (.ref f9) = true)
    {od10 an10 : Option Addr} {sl10 : Array (Option Value)} {oc10 kV10 dc10 pm10 cd10 ct10 : Value}
    (a10 : PySem.W.nsIn K mainGlobals "_law_sub" = some (some (.ref f10))) (l10 : K.lookup f10 = some ⟨oc10, od10, .func (PySem.W.fnOf "_law_sub" "_law_sub" (defArgs s__law_sub) (defBody s__law_sub) (defScope s__law_sub) .none kV10 dc10 pm10 an10 cd10 ct10), sl10⟩) (c10 : PySem.W.codeIn K cd10 "_law_sub" = true) (k10 : PySem.W.keepIn K (.ref f10) = true)
    {od11 an11 : Option Addr} {sl11 : Array (Option Value)} {oc11 kV11 dc11 pm11 cd11 ct11 : Value}
    (a11 : PySem.W.nsIn K mainGlobals "_law_less" = some (some (.ref f11))) (l11 : K.lookup f11 = some ⟨oc11, od11, .func (PySem.W.fnOf "_law_less" "_law_less" (defArgs s__law_less) (defBody s__law_less) (defScope s__law_less) .none kV11 dc11 pm11 an11 cd11 ct11), sl11⟩) (c11 : PySem.W.codeIn K cd11 "_law_less" = true) (k11 : PySem.W.keepIn K (.ref f11) = true)
    {od12 an12 : Option Addr} {sl12 : Array (Option Value)} {oc12 kV12 dc12 pm12 cd12 ct12 : Value}
    (a12 : PySem.W.nsIn K mainGlobals "_law_part" = some (some (.ref f12))) (l12 : K.lookup f12 = some ⟨oc12, od12, .func (PySem.W.fnOf "_law_part" "_law_part" (defArgs s__law_part) (defBody s__law_part) (defScope s__law_part) .none kV12 dc12 pm12 an12 cd12 ct12), sl12⟩) (c12 : PySem.W.codeIn K cd12 "_law_part" = true) (k12 : PySem.W.keepIn K (.ref f12) = true)
    {od13 an13 : Option Addr} {sl13 : Array (Option Value)} {oc13 kV13 dc13 pm13 cd13 ct13 : Value}
    (a13 : PySem.W.nsIn K mainGlobals "_law_parts" = some (some (.ref f13))) (l13 : K.lookup f13 = some ⟨oc13, od13, .func (PySem.W.fnOf "_law_parts" "_law_parts" (defArgs s__law_parts) (defBody s__law_parts) (defScope s__law_parts) .none kV13 dc13 pm13 an13 cd13 ct13), sl13⟩) (c13 : PySem.W.codeIn K cd13 "_law_parts" = true) (k13 : PySem.W.keepIn K (.ref f13) = true)
    {od14 an14 : Option Addr} {sl14 : Array (Option Value)} {oc14 kV14 dc14 pm14 cd14 ct14 : Value}
    (a14 : PySem.W.nsIn K mainGlobals "_law_first" = some (some (.ref f14))) (l14 : K.lookup f14 = some ⟨oc14, od14, .func (PySem.W.fnOf "_law_first" "_law_first" (defArgs s__law_first) (defBody s__law_first) (defScope s__law_first) .none kV14 dc14 pm14 an14 cd14 ct14), sl14⟩) (c14 : PySem.W.codeIn K cd14 "_law_first" = true) (k14 : PySem.W.keepIn K (.ref f14) = true)
    {od15 an15 : Option Addr} {sl15 : Array (Option Value)} {oc15 kV15 dc15 pm15 cd15 ct15 : Value}
    (a15 : PySem.W.nsIn K mainGlobals "_law_many_fields" = some (some (.ref f15))) (l15 : K.lookup f15 = some ⟨oc15, od15, .func (PySem.W.fnOf "_law_many_fields" "_law_many_fields" (defArgs s__law_many_fields) (defBody s__law_many_fields) (defScope s__law_many_fields) .none kV15 dc15 pm15 an15 cd15 ct15), sl15⟩) (c15 : PySem.W.codeIn K cd15 "_law_many_fields" = true) (k15 : PySem.W.keepIn K (.ref f15) = true)
    {od16 an16 : Option Addr} {sl16 : Array (Option Value)} {oc16 kV16 dc16 pm16 cd16 ct16 : Value}
    (a16 : PySem.W.nsIn K mainGlobals "_law_any" = some (some (.ref f16))) (l16 : K.lookup f16 = some ⟨oc16, od16, .func (PySem.W.fnOf "_law_any" "_law_any" (defArgs s__law_any) (defBody s__law_any) (defScope s__law_any) .none kV16 dc16 pm16 an16 cd16 ct16), sl16⟩) (c16 : PySem.W.codeIn K cd16 "_law_any" = true) (k16 : PySem.W.keepIn K (.ref f16) = true)
    {od17 an17 : Option Addr} {sl17 : Array (Option Value)} {oc17 kV17 dc17 pm17 cd17 ct17 : Value}
    (a17 : PySem.W.nsIn K mainGlobals "_law_shares" = some (some (.ref f17))) (l17 : K.lookup f17 = some ⟨oc17, od17, .func (PySem.W.fnOf "_law_shares" "_law_shares" (defArgs s__law_shares) (defBody s__law_shares) (defScope s__law_shares) .none kV17 dc17 pm17 an17 cd17 ct17), sl17⟩) (c17 : PySem.W.codeIn K cd17 "_law_shares" = true) (k17 : PySem.W.keepIn K (.ref f17) = true)
    {od18 an18 : Option Addr} {sl18 : Array (Option Value)} {oc18 kV18 dc18 pm18 cd18 ct18 : Value}
    (a18 : PySem.W.nsIn K mainGlobals "_law_hour" = some (some (.ref f18))) (l18 : K.lookup f18 = some ⟨oc18, od18, .func (PySem.W.fnOf "_law_hour" "_law_hour" (defArgs s__law_hour) (defBody s__law_hour) (defScope s__law_hour) .none kV18 dc18 pm18 an18 cd18 ct18), sl18⟩) (c18 : PySem.W.codeIn K cd18 "_law_hour" = true) (k18 : PySem.W.keepIn K (.ref f18) = true)
    {od19 an19 : Option Addr} {sl19 : Array (Option Value)} {oc19 kV19 dc19 pm19 cd19 ct19 : Value}
    (a19 : PySem.W.nsIn K mainGlobals "_law_lived" = some (some (.ref f19))) (l19 : K.lookup f19 = some ⟨oc19, od19, .func (PySem.W.fnOf "_law_lived" "_law_lived" (defArgs s__law_lived) (defBody s__law_lived) (defScope s__law_lived) .none kV19 dc19 pm19 an19 cd19 ct19), sl19⟩) (c19 : PySem.W.codeIn K cd19 "_law_lived" = true) (k19 : PySem.W.keepIn K (.ref f19) = true)
    {od20 an20 : Option Addr} {sl20 : Array (Option Value)} {oc20 kV20 dc20 pm20 cd20 ct20 : Value}
    (a20 : PySem.W.nsIn K mainGlobals "_law_flow" = some (some (.ref f20))) (l20 : K.lookup f20 = some ⟨oc20, od20, .func (PySem.W.fnOf "_law_flow" "_law_flow" (defArgs s__law_flow) (defBody s__law_flow) (defScope s__law_flow) .none kV20 dc20 pm20 an20 cd20 ct20), sl20⟩) (c20 : PySem.W.codeIn K cd20 "_law_flow" = true) (k20 : PySem.W.keepIn K (.ref f20) = true)
    {od21 an21 : Option Addr} {sl21 : Array (Option Value)} {oc21 kV21 dc21 pm21 cd21 ct21 : Value}
    (a21 : PySem.W.nsIn K mainGlobals "law" = some (some (.ref f21))) (l21 : K.lookup f21 = some ⟨oc21, od21, .func (PySem.W.fnOf "law" "law" (defArgs s_law) (defBody s_law) (defScope s_law) .none kV21 dc21 pm21 an21 cd21 ct21), sl21⟩) (c21 : PySem.W.codeIn K cd21 "law" = true) (k21 : PySem.W.keepIn K (.ref f21) = true)
    (z_zip : PySem.W.nsIn K mainGlobals "zip" = some none)
    (z_enumerate : PySem.W.nsIn K mainGlobals "enumerate" = some none)
    (z_isinstance : PySem.W.nsIn K mainGlobals "isinstance" = some none)
    (z_bool : PySem.W.nsIn K mainGlobals "bool" = some none)
    (z_int : PySem.W.nsIn K mainGlobals "int" = some none)
    (z_abs : PySem.W.nsIn K mainGlobals "abs" = some none)
    (z_len : PySem.W.nsIn K mainGlobals "len" = some none)
    (z_tuple : PySem.W.nsIn K mainGlobals "tuple" = some none)
    (z_all : PySem.W.nsIn K mainGlobals "all" = some none)
    (z_list : PySem.W.nsIn K mainGlobals "list" = some none)
    (z_range : PySem.W.nsIn K mainGlobals "range" = some none)
    (z_min : PySem.W.nsIn K mainGlobals "min" = some none)
    (z_sum : PySem.W.nsIn K mainGlobals "sum" = some none)
    : ∃ fd : FuncData, (∀ (s : Shared) (v : Value), BindsTo s fd ⟨[v], []⟩ [("_law_script", v)]) ∧ ∀ base : Heap, K.In base → base.Ns mainGlobals mg → FnOk l.prog w K mg base CX0 7 fa fd ["_law_script"] (sp_law K) := by
  have e := hfa.symm.trans (PySem.W.mg_of X G a21)
  cases e
  have F0 := fun_mk (st := s_common) l0 c0 k0
  have D_common : Df K mg "common" s_common ["a", "b"] := ⟨f0, _, F0, F0.binds (ps := ["a", "b"]) fun _ _ _ _ _ _ us hl => match us, hl with | [_, _], _ => rfl, PySem.W.mg_of X G a0⟩
  have F1 := fun_mk (st := s_plus) l1 c1 k1
  have D_plus : Df K mg "plus" s_plus ["a", "b"] := ⟨f1, _, F1, F1.binds (ps := ["a", "b"]) fun _ _ _ _ _ _ us hl => match us, hl with | [_, _], _ => rfl, PySem.W.mg_of X G a1⟩
  have F2 := fun_mk (st := s_minus) l2 c2 k2
  have D_minus : Df K mg "minus" s_minus ["a", "b"] := ⟨f2, _, F2, F2.binds (ps := ["a", "b"]) fun _ _ _ _ _ _ us hl => match us, hl with | [_, _], _ => rfl, PySem.W.mg_of X G a2⟩
  have F3 := fun_mk (st := s_below) l3 c3 k3
  have D_below : Df K mg "below" s_below ["a", "b"] := ⟨f3, _, F3, F3.binds (ps := ["a", "b"]) fun _ _ _ _ _ _ us hl => match us, hl with | [_, _], _ => rfl, PySem.W.mg_of X G a3⟩
  have F4 := fun_mk (st := s_raised) l4 c4 k4
  have D_raised : Df K mg "raised" s_raised ["lags", "shares"] := ⟨f4, _, F4, F4.binds (ps := ["lags", "shares"]) fun _ _ _ _ _ _ us hl => match us, hl with | [_, _], _ => rfl, PySem.W.mg_of X G a4⟩
  have F5 := fun_mk (st := s_turn_of) l5 c5 k5
  have D_turn_of : Df K mg "turn_of" s_turn_of ["row"] := ⟨f5, _, F5, F5.binds (ps := ["row"]) fun _ _ _ _ _ _ us hl => match us, hl with | [_], _ => rfl, PySem.W.mg_of X G a5⟩
  have F6 := fun_mk (st := s_dealt) l6 c6 k6
  have D_dealt : Df K mg "dealt" s_dealt ["lags", "shares"] := ⟨f6, _, F6, F6.binds (ps := ["lags", "shares"]) fun _ _ _ _ _ _ us hl => match us, hl with | [_, _], _ => rfl, PySem.W.mg_of X G a6⟩
  have F7 := fun_mk (st := s__law_whole) l7 c7 k7
  have D__law_whole : Df K mg "_law_whole" s__law_whole ["_law_found"] := ⟨f7, _, F7, F7.binds (ps := ["_law_found"]) fun _ _ _ _ _ _ us hl => match us, hl with | [_], _ => rfl, PySem.W.mg_of X G a7⟩
  have F8 := fun_mk (st := s__law_low) l8 c8 k8
  have D__law_low : Df K mg "_law_low" s__law_low ["_law_top", "_law_bottom"] := ⟨f8, _, F8, F8.binds (ps := ["_law_top", "_law_bottom"]) fun _ _ _ _ _ _ us hl => match us, hl with | [_, _], _ => rfl, PySem.W.mg_of X G a8⟩
  have F9 := fun_mk (st := s__law_add) l9 c9 k9
  have D__law_add : Df K mg "_law_add" s__law_add ["_law_a", "_law_b"] := ⟨f9, _, F9, F9.binds (ps := ["_law_a", "_law_b"]) fun _ _ _ _ _ _ us hl => match us, hl with | [_, _], _ => rfl, PySem.W.mg_of X G a9⟩
  have F10 := fun_mk (st := s__law_sub) l10 c10 k10
  have D__law_sub : Df K mg "_law_sub" s__law_sub ["_law_a", "_law_b"] := ⟨f10, _, F10, F10.binds (ps := ["_law_a", "_law_b"]) fun _ _ _ _ _ _ us hl => match us, hl with | [_, _], _ => rfl, PySem.W.mg_of X G a10⟩
  have F11 := fun_mk (st := s__law_less) l11 c11 k11
  have D__law_less : Df K mg "_law_less" s__law_less ["_law_a", "_law_b"] := ⟨f11, _, F11, F11.binds (ps := ["_law_a", "_law_b"]) fun _ _ _ _ _ _ us hl => match us, hl with | [_, _], _ => rfl, PySem.W.mg_of X G a11⟩
  have F12 := fun_mk (st := s__law_part) l12 c12 k12
  have D__law_part : Df K mg "_law_part" s__law_part ["_law_found"] := ⟨f12, _, F12, F12.binds (ps := ["_law_found"]) fun _ _ _ _ _ _ us hl => match us, hl with | [_], _ => rfl, PySem.W.mg_of X G a12⟩
  have F13 := fun_mk (st := s__law_parts) l13 c13 k13
  have D__law_parts : Df K mg "_law_parts" s__law_parts ["_law_found"] := ⟨f13, _, F13, F13.binds (ps := ["_law_found"]) fun _ _ _ _ _ _ us hl => match us, hl with | [_], _ => rfl, PySem.W.mg_of X G a13⟩
  have F14 := fun_mk (st := s__law_first) l14 c14 k14
  have D__law_first : Df K mg "_law_first" s__law_first ["_law_row"] := ⟨f14, _, F14, F14.binds (ps := ["_law_row"]) fun _ _ _ _ _ _ us hl => match us, hl with | [_], _ => rfl, PySem.W.mg_of X G a14⟩
  have F15 := fun_mk (st := s__law_many_fields) l15 c15 k15
  have D__law_many_fields : Df K mg "_law_many_fields" s__law_many_fields ["_law_one", "_law_top"] := ⟨f15, _, F15, F15.binds (ps := ["_law_one", "_law_top"]) fun _ _ _ _ _ _ us hl => match us, hl with | [_, _], _ => rfl, PySem.W.mg_of X G a15⟩
  have F16 := fun_mk (st := s__law_any) l16 c16 k16
  have D__law_any : Df K mg "_law_any" s__law_any ["_law_one", "_law_two"] := ⟨f16, _, F16, F16.binds (ps := ["_law_one", "_law_two"]) fun _ _ _ _ _ _ us hl => match us, hl with | [_, _], _ => rfl, PySem.W.mg_of X G a16⟩
  have F17 := fun_mk (st := s__law_shares) l17 c17 k17
  have D__law_shares : Df K mg "_law_shares" s__law_shares ["_law_row", "_law_n"] := ⟨f17, _, F17, F17.binds (ps := ["_law_row", "_law_n"]) fun _ _ _ _ _ _ us hl => match us, hl with | [_, _], _ => rfl, PySem.W.mg_of X G a17⟩
  have F18 := fun_mk (st := s__law_hour) l18 c18 k18
  have D__law_hour : Df K mg "_law_hour" s__law_hour ["_law_lags", "_law_shares_here"] := ⟨f18, _, F18, F18.binds (ps := ["_law_lags", "_law_shares_here"]) fun _ _ _ _ _ _ us hl => match us, hl with | [_, _], _ => rfl, PySem.W.mg_of X G a18⟩
  have F19 := fun_mk (st := s__law_lived) l19 c19 k19
  have D__law_lived : Df K mg "_law_lived" s__law_lived ["_law_n", "_law_row", "_law_hours"] := ⟨f19, _, F19, F19.binds (ps := ["_law_n", "_law_row", "_law_hours"]) fun _ _ _ _ _ _ us hl => match us, hl with | [_, _, _], _ => rfl, PySem.W.mg_of X G a19⟩
  have F20 := fun_mk (st := s__law_flow) l20 c20 k20
  have D__law_flow : Df K mg "_law_flow" s__law_flow ["_law_script", "_law_many"] := ⟨f20, _, F20, F20.binds (ps := ["_law_script", "_law_many"]) fun _ _ _ _ _ _ us hl => match us, hl with | [_, _], _ => rfl, PySem.W.mg_of X G a20⟩
  have F21 := fun_mk (st := s_law) l21 c21 k21
  have m_zip := PySem.W.mg_none_of X G z_zip
  have m_enumerate := PySem.W.mg_none_of X G z_enumerate
  have m_isinstance := PySem.W.mg_none_of X G z_isinstance
  have m_bool := PySem.W.mg_none_of X G z_bool
  have m_int := PySem.W.mg_none_of X G z_int
  have m_abs := PySem.W.mg_none_of X G z_abs
  have m_len := PySem.W.mg_none_of X G z_len
  have m_tuple := PySem.W.mg_none_of X G z_tuple
  have m_all := PySem.W.mg_none_of X G z_all
  have m_list := PySem.W.mg_none_of X G z_list
  have m_range := PySem.W.mg_none_of X G z_range
  have m_min := PySem.W.mg_none_of X G z_min
  have m_sum := PySem.W.mg_none_of X G z_sum
  exact ⟨_, fun s v => .of_eq rfl, fun base _ _ => ok_law (P := l.prog) (w := w) (base := base) (⟨_, _, F21, F21.binds (ps := ["_law_script"]) fun _ _ _ _ _ _ us hl => match us, hl with | [_], _ => rfl, PySem.W.mg_of X G a21⟩) D_common D_plus D_minus D_below D_raised D_turn_of D_dealt D__law_whole D__law_low D__law_add D__law_sub D__law_less D__law_part D__law_parts D__law_first D__law_many_fields D__law_any D__law_shares D__law_hour D__law_lived D__law_flow m_zip m_enumerate m_isinstance m_bool m_int m_abs m_len m_tuple m_all m_list m_range m_min m_sum⟩
end DT
open PySem PySem.W PyProof.Rows
set_option maxHeartbeats 0 in
theorem PySem.Challenge.cw_ditchturn_k10_one_hour_dealt_holds : PySem.Challenge.rw_ditchturn_k10_one_hour_dealt.Holds := by
  w_on; o_law; k_head; (case hw => w_witness2)
  k_fill
  refine L2.walk_of (l := PySem.Challenge.rw_ditchturn_k10_one_hour_dealt) (n := 63) (k := 7) (x := "_law_script") (CX := fun _ => L2.CX0) (sp := fun w => DT.sp_law _) rfl (by decide) rfl ⟨rfl, by decide, by decide⟩ (fun w h Y => PySem.W.kIn_of Y) ?F (fun _ _ a ns hl _ hS => ⟨a, ns, rfl, hS, hl, fun _ => rfl⟩) (fun _ _ _ _ _ h => h)
  case F =>
    intro w mg fa h KX G hmg
    refine' DT.all_mk KX G hmg ?a0 ?l0 ?c0 ?k0 ?a1 ?l1 ?c1 ?k1 ?a2 ?l2 ?c2 ?k2 ?a3 ?l3 ?c3 ?k3 ?a4 ?l4 ?c4 ?k4 ?a5 ?l5 ?c5 ?k5 ?a6 ?l6 ?c6 ?k6 ?a7 ?l7 ?c7 ?k7 ?a8 ?l8 ?c8 ?k8 ?a9 ?l9 ?c9 ?k9 ?a10 ?l10 ?c10 ?k10 ?a11 ?l11 ?c11 ?k11 ?a12 ?l12 ?c12 ?k12 ?a13 ?l13 ?c13 ?k13 ?a14 ?l14 ?c14 ?k14 ?a15 ?l15 ?c15 ?k15 ?a16 ?l16 ?c16 ?k16 ?a17 ?l17 ?c17 ?k17 ?a18 ?l18 ?c18 ?k18 ?a19 ?l19 ?c19 ?k19 ?a20 ?l20 ?c20 ?k20 ?a21 ?l21 ?c21 ?k21 ?z_zip ?z_enumerate ?z_isinstance ?z_bool ?z_int ?z_abs ?z_len ?z_tuple ?z_all ?z_list ?z_range ?z_min ?z_sum
    (case a0 => k_is); (case l0 => k_is); (case c0 => k_is); (case k0 => k_is); (case a1 => k_is); (case l1 => k_is); (case c1 => k_is); (case k1 => k_is); (case a2 => k_is); (case l2 => k_is); (case c2 => k_is); (case k2 => k_is); (case a3 => k_is); (case l3 => k_is); (case c3 => k_is); (case k3 => k_is); (case a4 => k_is); (case l4 => k_is); (case c4 => k_is); (case k4 => k_is); (case a5 => k_is); (case l5 => k_is); (case c5 => k_is); (case k5 => k_is); (case a6 => k_is); (case l6 => k_is); (case c6 => k_is); (case k6 => k_is); (case a7 => k_is); (case l7 => k_is); (case c7 => k_is); (case k7 => k_is); (case a8 => k_is); (case l8 => k_is); (case c8 => k_is); (case k8 => k_is); (case a9 => k_is); (case l9 => k_is); (case c9 => k_is); (case k9 => k_is); (case a10 => k_is); (case l10 => k_is); (case c10 => k_is); (case k10 => k_is); (case a11 => k_is); (case l11 => k_is); (case c11 => k_is); (case k11 => k_is); (case a12 => k_is); (case l12 => k_is); (case c12 => k_is); (case k12 => k_is); (case a13 => k_is); (case l13 => k_is); (case c13 => k_is); (case k13 => k_is); (case a14 => k_is); (case l14 => k_is); (case c14 => k_is); (case k14 => k_is); (case a15 => k_is); (case l15 => k_is); (case c15 => k_is); (case k15 => k_is); (case a16 => k_is); (case l16 => k_is); (case c16 => k_is); (case k16 => k_is); (case a17 => k_is); (case l17 => k_is); (case c17 => k_is); (case k17 => k_is); (case a18 => k_is); (case l18 => k_is); (case c18 => k_is); (case k18 => k_is); (case a19 => k_is); (case l19 => k_is); (case c19 => k_is); (case k19 => k_is); (case a20 => k_is); (case l20 => k_is); (case c20 => k_is); (case k20 => k_is); (case a21 => k_is); (case l21 => k_is); (case c21 => k_is); (case k21 => k_is); (case z_zip => k_is); (case z_enumerate => k_is); (case z_isinstance => k_is); (case z_bool => k_is); (case z_int => k_is); (case z_abs => k_is); (case z_len => k_is); (case z_tuple => k_is); (case z_all => k_is); (case z_list => k_is); (case z_range => k_is); (case z_min => k_is); (case z_sum => k_is)
